import PyProof.Rows.All
import Wide.All
import OpenK.AllK
import Wide.FinOn
import HandS.ForMost
import HandS.ExcCtx
import HandS.Wide
import HandS.TupAny
import HandS.Style
import HandS.IsInst
import HandS.StrMore
import HandS.FStr
import HandS.Deep
import HandS.TupMul
import HandS.More
import HandS.CallSlots
import HandS.SetKeys
import HandS.SortInts
import HandS.Comp
import HandS.Dict
import HandS.Small
import HandS.Zip
import HandS.WideBits
import HandS.CallLocal
import HandS.Iter
import HandS.Set
import HandS.TupSets
import PyProof.Rows.SortShellAny
import HandS.EndBits
import HandS.Words
import PySem.Challenge.RW_oncemail_k29_names_and_deeds
set_option Elab.async false
set_option linter.all false
set_option maxRecDepth 100000
section
set_option Elab.async false
set_option linter.all false
set_option maxRecDepth 100000
/-! M2: data, the store, what they stand for; a def's promise by a plain function. -/
namespace M2
open PySem PySem.Spec PyProof.Rows L2
set_option autoImplicit false
abbrev St := L2.St

/-- plain data; lists and dicts stand in the store -/
inductive D where
  | non | bl (b : Bool) | int (i : Int) | str (x : Str) | tup (ds : List D) | loc (n : Nat) | fn (x : Str) | ty (n : String)
  deriving Inhabited
inductive SO where
  | lst (w : Bool) (ds : List D)
  | dic (kvs : List (Key × D))
  deriving Inhabited
abbrev Sto := List SO
abbrev Nv := List (Option D)
inductive Rs (α : Type) where
  | ok (d : α) (S : Sto)
  | exc (c : Str) (fs : List (Str × D)) (S : Sto)
  | stuck
  deriving Inhabited
abbrev Res := Rs D
inductive SRes where
  | nx (e : Nv) (S : Sto)
  | rt (d : D) (S : Sto)
  | bk (e : Nv) (S : Sto)
  | ct (e : Nv) (S : Sto)
  | exc (c : Str) (fs : List (Str × D)) (e : Nv) (S : Sto)
  | stuck
  deriving Inhabited
def SO.wr : SO → Bool
  | .lst w _ => w
  | .dic _ => true
def stab : HO → Bool
  | .lst _ => false
  | .dK _ => false
  | .dT _ => false
  | .set _ _ => false
  | .ins _ _ _ => false
  | _ => true
/-- what does not change stands -/
def Keep (H H' : Hp) : Prop := ∀ a o, H a = some o → stab o = true → H' a = some o
theorem Keep.refl (H : Hp) : Keep H H := fun _ _ h _ => h
theorem Keep.trans {H H1 H2 : Hp} (a : Keep H H1) (b : Keep H1 H2) : Keep H H2 := fun x o h s => b x o (a x o h s) s
theorem Keep.new {H : Hp} {p : Addr} {o : HO} (h : H p = none) : Keep H (upd H p o) := fun a u e _ => by
  rw [upd_ne (ne_of_none e h)]; exact e
theorem Keep.mut {H : Hp} {p : Addr} {o u : HO} (h : H p = some u) (hs : stab u = false) : Keep H (upd H p o) := fun a v e s => by
  have : a ≠ p := fun q => by
    subst q
    rw [h] at e
    cases e
    rw [hs] at s
    cases s
  rw [upd_ne this]; exact e
/-- the addresses so far are as they were -/
def Pre (ρ ρ' : List Addr) : Prop := ∀ (n : Nat) (a : Addr), ρ[n]? = some a → ρ'[n]? = some a
theorem Pre.refl (ρ : List Addr) : Pre ρ ρ := fun _ _ h => h
theorem Pre.trans {a b c : List Addr} (h : Pre a b) (k : Pre b c) : Pre a c := fun n x e => k n x (h n x e)
theorem Pre.app (ρ τ : List Addr) : Pre ρ (ρ ++ τ) := fun n a h => by
  rw [List.getElem?_append_left (List.getElem?_eq_some_iff.mp h).1]; exact h

section
variable (K : PySem.W.Frag) (mg : Str → Option Value)
mutual
def RV (ρ : List Addr) (H : Hp) : D → V → Prop
  | .non, v => v = .non
  | .bl b, v => v = .bl b
  | .int i, v => v = .int i
  | .str x, v => v = .str x
  | .tup ds, v => ∃ a xs, v = .ref a ∧ SqT K H a xs ∧ RVs ρ H ds xs
  | .loc n, v => ∃ a, v = .ref a ∧ ρ[n]? = some a
  | .fn x, v => ∃ f, mg x = some (.ref f) ∧ v = .ref f
  | .ty n, v => v = .ty n
def RVs (ρ : List Addr) (H : Hp) : List D → List V → Prop
  | [], vs => vs = []
  | d :: ds, vs => ∃ x xs, vs = x :: xs ∧ RV ρ H d x ∧ RVs ρ H ds xs
end
def RKs (ρ : List Addr) (H : Hp) : List (Key × D) → List (Key × V) → Prop
  | [], vs => vs = []
  | d :: ds, vs => ∃ x xs, vs = (d.1, x) :: xs ∧ RV K mg ρ H d.2 x ∧ RKs ρ H ds xs
def RFs (ρ : List Addr) (H : Hp) : List (Str × D) → List (Str × V) → Prop
  | [], vs => vs = []
  | d :: ds, vs => ∃ x xs, vs = (d.1, x) :: xs ∧ RV K mg ρ H d.2 x ∧ RFs ρ H ds xs
/-- a list that nobody writes -/
def RdL (H : Hp) (a : Addr) (xs : List V) : Prop := (∃ o, H a = some (.frz o (.lst xs))) ∨
    ∃ (o : Obj) (its : Array Value) (n : Nat), K.lookup a = some o ∧ o.cls = .type "list" ∧ o.dict = none ∧ o.data = .seq its n ∧ its.size ≤ sizeLine ∧ Vals xs its.toList
def RO (ρ : List Addr) (H : Hp) (a : Addr) : SO → Prop
  | .lst true ds => ∃ xs, H a = some (.lst xs) ∧ RVs K mg ρ H ds xs
  | .lst false ds => ∃ xs, RdL K H a xs ∧ RVs K mg ρ H ds xs
  | .dic kvs => ∃ xs, H a = some (.dK xs) ∧ RKs K mg ρ H kvs xs
structure RS (ρ : List Addr) (H : Hp) (S : Sto) : Prop where
  len : ρ.length = S.length
  at_ : ∀ (n : Nat) (a : Addr) (o : SO), ρ[n]? = some a → S[n]? = some o → RO K mg ρ H a o
  inj : ∀ (n m : Nat) (a : Addr) (o o' : SO), ρ[n]? = some a → ρ[m]? = some a → S[n]? = some o → S[m]? = some o' → o.wr = true → o'.wr = true → n = m
/-- the slots -/
structure RE (ρ : List Addr) (H : Hp) (e : Nv) (σ : St) : Prop where
  len : e.length = σ.length
  at_ : ∀ (i : Nat) (d : D), e[i]? = some (some d) → ∃ v, σ[i]? = some (some v) ∧ RV K mg ρ H d v
end
section
variable {K : PySem.W.Frag} {mg : Str → Option Value} {ρ ρ' : List Addr} {H H' : Hp}
theorem sqT_keep {a : Addr} {xs : List V} (k : Keep H H') (h : SqT K H a xs) : SqT K H' a xs := by
  rcases h with (h | ⟨o, h⟩) | h
  · exact .inl (.inl (k _ _ h rfl))
  · exact .inl (.inr ⟨o, k _ _ h rfl⟩)
  · exact .inr h
theorem rdL_keep {a : Addr} {xs : List V} (k : Keep H H') (h : RdL K H a xs) : RdL K H' a xs := by
  rcases h with ⟨o, h⟩ | h
  · exact .inl ⟨o, k _ _ h rfl⟩
  · exact .inr h
theorem rdL_sq {a : Addr} {xs : List V} (h : RdL K H a xs) : SqL K H a xs := by
  rcases h with ⟨o, h⟩ | h
  · exact .inl (.inr ⟨o, h⟩)
  · exact .inr h
mutual
theorem RV.mono (p : Pre ρ ρ') (k : Keep H H') : ∀ (d : D) (v : V), RV K mg ρ H d v → RV K mg ρ' H' d v
  | .non, v, h => h
  | .bl _, v, h => h
  | .int _, v, h => h
  | .str _, v, h => h
  | .tup ds, v, h => by
    obtain ⟨a, xs, e, hs, hv⟩ := h
    exact ⟨a, xs, e, sqT_keep k hs, RVs.mono p k ds xs hv⟩
  | .loc n, v, h => by
    obtain ⟨a, e, q⟩ := h
    exact ⟨a, e, p _ _ q⟩
  | .fn _, v, h => h
  | .ty _, v, h => h
theorem RVs.mono (p : Pre ρ ρ') (k : Keep H H') : ∀ (ds : List D) (vs : List V), RVs K mg ρ H ds vs → RVs K mg ρ' H' ds vs
  | [], vs, h => h
  | d :: ds, vs, h => by
    obtain ⟨x, xs, e, h1, h2⟩ := h
    exact ⟨x, xs, e, RV.mono p k d x h1, RVs.mono p k ds xs h2⟩
end
theorem RKs.mono (p : Pre ρ ρ') (k : Keep H H') : ∀ (ds : List (Key × D)) (vs : List (Key × V)), RKs K mg ρ H ds vs → RKs K mg ρ' H' ds vs
  | [], vs, h => h
  | d :: ds, vs, h => by
    obtain ⟨x, xs, e, h1, h2⟩ := h
    exact ⟨x, xs, e, RV.mono p k _ x h1, RKs.mono p k ds xs h2⟩
theorem RFs.mono (p : Pre ρ ρ') (k : Keep H H') : ∀ (ds : List (Str × D)) (vs : List (Str × V)), RFs K mg ρ H ds vs → RFs K mg ρ' H' ds vs
  | [], vs, h => h
  | d :: ds, vs, h => by
    obtain ⟨x, xs, e, h1, h2⟩ := h
    exact ⟨x, xs, e, RV.mono p k _ x h1, RFs.mono p k ds xs h2⟩
theorem RE.mono {e : Nv} {σ : St} (p : Pre ρ ρ') (k : Keep H H') (h : RE K mg ρ H e σ) : RE K mg ρ' H' e σ :=
  ⟨h.len, fun i d q => let ⟨v, e1, r⟩ := h.at_ i d q; ⟨v, e1, r.mono p k⟩⟩
theorem RVs.length : ∀ {ds : List D} {vs : List V}, RVs K mg ρ H ds vs → ds.length = vs.length
  | [], vs, h => by rw [show vs = [] from h]; rfl
  | d :: ds, vs, h => by
    obtain ⟨x, xs, e, h1, h2⟩ := h
    rw [e, List.length_cons, List.length_cons, RVs.length h2]
theorem RVs.get : ∀ {ds : List D} {vs : List V} {i : Nat} {d : D}, RVs K mg ρ H ds vs → ds[i]? = some d → ∃ v, vs[i]? = some v ∧ RV K mg ρ H d v
  | [], vs, i, d, h, q => by simp at q
  | c :: ds, vs, 0, d, h, q => by
    obtain ⟨x, xs, rfl, h1, h2⟩ := h
    simp at q; subst q
    exact ⟨x, rfl, h1⟩
  | c :: ds, vs, i + 1, d, h, q => by
    obtain ⟨x, xs, rfl, h1, h2⟩ := h
    obtain ⟨v, e, r⟩ := RVs.get (i := i) h2 (by simpa using q)
    exact ⟨v, by simpa using e, r⟩
theorem RVs.set : ∀ {ds : List D} {vs : List V} (i : Nat) {d : D} {v : V}, RVs K mg ρ H ds vs → RV K mg ρ H d v → RVs K mg ρ H (ds.set i d) (vs.set i v)
  | [], vs, i, d, v, h, r => by rw [show vs = [] from h]; exact rfl
  | c :: ds, vs, 0, d, v, h, r => by
    obtain ⟨x, xs, rfl, h1, h2⟩ := h
    exact ⟨v, xs, rfl, r, h2⟩
  | c :: ds, vs, i + 1, d, v, h, r => by
    obtain ⟨x, xs, rfl, h1, h2⟩ := h
    exact ⟨x, _, rfl, h1, RVs.set i h2 r⟩
theorem RVs.append : ∀ {ds es : List D} {vs ws : List V}, RVs K mg ρ H ds vs → RVs K mg ρ H es ws → RVs K mg ρ H (ds ++ es) (vs ++ ws)
  | [], es, vs, ws, h, k => by rw [show vs = [] from h]; exact k
  | d :: ds, es, vs, ws, h, k => by
    obtain ⟨x, xs, rfl, h1, h2⟩ := h
    exact ⟨x, _, rfl, h1, RVs.append h2 k⟩
theorem RVs.one {d : D} {v : V} (h : RV K mg ρ H d v) : RVs K mg ρ H [d] [v] := ⟨v, [], rfl, h, rfl⟩
theorem RVs.take : ∀ {ds : List D} {vs : List V} (n : Nat), RVs K mg ρ H ds vs → RVs K mg ρ H (ds.take n) (vs.take n)
  | [], vs, n, h => by rw [show vs = [] from h]; simp [RVs]
  | d :: ds, vs, 0, h => by simp [RVs]
  | d :: ds, vs, n + 1, h => by
    obtain ⟨x, xs, rfl, h1, h2⟩ := h
    exact ⟨x, _, rfl, h1, RVs.take n h2⟩
theorem RVs.drop : ∀ {ds : List D} {vs : List V} (n : Nat), RVs K mg ρ H ds vs → RVs K mg ρ H (ds.drop n) (vs.drop n)
  | [], vs, n, h => by rw [show vs = [] from h]; simp [RVs]
  | d :: ds, vs, 0, h => h
  | d :: ds, vs, n + 1, h => by
    obtain ⟨x, xs, rfl, h1, h2⟩ := h
    exact RVs.drop n h2
theorem RVs.reverse : ∀ {ds : List D} {vs : List V}, RVs K mg ρ H ds vs → RVs K mg ρ H ds.reverse vs.reverse
  | [], vs, h => by rw [show vs = [] from h]; simp [RVs]
  | d :: ds, vs, h => by
    obtain ⟨x, xs, rfl, h1, h2⟩ := h
    rw [List.reverse_cons, List.reverse_cons]
    exact RVs.append (RVs.reverse h2) (RVs.one h1)
theorem RO.mono {a : Addr} {o : SO} (p : Pre ρ ρ') (k : Keep H H') (h : RO K mg ρ H a o) (hw : o.wr = true → H' a = H a) : RO K mg ρ' H' a o := by
  cases o with
  | lst w ds =>
    cases w with
    | true =>
      obtain ⟨xs, e, r⟩ := h
      exact ⟨xs, (hw rfl).trans e, RVs.mono p k _ _ r⟩
    | false =>
      obtain ⟨xs, e, r⟩ := h
      exact ⟨xs, rdL_keep k e, RVs.mono p k _ _ r⟩
  | dic kvs =>
    obtain ⟨xs, e, r⟩ := h
    exact ⟨xs, (hw rfl).trans e, RKs.mono p k _ _ r⟩
theorem RO.some_of {a : Addr} {o : SO} (h : RO K mg ρ H a o) (hw : o.wr = true) : ∃ u, H a = some u ∧ stab u = false := by
  cases o with
  | lst w ds =>
    cases w with
    | true =>
      obtain ⟨xs, e, r⟩ := h
      exact ⟨_, e, rfl⟩
    | false => cases hw
  | dic kvs =>
    obtain ⟨xs, e, r⟩ := h
    exact ⟨_, e, rfl⟩
/-- a new object in the store -/
theorem RS.alloc {S : Sto} {p : Addr} {ho : HO} {o : SO} (h : RS K mg ρ H S) (hp : H p = none) (ho_ : RO K mg (ρ ++ [p]) (upd H p ho) p o) : RS K mg (ρ ++ [p]) (upd H p ho) (S ++ [o]) := by
  have kp : Keep H (upd H p ho) := Keep.new hp
  refine ⟨by rw [List.length_append, List.length_append, h.len]; rfl, fun n a u e1 e2 => ?_, fun n m a u u' e1 e2 e3 e4 w1 w2 => ?_⟩
  · by_cases hn : n < S.length
    · rw [List.getElem?_append_left (by rw [h.len]; exact hn)] at e1
      rw [List.getElem?_append_left hn] at e2
      refine (h.at_ n a u e1 e2).mono (Pre.app _ _) kp fun w => ?_
      obtain ⟨z, e, _⟩ := (h.at_ n a u e1 e2).some_of w
      exact upd_ne (ne_of_none e hp)
    · rw [List.getElem?_append_right (by rw [h.len]; omega)] at e1
      rw [List.getElem?_append_right (by omega)] at e2
      rw [h.len] at e1
      have : n - S.length = 0 := by
        have := (List.getElem?_eq_some_iff.mp e2).1
        simp at this; omega
      rw [this] at e1 e2
      simp at e1 e2
      subst e1; subst e2
      exact ho_
  · have new : ∀ (n : Nat) (a : Addr) (u : SO), (ρ ++ [p])[n]? = some a → (S ++ [o])[n]? = some u → u.wr = true → (n < S.length ∧ ρ[n]? = some a ∧ S[n]? = some u ∧ a ≠ p) ∨ (n = S.length ∧ a = p) := by
      intro n a u e1 e2 w
      by_cases hn : n < S.length
      · rw [List.getElem?_append_left (by rw [h.len]; exact hn)] at e1
        rw [List.getElem?_append_left hn] at e2
        obtain ⟨z, e, _⟩ := (h.at_ n a u e1 e2).some_of w
        exact .inl ⟨hn, e1, e2, ne_of_none e hp⟩
      · rw [List.getElem?_append_right (by rw [h.len]; omega)] at e1
        rw [List.getElem?_append_right (by omega)] at e2
        rw [h.len] at e1
        have : n - S.length = 0 := by
          have := (List.getElem?_eq_some_iff.mp e2).1
          simp at this; omega
        rw [this] at e1
        simp at e1
        exact .inr ⟨by omega, e1.symm⟩
    rcases new n a u e1 e3 w1 with ⟨a1, a2, a3, a4⟩ | ⟨a1, a2⟩ <;> rcases new m a u' e2 e4 w2 with ⟨b1, b2, b3, b4⟩ | ⟨b1, b2⟩
    · exact h.inj n m a u u' a2 b2 a3 b3 w1 w2
    · exact absurd b2 a4
    · exact absurd a2 b4
    · omega
/-- an object of the store changes -/
theorem RS.set {S : Sto} {n : Nat} {a : Addr} {ho : HO} {o o' : SO} (h : RS K mg ρ H S) (ha : ρ[n]? = some a) (hs : S[n]? = some o) (hw : o.wr = true) (hn : RO K mg ρ (upd H a ho) a o') (hw' : o'.wr = true) : RS K mg ρ (upd H a ho) (S.set n o') := by
  obtain ⟨z, ez, sz⟩ := (h.at_ n a o ha hs).some_of hw
  have kp : Keep H (upd H a ho) := Keep.mut ez sz
  have nl : n < S.length := (List.getElem?_eq_some_iff.mp hs).1
  refine ⟨by rw [List.length_set, h.len], fun m b u e1 e2 => ?_, fun m k b u u' e1 e2 e3 e4 w1 w2 => ?_⟩
  · by_cases hm : m = n
    · subst hm
      rw [List.getElem?_set_self nl] at e2
      rw [ha] at e1
      cases e1; cases e2
      exact hn
    · rw [List.getElem?_set_ne (Ne.symm hm)] at e2
      refine (h.at_ m b u e1 e2).mono (Pre.refl _) kp fun w => ?_
      refine upd_ne fun q => ?_
      subst q
      exact hm (h.inj m n b u o e1 ha e2 hs w hw)
  · have old : ∀ (m : Nat) (b : Addr) (u : SO), ρ[m]? = some b → (S.set n o')[m]? = some u → u.wr = true → ∃ u0, S[m]? = some u0 ∧ u0.wr = true := by
      intro m b u e1 e2 w
      by_cases hm : m = n
      · subst hm
        exact ⟨o, hs, hw⟩
      · rw [List.getElem?_set_ne (Ne.symm hm)] at e2
        exact ⟨u, e2, w⟩
    obtain ⟨u0, q1, q2⟩ := old m b u e1 e3 w1
    obtain ⟨u1, q3, q4⟩ := old k b u' e2 e4 w2
    exact h.inj m k b u0 u1 e1 e2 q1 q3 q2 q4
/-- the address of a place of the store -/
theorem RS.addr {S : Sto} {n : Nat} {o : SO} (h : RS K mg ρ H S) (hs : S[n]? = some o) : ∃ a, ρ[n]? = some a ∧ RO K mg ρ H a o := by
  have nl : n < ρ.length := by rw [h.len]; exact (List.getElem?_eq_some_iff.mp hs).1
  exact ⟨ρ[n], List.getElem?_eq_getElem nl, h.at_ n _ o (List.getElem?_eq_getElem nl) hs⟩
/-- a list of the store, to be read -/
theorem RS.list {S : Sto} {n : Nat} {w : Bool} {ds : List D} {a : Addr} (h : RS K mg ρ H S) (ha : ρ[n]? = some a) (hs : S[n]? = some (.lst w ds)) : ∃ xs, SqL K H a xs ∧ RVs K mg ρ H ds xs := by
  have q := h.at_ n a _ ha hs
  cases w with
  | true =>
    obtain ⟨xs, e, r⟩ := q
    exact ⟨xs, .inl (.inl e), r⟩
  | false =>
    obtain ⟨xs, e, r⟩ := q
    exact ⟨xs, rdL_sq e, r⟩
theorem RE.set {e : Nv} {σ : St} {d : D} {v : V} (h : RE K mg ρ H e σ) (i : Nat) (r : RV K mg ρ H d v) : RE K mg ρ H (e.set i (some d)) (σ.set i (some v)) := by
  refine ⟨by rw [List.length_set, List.length_set, h.len], fun j c q => ?_⟩
  by_cases hj : j = i
  · subst hj
    by_cases hl : j < e.length
    · rw [List.getElem?_set_self hl] at q
      cases q
      exact ⟨v, by rw [List.getElem?_set_self (by rw [← h.len]; exact hl)], r⟩
    · rw [List.getElem?_eq_none (by simpa using hl)] at q; cases q
  · rw [List.getElem?_set_ne (Ne.symm hj)] at q ⊢
    exact h.at_ j c q
theorem RE.drop {e : Nv} {σ : St} (h : RE K mg ρ H e σ) (i : Nat) : RE K mg ρ H (e.set i none) σ := by
  refine ⟨by rw [List.length_set, h.len], fun j c q => ?_⟩
  by_cases hj : j = i
  · subst hj
    by_cases hl : j < e.length
    · rw [List.getElem?_set_self hl] at q; cases q
    · rw [List.getElem?_eq_none (by simpa using hl)] at q; cases q
  · rw [List.getElem?_set_ne (Ne.symm hj)] at q
    exact h.at_ j c q
theorem RE.drop2 {e : Nv} {σ : St} (h : RE K mg ρ H e σ) (i : Nat) : RE K mg ρ H (e.set i none) (σ.set i none) := by
  refine ⟨by rw [List.length_set, List.length_set, h.len], fun j c q => ?_⟩
  by_cases hj : j = i
  · subst hj
    by_cases hl : j < e.length
    · rw [List.getElem?_set_self hl] at q; cases q
    · rw [List.getElem?_eq_none (by simpa using hl)] at q; cases q
  · rw [List.getElem?_set_ne (Ne.symm hj)] at q ⊢
    exact h.at_ j c q
end

/-! ### the judgements -/
section
variable (K : PySem.W.Frag) (mg : Str → Option Value) (W : WX)
section
variable {α β : Type} (rel : List Addr → Hp → α → β → Prop)
def GoodG (σ : St) (ρ : List Addr) (H : Hp) (r : Rs α) (Q : β → Hp → Prop) : Prop := match r with
  | .ok d S' => ∀ v H' ρ', Pre ρ ρ' → Keep H H' → RS K mg ρ' H' S' → rel ρ' H' d v → Q v H'
  | .exc c fs S' => ∀ C dd H' ρ' vs, mg c = some (.ref C) → Pre ρ ρ' → Keep H H' → RS K mg ρ' H' S' → H' dd = some (.xd vs) → RFs K mg ρ' H' fs vs → W (.ref C) (some dd) σ H'
  | .stuck => False
def tMG (m : Nv → Sto → Rs α) : St → Hp → (β → Hp → Prop) → Prop := fun σ H Q => ∃ ρ e S, RE K mg ρ H e σ ∧ RS K mg ρ H S ∧ GoodG K mg W rel σ ρ H (m e S) Q
end
abbrev Good (σ : St) (ρ : List Addr) (H : Hp) (r : Res) (Q : VK) : Prop := GoodG K mg W (RV K mg) σ ρ H r Q
/-- an expression's reading, by a function of the slots' data and the store -/
abbrev tM (m : Nv → Sto → Res) : TE := tMG K mg W (RV K mg) m
abbrev tMA (m : Nv → Sto → Rs (List D)) : TA := tMG K mg W (RVs K mg) m
def eqR {α : Type} : List Addr → Hp → α → α → Prop := fun _ _ a b => a = b
abbrev tMT (m : Nv → Sto → Rs Bool) : TT := tMG K mg W eqR m
abbrev tMO (m : Nv → Sto → Rs (Option Int)) : TO := tMG K mg W eqR m
def GoodS (ρ : List Addr) (H : Hp) (r : SRes) (Dn : Ends) : Prop := match r with
  | .nx e S' => ∀ σ' H' ρ', Pre ρ ρ' → Keep H H' → RS K mg ρ' H' S' → RE K mg ρ' H' e σ' → Dn.nx σ' H'
  | .rt d S' => ∀ v H' ρ', Pre ρ ρ' → Keep H H' → RS K mg ρ' H' S' → RV K mg ρ' H' d v → Dn.rt v H'
  | .bk e S' => ∀ σ' H' ρ', Pre ρ ρ' → Keep H H' → RS K mg ρ' H' S' → RE K mg ρ' H' e σ' → Dn.bk σ' H'
  | .ct e S' => ∀ σ' H' ρ', Pre ρ ρ' → Keep H H' → RS K mg ρ' H' S' → RE K mg ρ' H' e σ' → Dn.ct σ' H'
  | .exc c fs e S' => ∀ C dd σ' H' ρ' vs, mg c = some (.ref C) → Pre ρ ρ' → Keep H H' → RS K mg ρ' H' S' → RE K mg ρ' H' e σ' → H' dd = some (.xd vs) → RFs K mg ρ' H' fs vs → W (.ref C) (some dd) σ' H'
  | .stuck => False
def tMS (m : Nv → Sto → SRes) : TS := fun Dn σ H => ∃ ρ e S, RE K mg ρ H e σ ∧ RS K mg ρ H S ∧ GoodS K mg W ρ H (m e S) Dn
end
section
variable {K : PySem.W.Frag} {mg : Str → Option Value} {W : WX} {σ : St} {ρ ρ' : List Addr} {H H' : Hp}
section
variable {α β : Type} {rel : List Addr → Hp → α → β → Prop}
theorem GoodG.mono {r : Rs α} {Q : β → Hp → Prop} (h : GoodG K mg W rel σ ρ H r Q) (p : Pre ρ ρ') (k : Keep H H') : GoodG K mg W rel σ ρ' H' r Q := by
  cases r with
  | ok d S => exact fun v H2 ρ2 a b => h v H2 ρ2 (p.trans a) (k.trans b)
  | exc c fs S => exact fun C dd H2 ρ2 vs m a b => h C dd H2 ρ2 vs m (p.trans a) (k.trans b)
  | stuck => exact h
/-- what is had at once -/
theorem GoodG.ok {d : α} {v : β} {S : Sto} {Q : β → Hp → Prop} (h : GoodG K mg W rel σ ρ H (.ok d S) Q) (s : RS K mg ρ H S) (r : rel ρ H d v) : Q v H := h v H ρ (Pre.refl _) (Keep.refl _) s r
theorem GoodG.ok' {d : α} {v : β} {S : Sto} {Q : β → Hp → Prop} (h : GoodG K mg W rel σ ρ H (.ok d S) Q) (p : Pre ρ ρ') (k : Keep H H') (s : RS K mg ρ' H' S) (r : rel ρ' H' d v) : Q v H' := h v H' ρ' p k s r
end
theorem GoodS.mono {r : SRes} {Dn : Ends} (h : GoodS K mg W ρ H r Dn) (p : Pre ρ ρ') (k : Keep H H') : GoodS K mg W ρ' H' r Dn := by
  cases r with
  | nx e S => exact fun s2 H2 ρ2 a b => h s2 H2 ρ2 (p.trans a) (k.trans b)
  | rt d S => exact fun v H2 ρ2 a b => h v H2 ρ2 (p.trans a) (k.trans b)
  | bk e S => exact fun s2 H2 ρ2 a b => h s2 H2 ρ2 (p.trans a) (k.trans b)
  | ct e S => exact fun s2 H2 ρ2 a b => h s2 H2 ρ2 (p.trans a) (k.trans b)
  | exc c fs e S => exact fun C dd s2 H2 ρ2 vs m a b => h C dd s2 H2 ρ2 vs m (p.trans a) (k.trans b)
  | stuck => exact h
end
def Rs.bind {α β : Type} (r : Rs α) (f : α → Sto → Rs β) : Rs β := match r with
  | .ok d S => f d S
  | .exc c fs S => .exc c fs S
  | .stuck => .stuck
def Rs.bindS {α : Type} (r : Rs α) (e : Nv) (f : α → Sto → SRes) : SRes := match r with
  | .ok d S => f d S
  | .exc c fs S => .exc c fs e S
  | .stuck => .stuck
section
variable {K : PySem.W.Frag} {mg : Str → Option Value} {W : WX} {σ : St} {ρ ρ' : List Addr} {H H' : Hp} {α β γ δ : Type} {rel : List Addr → Hp → α → β → Prop} {rel2 : List Addr → Hp → γ → δ → Prop}
/-- first this, then that -/
theorem GoodG.bind {r : Rs α} {f : α → Sto → Rs γ} {Q : β → Hp → Prop} {Q2 : δ → Hp → Prop} (h : GoodG K mg W rel2 σ ρ H (r.bind f) Q2)
    (k : ∀ d S' v H' ρ', r = .ok d S' → Pre ρ ρ' → Keep H H' → RS K mg ρ' H' S' → rel ρ' H' d v → GoodG K mg W rel2 σ ρ' H' (f d S') Q2 → Q v H') : GoodG K mg W rel σ ρ H r Q := by
  cases r with
  | ok d S => exact fun v H2 ρ2 a b s q => k d S v H2 ρ2 rfl a b s q (GoodG.mono (r := f d S) h a b)
  | exc c fs S => exact h
  | stuck => exact h
theorem GoodG.bindS {r : Rs α} {f : α → Sto → SRes} {e : Nv} {Q : β → Hp → Prop} {Dn : Ends} (re : RE K mg ρ H e σ) (h : GoodS K mg W ρ H (r.bindS e f) Dn)
    (k : ∀ d S' v H' ρ', r = .ok d S' → Pre ρ ρ' → Keep H H' → RS K mg ρ' H' S' → rel ρ' H' d v → GoodS K mg W ρ' H' (f d S') Dn → Q v H') : GoodG K mg W rel σ ρ H r Q := by
  cases r with
  | ok d S => exact fun v H2 ρ2 a b s q => k d S v H2 ρ2 rfl a b s q (GoodS.mono (r := f d S) h a b)
  | exc c fs S => exact fun C dd H2 ρ2 vs m a b s hd hf => h C dd σ H2 ρ2 vs m a b s (re.mono a b) hd hf
  | stuck => exact h
end
theorem PE.imp {X : Cx} {e : Expr} {t t' : TE} (h : PE X e t) (k : ∀ σ H Q, t' σ H Q → t σ H Q) : PE X e t' := ⟨fun pins s σ H Q I q => h.run pins s σ H Q I (k _ _ _ q)⟩
theorem PT.imp {X : Cx} {e : Expr} {t t' : TT} (h : PT X e t) (k : ∀ σ H Q, t' σ H Q → t σ H Q) : PT X e t' := ⟨fun pins s σ H Q I q => h.run pins s σ H Q I (k _ _ _ q)⟩
theorem PW.imp {X : Cx} {e : Expr} {t t' : TT} (h : PW X e t) (k : ∀ σ H Q, t' σ H Q → t σ H Q) : PW X e t' := ⟨fun wh pins s σ H Q I q => h.run wh pins s σ H Q I (k _ _ _ q)⟩
theorem PA.imp {X : Cx} {e : List Expr} {t t' : TA} (h : PA X e t) (k : ∀ σ H Q, t' σ H Q → t σ H Q) : PA X e t' := ⟨fun p pins s σ H Q I q => h.run p pins s σ H Q I (k _ _ _ q)⟩
theorem PS.imp {X : Cx} {e : Stmt} {t t' : TS} (h : PS X e t) (k : ∀ D σ H, t' D σ H → t D σ H) : PS X e t' := ⟨fun pins s σ H D I q => h.run pins s σ H D I (k _ _ _ q)⟩
theorem PSs.imp {X : Cx} {e : List Stmt} {t t' : TS} (h : PSs X e t) (k : ∀ D σ H, t' D σ H → t D σ H) : PSs X e t' := ⟨fun pins s σ H D I q => h.run pins s σ H D I (k _ _ _ q)⟩
end M2
end

section
set_option Elab.async false
set_option linter.all false
set_option maxRecDepth 100000
/-! M2: operators by data. -/
namespace M2
open PySem PySem.Spec PyProof.Rows L2
set_option autoImplicit false
/-- what is reached: d at the store S -/
def Fin (K : PySem.W.Frag) (mg : Str → Option Value) (ρ : List Addr) (H : Hp) (d : D) (S : Sto) (Q : VK) : Prop := ∀ v H' ρ', Pre ρ ρ' → Keep H H' → RS K mg ρ' H' S → RV K mg ρ' H' d v → Q v H'
section
variable {K : PySem.W.Frag} {mg : Str → Option Value} {ρ ρ' : List Addr} {H H' : Hp} {d : D} {S : Sto} {Q : VK} {v : V}
theorem Fin.now (h : Fin K mg ρ H d S Q) (s : RS K mg ρ H S) (r : RV K mg ρ H d v) : Q v H := h v H ρ (Pre.refl _) (Keep.refl _) s r
/-- a new list -/
theorem Fin.lnew {ds : List D} {xs : List V} {S0 : Sto} (h : Fin K mg ρ H (.loc S0.length) (S0 ++ [.lst true ds]) Q) (s : RS K mg ρ H S0) (r : RVs K mg ρ H ds xs) {p : Addr} (hp : H p = none) : Q (.ref p) (upd H p (.lst xs)) := by
  have k := Keep.new (o := .lst xs) hp
  refine h _ _ (ρ ++ [p]) (Pre.app _ _) k (s.alloc hp ⟨xs, upd_same, RVs.mono (Pre.app _ _) k _ _ r⟩) ⟨p, rfl, ?_⟩
  rw [← s.len, List.getElem?_append_right (Nat.le_refl _)]; simp
/-- a new tuple -/
theorem Fin.tnew {ds : List D} {xs : List V} (h : Fin K mg ρ H (.tup ds) S Q) (s : RS K mg ρ H S) (r : RVs K mg ρ H ds xs) {p : Addr} (hp : H p = none) : Q (.ref p) (upd H p (.tup xs)) := by
  have k := Keep.new (o := .tup xs) hp
  refine h _ _ ρ (Pre.refl _) k ⟨s.len, fun n a o e1 e2 => (s.at_ n a o e1 e2).mono (Pre.refl _) k fun w => ?_, s.inj⟩ ⟨p, xs, rfl, .inl (.inl upd_same), RVs.mono (Pre.refl _) k _ _ r⟩
  obtain ⟨z, e, _⟩ := (s.at_ n a o e1 e2).some_of w
  exact upd_ne (ne_of_none e hp)
end
abbrev Op2 := D → D → Sto → Option (D × Sto)
abbrev Op1 := D → Sto → Option (D × Sto)
abbrev OpL := List D → Sto → Option (D × Sto)
abbrev OpM := D → List D → Sto → Option (D × Sto)
section
variable (K : PySem.W.Frag) (mg : Str → Option Value)
def rM2 (mo : Op2) : R2 := fun x y H Q => ∃ ρ S d1 d2 d3 S3, RS K mg ρ H S ∧ RV K mg ρ H d1 x ∧ RV K mg ρ H d2 y ∧ mo d1 d2 S = some (d3, S3) ∧ Fin K mg ρ H d3 S3 Q
def rM1 (mo : Op1) : V → Hp → VK → Prop := fun x H Q => ∃ ρ S d1 d3 S3, RS K mg ρ H S ∧ RV K mg ρ H d1 x ∧ mo d1 S = some (d3, S3) ∧ Fin K mg ρ H d3 S3 Q
def rML (mo : OpL) : List V → Hp → VK → Prop := fun xs H Q => ∃ ρ S ds d3 S3, RS K mg ρ H S ∧ RVs K mg ρ H ds xs ∧ mo ds S = some (d3, S3) ∧ Fin K mg ρ H d3 S3 Q
def rMM (mo : OpM) : V → List V → Hp → VK → Prop := fun x xs H Q => ∃ ρ S d ds d3 S3, RS K mg ρ H S ∧ RV K mg ρ H d x ∧ RVs K mg ρ H ds xs ∧ mo d ds S = some (d3, S3) ∧ Fin K mg ρ H d3 S3 Q
end

/-! ### + - * // % ** -/
def oAdd : Op2 := fun a b S => match a, b with
  | .int i, .int j => some (.int (i + j), S)
  | .str x, .str y => if x.length + y.length ≤ sizeLine then some (.str (x ++ y), S) else none
  | .tup xs, .tup ys => if xs.length + ys.length ≤ sizeLine then some (.tup (xs ++ ys), S) else none
  | .loc m, .loc n => match S[m]?, S[n]? with
    | some (.lst true xs), some (.lst true ys) => if xs.length + ys.length ≤ sizeLine then some (.loc S.length, S ++ [.lst true (xs ++ ys)]) else none
    | _, _ => none
  | _, _ => none
def oSub : Op2 := fun a b S => match a, b with
  | .int i, .int j => some (.int (i - j), S)
  | _, _ => none
def oMul : Op2 := fun a b S => match a, b with
  | .int i, .int j => if i.natAbs.log2 + j.natAbs.log2 < 4000000 then some (.int (i * j), S) else none
  | .str x, .int j => if 0 ≤ j ∧ j < 1000000000 ∧ x.length * j.toNat ≤ 100000 then some (.str (Txt.mul x j), S) else none
  | .loc m, .int k => match S[m]? with
    | some (.lst true xs) => if 0 ≤ k ∧ k < 1000000000 ∧ xs.length * k.toNat ≤ sizeLine then some (.loc S.length, S ++ [.lst true (List.replicate k.toNat xs).flatten]) else none
    | _ => none
  | _, _ => none
def oFdiv : Op2 := fun a b S => match a, b with
  | .int i, .int j => if 0 < j ∧ j.natAbs.log2 < 9000 then some (.int (i / j), S) else none
  | _, _ => none
def oMod : Op2 := fun a b S => match a, b with
  | .int i, .int j => if 0 < j then some (.int (i % j), S) else none
  | _, _ => none
def oPow : Op2 := fun a b S => match a, b with
  | .int i, .int j => if 0 ≤ j ∧ j ≤ 1000000 ∧ i.natAbs < 2 ^ 64 then some (.int (i ^ j.toNat), S) else none
  | _, _ => none
section
variable {X : Cx}
theorem om_add : OpR X (binaryOp .Add) (rM2 X.K X.mg oAdd) := by
  intro pins s σ H x y v u Q I rx ry ⟨ρ, S, d1, d2, d3, S3, rs, r1, r2, e, q⟩
  unfold oAdd at e
  split at e
  · cases r1; cases r2; cases e
    exact op_add pins s σ H _ _ v u Q I rx ry ⟨_, _, rfl, rfl, q.now rs rfl⟩
  · cases r1; cases r2
    split at e
    · rename_i h; cases e
      exact op_add_str pins s σ H _ _ v u Q I rx ry ⟨_, _, rfl, rfl, h, q.now rs rfl⟩
    · cases e
  · rename_i xs ys
    split at e
    · rename_i h; cases e
      obtain ⟨a, vs, rfl, sa, ra⟩ := r1
      obtain ⟨b, ws, rfl, sb, rb⟩ := r2
      have e1 := ra.length
      have e2 := rb.length
      refine op_catA pins s σ H _ _ v u Q I rx ry ⟨a, b, vs, ws, rfl, rfl, sa, sb, by omega, fun z => ?_, fun z1 z2 => ?_, fun z1 z2 p hp => q.tnew rs (ra.append rb) hp⟩
      · subst z
        have : xs = [] := List.length_eq_zero_iff.mp (by simpa using e1)
        subst this
        exact q.now rs ⟨b, ws, rfl, sb, rb⟩
      · subst z2
        have : ys = [] := List.length_eq_zero_iff.mp (by simpa using e2)
        subst this
        rw [List.append_nil] at q
        exact q.now rs ⟨a, vs, rfl, sa, ra⟩
    · cases e
  · split at e
    · rename_i h1 h2
      split at e
      · rename_i h; cases e
        obtain ⟨a, rfl, pa⟩ := r1
        obtain ⟨b, rfl, pb⟩ := r2
        obtain ⟨vs, ea, ra⟩ := rs.at_ _ _ _ pa h1
        obtain ⟨ws, eb, rb⟩ := rs.at_ _ _ _ pb h2
        have e1 := ra.length
        have e2 := rb.length
        exact op_cat pins s σ H _ _ v u Q I rx ry ⟨a, b, vs, ws, rfl, rfl, ea, eb, by omega, fun p hp => q.lnew rs (ra.append rb) hp⟩
      · cases e
    · cases e
  · cases e
theorem om_sub : OpR X (binaryOp .Sub) (rM2 X.K X.mg oSub) := by
  intro pins s σ H x y v u Q I rx ry ⟨ρ, S, d1, d2, d3, S3, rs, r1, r2, e, q⟩
  unfold oSub at e
  split at e
  · cases r1; cases r2; cases e
    exact op_sub pins s σ H _ _ v u Q I rx ry ⟨_, _, rfl, rfl, q.now rs rfl⟩
  · cases e
theorem om_fdiv : OpR X (binaryOp .FloorDiv) (rM2 X.K X.mg oFdiv) := by
  intro pins s σ H x y v u Q I rx ry ⟨ρ, S, d1, d2, d3, S3, rs, r1, r2, e, q⟩
  unfold oFdiv at e
  split at e
  · cases r1; cases r2
    split at e
    · rename_i h; cases e
      exact op_fdivW pins s σ H _ _ v u Q I rx ry ⟨_, _, rfl, rfl, h, q.now rs rfl⟩
    · cases e
  · cases e
theorem om_mod : OpR X (binaryOp .Mod) (rM2 X.K X.mg oMod) := by
  intro pins s σ H x y v u Q I rx ry ⟨ρ, S, d1, d2, d3, S3, rs, r1, r2, e, q⟩
  unfold oMod at e
  split at e
  · cases r1; cases r2
    split at e
    · rename_i h; cases e
      exact op_mod pins s σ H _ _ v u Q I rx ry ⟨_, _, rfl, rfl, h, q.now rs rfl⟩
    · cases e
  · cases e
theorem om_pow : OpR X (binaryOp .Pow) (rM2 X.K X.mg oPow) := by
  intro pins s σ H x y v u Q I rx ry ⟨ρ, S, d1, d2, d3, S3, rs, r1, r2, e, q⟩
  unfold oPow at e
  split at e
  · cases r1; cases r2
    split at e
    · rename_i h; cases e
      exact op_pow pins s σ H _ _ v u Q I rx ry ⟨_, _, rfl, rfl, h, q.now rs rfl⟩
    · cases e
  · cases e
end
end M2
end

section
set_option Elab.async false
set_option linter.all false
set_option maxRecDepth 100000
/-! M2: comparisons by data. -/
namespace M2
open PySem PySem.Spec PyProof.Rows L2
set_option autoImplicit false
/-- what data is, lists read from the store -/
def toP : Nat → Sto → D → Option PyData
  | 0, _, _ => none
  | n + 1, S, d => match d with
    | .non => some .none
    | .bl b => some (.bool b)
    | .int i => some (.int i)
    | .str x => some (.str x)
    | .tup ds => (ds.mapM (toP n S)).map .tuple
    | .loc k => match S[k]? with
      | some (.lst _ ds) => (ds.mapM (toP n S)).map .list
      | _ => none
    | _ => none
section
variable {K : PySem.W.Frag} {mg : Str → Option Value} {ρ : List Addr} {H : Hp} {S : Sto}
theorem dpAll_of {n : Nat} (ih : ∀ (d : D) (v : V) (p : PyData), RV K mg ρ H d v → toP n S d = some p → Dp K H v p) : ∀ (ds : List D) (vs : List V) (ps : List PyData), RVs K mg ρ H ds vs → ds.mapM (toP n S) = some ps → DpAll K H vs ps
  | [], vs, ps, h, e => by
    rw [show vs = [] from h]
    cases e
    exact .nil
  | d :: ds, vs, ps, h, e => by
    obtain ⟨x, xs, rfl, h1, h2⟩ := h
    rw [List.mapM_cons] at e
    cases e1 : toP n S d with
    | none => rw [e1] at e; cases e
    | some p =>
      rw [e1] at e
      cases e2 : ds.mapM (toP n S) with
      | none => rw [e2] at e; cases e
      | some ps' =>
        rw [e2] at e
        cases e
        exact .cons (ih d x p h1 e1) (dpAll_of ih ds xs ps' h2 e2)
theorem dp_of (rs : RS K mg ρ H S) : ∀ (n : Nat) (d : D) (v : V) (p : PyData), RV K mg ρ H d v → toP n S d = some p → Dp K H v p
  | 0, _, _, _, _, e => by cases e
  | n + 1, d, v, p, r, e => by
    have ih := dp_of rs n
    cases d with
    | non => cases r; cases e; exact .non
    | bl b => cases r; cases e; exact .bl b
    | int i => cases r; cases e; exact .int i
    | str x => cases r; cases e; exact .str x
    | tup ds =>
      obtain ⟨a, xs, rfl, hs, hv⟩ := r
      have e : (ds.mapM (toP n S)).map PyData.tuple = some p := e
      cases e1 : ds.mapM (toP n S) with
      | none => rw [e1] at e; cases e
      | some ps =>
        rw [e1] at e
        cases e
        exact .tup hs (dpAll_of ih ds xs ps hv e1)
    | loc k =>
      obtain ⟨a, rfl, pa⟩ := r
      have e : (match S[k]? with
        | some (.lst _ ds) => (ds.mapM (toP n S)).map PyData.list
        | _ => none) = some p := e
      cases e0 : S[k]? with
      | none => rw [e0] at e; cases e
      | some o =>
        cases o with
        | dic kvs => rw [e0] at e; cases e
        | lst w ds =>
          rw [e0] at e
          have e : (ds.mapM (toP n S)).map PyData.list = some p := e
          cases e1 : ds.mapM (toP n S) with
          | none => rw [e1] at e; cases e
          | some ps =>
            rw [e1] at e
            cases e
            obtain ⟨xs, hx, hv⟩ := rs.list pa e0
            exact .lst hx (dpAll_of ih ds xs ps hv e1)
    | fn x => cases e
    | ty x => cases e
end
/-- a pair as data that can be compared -/
def eqD (S : Sto) (a b : D) : Option Bool := match a, b with
  | .int i, .int j => some (decide (i = j))
  | .str x, .str y => some (decide (x = y))
  | _, _ => match toP 65 S a, toP 65 S b with
    | some p, some q => if (SeqAt.shaped p && SeqAt.shaped q) = true then some (PyData.eqv p q) else none
    | _, _ => none
def oEq : Op2 := fun a b S => (eqD S a b).map fun k => (.bl k, S)
def oNe : Op2 := fun a b S => (eqD S a b).map fun k => (.bl !k, S)
/-- the items' data and the thing's -/
def inD (S : Sto) (a b : D) : Option Bool := match b with
  | .str y => match a with
    | .str x => some (!(Builtin.Str.occurrences y x 0 y.length 1).isEmpty)
    | _ => none
  | _ => match toP 65 S a, toP 65 S b with
    | some p, some (.list ds) => if (SeqAt.shaped p && SeqAt.shaped (.list ds)) = true then some (ds.any fun z => PyData.eqv z p) else none
    | some p, some (.tuple ds) => if (SeqAt.shaped p && SeqAt.shaped (.tuple ds)) = true then some (ds.any fun z => PyData.eqv z p) else none
    | _, _ => none
def oIn : Op2 := fun a b S => (inD S a b).map fun k => (.bl k, S)
def oNotIn : Op2 := fun a b S => (inD S a b).map fun k => (.bl !k, S)
def oLt : Op2 := fun a b S => match a, b with
  | .int i, .int j => some (.bl (decide (i < j)), S)
  | .str x, .str y => some (.bl (decide (x.cps.toList < y.cps.toList)), S)
  | _, _ => none
def oLe : Op2 := fun a b S => match a, b with
  | .int i, .int j => some (.bl (decide (i ≤ j)), S)
  | _, _ => none
def oGt : Op2 := fun a b S => match a, b with
  | .int i, .int j => some (.bl (decide (j < i)), S)
  | _, _ => none
def oGe : Op2 := fun a b S => match a, b with
  | .int i, .int j => some (.bl (decide (j ≤ i)), S)
  | _, _ => none
/-- is None, True, False, a type -/
def isD (a b : D) : Option Bool := match b with
  | .non => some (match a with | .non => true | _ => false)
  | .bl k => match a with
    | .bl j => some (decide (j = k))
    | .fn _ => none
    | .ty _ => none
    | _ => some false
  | .ty n => match a with
    | .ty m => some (decide (m = n))
    | _ => none
  | _ => none
def oIs : Op2 := fun a b S => (isD a b).map fun k => (.bl k, S)
def oIsNot : Op2 := fun a b S => (isD a b).map fun k => (.bl !k, S)
section
variable {X : Cx}
theorem map_some {α β : Type} {o : Option α} {f : α → β} {b : β} (h : o.map f = some b) : ∃ a, o = some a ∧ f a = b := by
  cases o with
  | none => cases h
  | some a => exact ⟨a, rfl, Option.some.inj h⟩
theorem om_eq (hu : X.A.units + 64 < cLine) : OpR X (compareOp .Eq) (rM2 X.K X.mg oEq) := by
  intro pins s σ H x y v u Q I rx ry ⟨ρ, S, d1, d2, d3, S3, rs, r1, r2, e, q⟩
  obtain ⟨k, e0, e3⟩ := map_some e
  clear e
  have e := e0
  clear e0
  cases e3
  unfold eqD at e
  split at e
  · cases r1; cases r2; cases e
    refine op_eq pins s σ H _ _ v u Q I rx ry ⟨rfl, ?_⟩
    have := q.now rs rfl
    simpa using this
  · cases r1; cases r2; cases e
    refine op_eq pins s σ H _ _ v u Q I rx ry ⟨rfl, ?_⟩
    have := q.now rs rfl
    simpa using this
  · split at e
    · rename_i p1 p2 h1 h2
      split at e
      · rename_i h; cases e
        rw [Bool.and_eq_true] at h
        exact op_eqD hu pins s σ H _ _ v u Q I rx ry ⟨p1, p2, dp_of rs _ _ _ _ r1 h1, dp_of rs _ _ _ _ r2 h2, h.1, h.2, q.now rs rfl⟩
      · cases e
    · cases e
theorem om_ne (hu : X.A.units + 64 < cLine) : OpR X (compareOp .NotEq) (rM2 X.K X.mg oNe) := by
  intro pins s σ H x y v u Q I rx ry ⟨ρ, S, d1, d2, d3, S3, rs, r1, r2, e, q⟩
  obtain ⟨k, e0, e3⟩ := map_some e
  clear e
  have e := e0
  clear e0
  cases e3
  unfold eqD at e
  split at e
  · cases r1; cases r2; cases e
    refine op_ne pins s σ H _ _ v u Q I rx ry ⟨rfl, ?_⟩
    have := q.now rs rfl
    simpa using this
  · cases r1; cases r2; cases e
    refine op_ne pins s σ H _ _ v u Q I rx ry ⟨rfl, ?_⟩
    have := q.now rs rfl
    simpa using this
  · split at e
    · rename_i p1 p2 h1 h2
      split at e
      · rename_i h; cases e
        rw [Bool.and_eq_true] at h
        exact op_neD hu pins s σ H _ _ v u Q I rx ry ⟨p1, p2, dp_of rs _ _ _ _ r1 h1, dp_of rs _ _ _ _ r2 h2, h.1, h.2, q.now rs rfl⟩
      · cases e
    · cases e
/-- x in t, t a tuple of data -/
theorem op_inDT (hu : X.A.units + 65 < cLine) {neg : Bool} : OpR X (compareOp (if neg then .NotIn else .In)) (fun x y H Q => ∃ d ds, Dp X.K H x d ∧ Dp X.K H y (.tuple ds) ∧ SeqAt.shaped d = true ∧ SeqAt.shaped (.tuple ds) = true ∧ Q (.bl (if neg then !ds.any fun z => PyData.eqv z d else ds.any fun z => PyData.eqv z d)) H) := by
  intro pins s σ H x y v u Q I rx ry h
  obtain ⟨d, ds, hd, he, sd, se, q⟩ := h
  obtain ⟨as, r1⟩ := Dp.reads I d x v hd rx
  have hxs : PyData.canLayAll0 ds = true := SeqAt.canLay_of_shaped se
  have hroom : X.A.units + 1 + min (PyData.depthAll ds) d.depth < cLine := by
    have h1 := SeqAt.depth_of_shaped sd
    have h2 : min (PyData.depthAll ds) d.depth ≤ d.depth := Nat.min_le_right _ _
    omega
  cases he with
  | tup hs ha =>
    cases ry
    obtain ⟨its, rv, pl, hlen⟩ := I.tuple hs
    obtain ⟨bs, h4⟩ := Dp.readsAll I ds _ its ha rv
    have hmap : its.map (SeqAt.readOf s.heap) = ds := SeqAt.readsAll_map ds its bs hxs h4
    have hany : its.toArray.any (fun u => PyData.eqv (SeqAt.readOf s.heap u) d) = ds.any fun z => PyData.eqv z d := by
      rw [← hmap, List.any_map]
      simp [Function.comp_def]
    have eqs := SeqAt.items_eqAt (vs := its.toArray) (A := X.A) (show ReadsAll s.heap its.toArray.toList ds bs from h4) r1 hxs (SeqAt.canLay_of_shaped sd) hroom
    cases neg with
    | true => exact SeqAt.notIn_tupleAt (fun u => PyData.eqv (SeqAt.readOf s.heap u) d) pl eqs ⟨.bl _, H, I, rfl, by rw [hany]; exact q⟩
    | false => exact SeqAt.in_tupleAt (fun u => PyData.eqv (SeqAt.readOf s.heap u) d) pl eqs ⟨.bl _, H, I, rfl, by rw [hany]; exact q⟩
theorem om_in (hu : X.A.units + 65 < cLine) : OpR X (compareOp .In) (rM2 X.K X.mg oIn) := by
  intro pins s σ H x y v u Q I rx ry ⟨ρ, S, d1, d2, d3, S3, rs, r1, r2, e, q⟩
  obtain ⟨k, e0, e3⟩ := map_some e
  clear e
  have e := e0
  clear e0
  cases e3
  unfold inD at e
  split at e
  · split at e
    · cases r1; cases r2; cases e
      exact op_in_str pins s σ H _ _ v u Q I rx ry ⟨_, _, rfl, rfl, q.now rs rfl⟩
    · cases e
  · split at e
    · rename_i h1 h2
      split at e
      · rename_i h; cases e
        rw [Bool.and_eq_true] at h
        exact op_inD hu pins s σ H _ _ v u Q I rx ry ⟨_, _, dp_of rs _ _ _ _ r1 h1, dp_of rs _ _ _ _ r2 h2, h.1, h.2, q.now rs rfl⟩
      · cases e
    · rename_i h1 h2
      split at e
      · rename_i h; cases e
        rw [Bool.and_eq_true] at h
        exact op_inDT (neg := false) hu pins s σ H _ _ v u Q I rx ry ⟨_, _, dp_of rs _ _ _ _ r1 h1, dp_of rs _ _ _ _ r2 h2, h.1, h.2, q.now rs rfl⟩
      · cases e
    · cases e
theorem om_notIn (hu : X.A.units + 65 < cLine) : OpR X (compareOp .NotIn) (rM2 X.K X.mg oNotIn) := by
  intro pins s σ H x y v u Q I rx ry ⟨ρ, S, d1, d2, d3, S3, rs, r1, r2, e, q⟩
  obtain ⟨k, e0, e3⟩ := map_some e
  clear e
  have e := e0
  clear e0
  cases e3
  unfold inD at e
  split at e
  · split at e
    · cases r1; cases r2; cases e
      exact op_notIn_str pins s σ H _ _ v u Q I rx ry ⟨_, _, rfl, rfl, q.now rs rfl⟩
    · cases e
  · split at e
    · rename_i h1 h2
      split at e
      · rename_i h; cases e
        rw [Bool.and_eq_true] at h
        exact op_notInD hu pins s σ H _ _ v u Q I rx ry ⟨_, _, dp_of rs _ _ _ _ r1 h1, dp_of rs _ _ _ _ r2 h2, h.1, h.2, q.now rs rfl⟩
      · cases e
    · rename_i h1 h2
      split at e
      · rename_i h; cases e
        rw [Bool.and_eq_true] at h
        exact op_inDT (neg := true) hu pins s σ H _ _ v u Q I rx ry ⟨_, _, dp_of rs _ _ _ _ r1 h1, dp_of rs _ _ _ _ r2 h2, h.1, h.2, q.now rs rfl⟩
      · cases e
    · cases e
theorem om_lt : OpR X (compareOp .Lt) (rM2 X.K X.mg oLt) := by
  intro pins s σ H x y v u Q I rx ry ⟨ρ, S, d1, d2, d3, S3, rs, r1, r2, e, q⟩
  unfold oLt at e
  split at e
  · cases r1; cases r2; cases e
    exact op_lt pins s σ H _ _ v u Q I rx ry ⟨_, _, rfl, rfl, q.now rs rfl⟩
  · cases r1; cases r2; cases e
    exact op_lt_str pins s σ H _ _ v u Q I rx ry ⟨_, _, rfl, rfl, q.now rs rfl⟩
  · cases e
theorem om_le : OpR X (compareOp .LtE) (rM2 X.K X.mg oLe) := by
  intro pins s σ H x y v u Q I rx ry ⟨ρ, S, d1, d2, d3, S3, rs, r1, r2, e, q⟩
  unfold oLe at e
  split at e
  · cases r1; cases r2; cases e
    exact op_le pins s σ H _ _ v u Q I rx ry ⟨_, _, rfl, rfl, q.now rs rfl⟩
  · cases e
theorem om_gt : OpR X (compareOp .Gt) (rM2 X.K X.mg oGt) := by
  intro pins s σ H x y v u Q I rx ry ⟨ρ, S, d1, d2, d3, S3, rs, r1, r2, e, q⟩
  unfold oGt at e
  split at e
  · cases r1; cases r2; cases e
    exact op_gt pins s σ H _ _ v u Q I rx ry ⟨_, _, rfl, rfl, q.now rs rfl⟩
  · cases e
theorem om_ge : OpR X (compareOp .GtE) (rM2 X.K X.mg oGe) := by
  intro pins s σ H x y v u Q I rx ry ⟨ρ, S, d1, d2, d3, S3, rs, r1, r2, e, q⟩
  unfold oGe at e
  split at e
  · cases r1; cases r2; cases e
    exact op_ge pins s σ H _ _ v u Q I rx ry ⟨_, _, rfl, rfl, q.now rs rfl⟩
  · cases e
theorem isD_run {neg : Bool} {s : Shared} {σ : St} {H : Hp} {pins : List (Addr × Obj)} {d1 d2 : D} {x y : V} {v u : Value} {ρ : List Addr} {Q : VK} {k : Bool} (I : Inv X pins σ H s) (rx : RelV x v) (ry : RelV y u)
    (r1 : RV X.K X.mg ρ H d1 x) (r2 : RV X.K X.mg ρ H d2 y) (e : isD d1 d2 = some k) (q : Q (.bl (if neg then !k else k)) H) : wpAny (model X.prog X.w) X.A (compareOp (if neg then .IsNot else .Is) v u) (EP X pins σ Q) X.xe s := by
  have go : ∀ {b : Bool}, plainIs v u = true → (v == u) = b → k = b → wpAny (model X.prog X.w) X.A (compareOp (if neg then .IsNot else .Is) v u) (EP X pins σ Q) X.xe s := fun {b} hp hb hk => by
    subst hk
    cases neg with
    | true => exact wpAny_isNot_plain hp ⟨.bl (!k), H, I, by rw [hb]; rfl, q⟩
    | false => exact wpAny_is_plain hp ⟨.bl k, H, I, by rw [hb]; rfl, q⟩
  have val : ∀ {z : Value}, (∀ b, z ≠ .bool b) → z ≠ .none → (∀ n, z ≠ .type n) → True := fun _ _ _ => trivial
  unfold isD at e
  cases d2 with
  | non =>
    cases r2; cases ry
    cases neg with
    | true =>
      refine isnot_none_gen ⟨.bl (!k), H, I, ?_, q⟩
      cases d1 <;> first
        | (cases r1; cases rx; cases e; rfl)
        | (cases r1; obtain ⟨t, rfl⟩ := rx; cases e; rfl)
        | (obtain ⟨a, xs, rfl, _⟩ := r1; cases rx; cases e; rfl)
        | (obtain ⟨a, rfl, _⟩ := r1; cases rx; cases e; rfl)
        | (obtain ⟨f, _, rfl⟩ := r1; cases rx; cases e; rfl)
    | false =>
      refine is_none_gen ⟨.bl k, H, I, ?_, q⟩
      cases d1 <;> first
        | (cases r1; cases rx; cases e; rfl)
        | (cases r1; obtain ⟨t, rfl⟩ := rx; cases e; rfl)
        | (obtain ⟨a, xs, rfl, _⟩ := r1; cases rx; cases e; rfl)
        | (obtain ⟨a, rfl, _⟩ := r1; cases rx; cases e; rfl)
        | (obtain ⟨f, _, rfl⟩ := r1; cases rx; cases e; rfl)
  | bl b =>
    cases r2; cases ry
    cases d1 <;> first
      | (cases r1; cases rx; cases e; rename_i j; exact go rfl rfl (by cases j <;> cases b <;> rfl))
      | (cases r1; cases rx; cases e; exact go rfl rfl rfl)
      | (cases r1; obtain ⟨t, rfl⟩ := rx; cases e; exact go rfl rfl rfl)
      | (obtain ⟨a, xs, rfl, _⟩ := r1; cases rx; cases e; exact go rfl rfl rfl)
      | (obtain ⟨a, rfl, _⟩ := r1; cases rx; cases e; exact go rfl rfl rfl)
      | cases e
  | ty n =>
    cases d1 <;> first
      | (cases r1; cases r2; cases rx; cases ry; cases e; exact go rfl (ty_beq _ _) rfl)
      | cases e
  | _ => cases e
theorem om_is : OpR X (compareOp .Is) (rM2 X.K X.mg oIs) := by
  intro pins s σ H x y v u Q I rx ry ⟨ρ, S, d1, d2, d3, S3, rs, r1, r2, e, q⟩
  obtain ⟨k, e0, e3⟩ := map_some e
  clear e
  have e := e0
  clear e0
  cases e3
  exact isD_run (neg := false) I rx ry r1 r2 e (q.now rs rfl)
theorem om_isNot : OpR X (compareOp .IsNot) (rM2 X.K X.mg oIsNot) := by
  intro pins s σ H x y v u Q I rx ry ⟨ρ, S, d1, d2, d3, S3, rs, r1, r2, e, q⟩
  obtain ⟨k, e0, e3⟩ := map_some e
  clear e
  have e := e0
  clear e0
  cases e3
  exact isD_run (neg := true) I rx ry r1 r2 e (q.now rs rfl)
end
end M2
end

section
set_option Elab.async false
set_option linter.all false
set_option maxRecDepth 100000
/-! M2: expressions, tests, calls. -/
namespace M2
open PySem PySem.Spec PyProof.Rows L2
set_option autoImplicit false
abbrev MV := Nv → Sto → Res
abbrev MA := Nv → Sto → Rs (List D)
abbrev MT := Nv → Sto → Rs Bool
def mVar (i : Nat) : MV := fun e S => match e[i]? with
  | some (some d) => .ok d S
  | _ => .stuck
def mC (d : D) : MV := fun _ S => .ok d S
def lift (o : Option (D × Sto)) : Res := match o with
  | some (d, S) => .ok d S
  | none => .stuck
def mBin (mo : Op2) (ma mb : MV) : MV := fun e S => (ma e S).bind fun a S1 => (mb e S1).bind fun b S2 => lift (mo a b S2)
def mUn (mo : Op1) (ma : MV) : MV := fun e S => (ma e S).bind fun a S1 => lift (mo a S1)
def aNil : MA := fun _ S => .ok [] S
def aCons (ma : MV) (mr : MA) : MA := fun e S => (ma e S).bind fun a S1 => (mr e S1).bind fun as S2 => .ok (a :: as) S2
def mL (mo : OpL) (m : MA) : MV := fun e S => (m e S).bind fun as S1 => lift (mo as S1)
def mM (mo : OpM) (mx : MV) (m : MA) : MV := fun e S => (mx e S).bind fun x S1 => (m e S1).bind fun as S2 => lift (mo x as S2)
def mTup (m : MA) : MV := fun e S => (m e S).bind fun as S1 => if as.length ≤ sizeLine then .ok (.tup as) S1 else .stuck
def mLst (m : MA) : MV := fun e S => (m e S).bind fun as S1 => if as.length ≤ sizeLine then .ok (.loc S1.length) (S1 ++ [.lst true as]) else .stuck
def mIf (t : MT) (ma mb : MV) : MV := fun e S => (t e S).bind fun k S1 => if k = true then ma e S1 else mb e S1
/-- a thing's truth -/
def truth (S : Sto) (d : D) : Option Bool := match d with
  | .non => some false
  | .bl b => some b
  | .int i => some (i != 0)
  | .str x => if x.length ≤ sizeLine then some ((x.length : Int) != 0) else none
  | .tup ds => some (!ds.isEmpty)
  | .loc n => match S[n]? with
    | some (.lst _ ds) => some (!ds.isEmpty)
    | some (.dic kvs) => some (!kvs.isEmpty)
    | none => none
  | _ => none
def tVal (ma : MV) : MT := fun e S => (ma e S).bind fun d S1 => match truth S1 d with
  | some k => .ok k S1
  | none => .stuck
def tAnd2 (a b : MT) : MT := fun e S => (a e S).bind fun k S1 => if k = true then b e S1 else .ok false S1
def tOr2 (a b : MT) : MT := fun e S => (a e S).bind fun k S1 => if k = true then .ok true S1 else b e S1
def tNot2 (a : MT) : MT := fun e S => (a e S).bind fun k S1 => .ok (!k) S1
/-- and, or as values: the left one True or False -/
def mAnd2 (ma mb : MV) : MV := fun e S => (ma e S).bind fun a S1 => match a with
  | .bl true => mb e S1
  | .bl false => .ok (.bl false) S1
  | _ => .stuck
def mOr2 (ma mb : MV) : MV := fun e S => (ma e S).bind fun a S1 => match a with
  | .bl true => .ok (.bl true) S1
  | .bl false => mb e S1
  | _ => .stuck
def mNot (ma : MV) : MV := fun e S => (ma e S).bind fun a S1 => match a with
  | .bl k => .ok (.bl !k) S1
  | _ => .stuck
def mChain (mo mo' : Op2) (ma mb mc : MV) : MV := fun e S => (ma e S).bind fun a S1 => (mb e S1).bind fun b S2 => match mo a b S2 with
  | some (.bl true, S3) => (mc e S3).bind fun c S4 => lift (mo' b c S4)
  | some (.bl false, S3) => .ok (.bl false) S3
  | _ => .stuck
/-- a comparison's value as a test -/
def tBl (ma : MV) : MT := fun e S => (ma e S).bind fun d S1 => match d with
  | .bl k => .ok k S1
  | _ => .stuck

section
variable {X : Cx} {W : WX} {e a b c : Expr} {es : List Expr} {ma mb mc : MV} {mr : MA} {ta tb : MT} {pos : Pos}
theorem me_var {i : Nat} {x : Str} (hN : X.N[i]? = some x) (hv : Vis X.env.scope x := by first | exact Or.inl rfl | exact Or.inr (Or.inl rfl) | exact Or.inr (Or.inr rfl)) (hd : (x == ("__debug__" : Str)) = false := by decide)
    (hcd : (x == ("__classdict__" : Str)) = false := by decide) : PE X (.Name x pos) (tM X.K X.mg W (mVar i)) := by
  refine PE.imp (pe_var hN hv hd hcd) fun σ H Q ⟨ρ, e, S, re, rs, g⟩ => ?_
  unfold mVar at g
  split at g
  · rename_i d h
    obtain ⟨v, e1, r⟩ := re.at_ _ _ h
    exact ⟨v, e1, g.ok rs r⟩
  · exact g.elim
theorem me_c {t : TE} {d : D} {v : V} (h : PE X a t) (ht : t = tC v) (hr : ∀ ρ H, RV X.K X.mg ρ H d v) : PE X a (tM X.K X.mg W (mC d)) := by
  subst ht
  exact PE.imp h fun σ H Q ⟨ρ, e, S, re, rs, g⟩ => GoodG.ok g rs (hr ρ H)
theorem me_int {i : Int} {j : Nat} : PE X (.Constant (.int i) j pos) (tM X.K X.mg W (mC (.int i))) := me_c pe_int rfl fun _ _ => rfl
theorem me_str {i : Str} {j : Nat} : PE X (.Constant (.str i) j pos) (tM X.K X.mg W (mC (.str i))) := me_c pe_str rfl fun _ _ => rfl
theorem me_bl {i : Bool} {j : Nat} : PE X (.Constant (.bool i) j pos) (tM X.K X.mg W (mC (.bl i))) := me_c pe_bl rfl fun _ _ => rfl
theorem me_non {j : Nat} : PE X (.Constant .none j pos) (tM X.K X.mg W (mC .non)) := me_c pe_non rfl fun _ _ => rfl
/-- a module's def as a value; its text or number -/
theorem me_fn {x : Str} {f : Addr} (hg : Gl X x) (hm : X.mg x = some (.ref f)) (hd : (x == ("__debug__" : Str)) = false := by decide) : PE X (.Name x pos) (tM X.K X.mg W (mC (.fn x))) :=
  me_c (v := .ref f) (pe_glob (v := .ref f) hg hm rfl hd) rfl fun _ _ => ⟨f, hm, rfl⟩
theorem me_gstr {x : Str} {z : Str} {t : Tok} (hg : Gl X x) (hm : X.mg x = some (.str z t)) (hd : (x == ("__debug__" : Str)) = false := by decide) : PE X (.Name x pos) (tM X.K X.mg W (mC (.str z))) :=
  me_c (v := .str z) (pe_glob (v := .str z) hg hm ⟨t, rfl⟩ hd) rfl fun _ _ => rfl
theorem me_gint {x : Str} {z : Int} {t : Tok} (hg : Gl X x) (hm : X.mg x = some (.int z t)) (hd : (x == ("__debug__" : Str)) = false := by decide) : PE X (.Name x pos) (tM X.K X.mg W (mC (.int z))) :=
  me_c (v := .int z) (pe_glob (v := .int z) hg hm ⟨t, rfl⟩ hd) rfl fun _ _ => rfl
theorem me_ty {x : Str} {n : String} (hg : Gl X x) (hm : X.mg x = none) (hv : bootBuiltins x = some (.type n)) (hn : x ≠ "__name__" := by decide) (hd : (x == ("__debug__" : Str)) = false := by decide) : PE X (.Name x pos) (tM X.K X.mg W (mC (.ty n))) :=
  me_c (v := .ty n) (pe_bltn (v := .ty n) hg hm hv rfl hn hd) rfl fun _ _ => rfl

theorem tm_op {mo : Op2} (σ : St) (H : Hp) (Q : VK) (h : tM X.K X.mg W (mBin mo ma mb) σ H Q) : tOp (rM2 X.K X.mg mo) (tM X.K X.mg W ma) (tM X.K X.mg W mb) σ H Q := by
  obtain ⟨ρ, e, S, re, rs, g⟩ := h
  refine ⟨ρ, e, S, re, rs, GoodG.bind g fun d1 S1 x H1 ρ1 _ p1 k1 rs1 r1 g1 => ⟨ρ1, e, S1, re.mono p1 k1, rs1, GoodG.bind g1 fun d2 S2 y H2 ρ2 _ p2 k2 rs2 r2 g2 => ?_⟩⟩
  unfold lift at g2
  split at g2
  · rename_i d3 S3 e3
    exact ⟨ρ2, S2, d1, d2, d3, S3, rs2, r1.mono p2 k2, r2, e3, fun v H' ρ' p k s r => g2 v H' ρ' p k s r⟩
  · exact g2.elim
theorem me_bin {op : Operator} {mo : Op2} (ho : OpR X (binaryOp op) (rM2 X.K X.mg mo)) (ha : PE X a (tM X.K X.mg W ma)) (hb : PE X b (tM X.K X.mg W mb)) : PE X (.BinOp a op b pos) (tM X.K X.mg W (mBin mo ma mb)) := PE.imp (pe_op ho ha hb) tm_op
theorem me_cmp {op : CmpOp} {mo : Op2} (ho : OpR X (compareOp op) (rM2 X.K X.mg mo)) (ha : PE X a (tM X.K X.mg W ma)) (hb : PE X b (tM X.K X.mg W mb)) (hm : behindInMarks op b = false := by with_unfolding_all rfl) : PE X (.Compare a [op] [b] pos) (tM X.K X.mg W (mBin mo ma mb)) := PE.imp (pe_cmpR ho ha hb hm) tm_op
theorem tBl_ok {t : TE} {m : MV} (σ : St) (H : Hp) (Q : Bool → Hp → Prop) (k : ∀ Q, tM X.K X.mg W m σ H Q → t σ H Q) (h : tMT X.K X.mg W (tBl m) σ H Q) : tTest t σ H Q := by
  obtain ⟨ρ, e, S, re, rs, g⟩ := h
  refine k _ ⟨ρ, e, S, re, rs, GoodG.bind g fun d S' v H' ρ' _ p kk rs' r g' => ?_⟩
  cases d with
  | bl b =>
    cases r
    exact ⟨b, rfl, GoodG.ok g' rs' rfl⟩
  | _ => exact g'.elim
theorem mt_cmp {op : CmpOp} {mo : Op2} (ho : OpR X (compareOp op) (rM2 X.K X.mg mo)) (ha : PE X a (tM X.K X.mg W ma)) (hb : PE X b (tM X.K X.mg W mb)) (hm : behindInMarks op b = false := by with_unfolding_all rfl) : PT X (.Compare a [op] [b] pos) (tMT X.K X.mg W (tBl (mBin mo ma mb))) :=
  PT.imp (pt_cmpR ho ha hb hm) fun σ H Q h => tBl_ok σ H Q (fun Q => tm_op σ H Q) h
theorem tm_chain {mo mo' : Op2} (σ : St) (H : Hp) (Q : VK) (h : tM X.K X.mg W (mChain mo mo' ma mb mc) σ H Q) : tChain (rM2 X.K X.mg mo) (rM2 X.K X.mg mo') (tM X.K X.mg W ma) (tM X.K X.mg W mb) (tM X.K X.mg W mc) σ H Q := by
  obtain ⟨ρ, e, S, re, rs, g⟩ := h
  refine ⟨ρ, e, S, re, rs, GoodG.bind g fun d1 S1 x H1 ρ1 _ p1 k1 rs1 r1 g1 => ⟨ρ1, e, S1, re.mono p1 k1, rs1, GoodG.bind g1 fun d2 S2 y H2 ρ2 _ p2 k2 rs2 r2 g2 => ?_⟩⟩
  try dsimp only at g2
  split at g2
  · rename_i S3 e3
    refine ⟨ρ2, S2, d1, d2, _, S3, rs2, r1.mono p2 k2, r2, e3, fun v H3 ρ3 p3 k3 rs3 r3 => ?_⟩
    cases r3
    refine ⟨true, rfl, ?_⟩
    rw [if_pos rfl]
    refine ⟨ρ3, e, S3, (re.mono p1 k1).mono (p2.trans p3) (k2.trans k3), rs3, GoodG.bind (g2.mono p3 k3) fun d4 S4 w H4 ρ4 _ p4 k4 rs4 r4 g4 => ?_⟩
    unfold lift at g4
    split at g4
    · rename_i d5 S5 e5
      exact ⟨ρ4, S4, d2, d4, d5, S5, rs4, r2.mono (p3.trans p4) (k3.trans k4), r4, e5, fun v H' ρ' p k s r => g4 v H' ρ' p k s r⟩
    · exact g4.elim
  · rename_i S3 e3
    refine ⟨ρ2, S2, d1, d2, _, S3, rs2, r1.mono p2 k2, r2, e3, fun v H3 ρ3 p3 k3 rs3 r3 => ?_⟩
    cases r3
    refine ⟨false, rfl, ?_⟩
    rw [if_neg Bool.false_ne_true]
    exact GoodG.ok' g2 p3 k3 rs3 rfl
  · exact g2.elim
theorem me_chain {op op' : CmpOp} {mo mo' : Op2} (ho : OpR X (compareOp op) (rM2 X.K X.mg mo)) (ho' : OpR X (compareOp op') (rM2 X.K X.mg mo')) (ha : PE X a (tM X.K X.mg W ma)) (hb : PE X b (tM X.K X.mg W mb)) (hc : PE X c (tM X.K X.mg W mc))
    (hm : lastMarks [op, op'] [b, c] = false := by with_unfolding_all rfl) : PE X (.Compare a [op, op'] [b, c] pos) (tM X.K X.mg W (mChain mo mo' ma mb mc)) := PE.imp (pe_chain ho ho' ha hb hc hm) tm_chain
theorem mt_chain {op op' : CmpOp} {mo mo' : Op2} (ho : OpR X (compareOp op) (rM2 X.K X.mg mo)) (ho' : OpR X (compareOp op') (rM2 X.K X.mg mo')) (ha : PE X a (tM X.K X.mg W ma)) (hb : PE X b (tM X.K X.mg W mb)) (hc : PE X c (tM X.K X.mg W mc))
    (hm : lastMarks [op, op'] [b, c] = false := by with_unfolding_all rfl) : PT X (.Compare a [op, op'] [b, c] pos) (tMT X.K X.mg W (tBl (mChain mo mo' ma mb mc))) :=
  PT.imp (pt_chain ho ho' ha hb hc hm) fun σ H Q h => tBl_ok σ H Q (fun Q => tm_chain σ H Q) h
theorem me_un {op : UnaryOp} {mo : Op1} (ho : UnR X (unaryOp op) (rM1 X.K X.mg mo)) (ha : PE X a (tM X.K X.mg W ma)) : PE X (.UnaryOp op a pos) (tM X.K X.mg W (mUn mo ma)) :=
  PE.imp (pe_un ho ha) fun σ H Q ⟨ρ, e, S, re, rs, g⟩ => ⟨ρ, e, S, re, rs, GoodG.bind g fun d1 S1 x H1 ρ1 _ p1 k1 rs1 r1 g1 => by
    unfold lift at g1
    split at g1
    · rename_i d3 S3 e3
      exact ⟨ρ1, S1, d1, d3, S3, rs1, r1, e3, fun v H' ρ' p k s r => g1 v H' ρ' p k s r⟩
    · exact g1.elim⟩
def oNeg : Op1 := fun a S => match a with
  | .int i => some (.int (-i), S)
  | _ => none
theorem om_neg : UnR X (unaryOp .USub) (rM1 X.K X.mg oNeg) := by
  intro pins s σ H x v Q I rx ⟨ρ, S, d1, d3, S3, rs, r1, e, q⟩
  unfold oNeg at e
  split at e
  · cases r1; cases e
    exact un_neg pins s σ H _ v Q I rx ⟨_, rfl, q.now rs rfl⟩
  · cases e
/-! arguments, displays -/
theorem ma_nil : PA X [] (tMA X.K X.mg W aNil) := PA.imp pa_nil fun σ H Q ⟨ρ, e, S, re, rs, g⟩ => GoodG.ok g rs rfl
theorem ma_cons (ha : PE X e (tM X.K X.mg W ma)) (hr : PA X es (tMA X.K X.mg W mr)) (hs : starEach (e :: es) X.env = (false, eval e X.env) :: starEach es X.env := by rfl) : PA X (e :: es) (tMA X.K X.mg W (aCons ma mr)) :=
  PA.imp (pa_cons ha hr hs) fun σ H Q ⟨ρ, e, S, re, rs, g⟩ => ⟨ρ, e, S, re, rs, GoodG.bind g fun d1 S1 x H1 ρ1 _ p1 k1 rs1 r1 g1 => ⟨ρ1, e, S1, re.mono p1 k1, rs1, GoodG.bind g1 fun d2 S2 y H2 ρ2 _ p2 k2 rs2 r2 g2 =>
    GoodG.ok g2 rs2 ⟨x, y, rfl, r1.mono p2 k2, r2⟩⟩⟩
theorem me_tup {x1 : Nat} (h : PA X es (tMA X.K X.mg W mr)) : PE X (.Tuple es x1 pos) (tM X.K X.mg W (mTup mr)) :=
  PE.imp (pe_tup h) fun σ H Q ⟨ρ, e, S, re, rs, g⟩ => ⟨ρ, e, S, re, rs, GoodG.bind g fun ds S1 xs H1 ρ1 _ p1 k1 rs1 r1 g1 => by
    try dsimp only at g1
    split at g1
    · rename_i hz
      exact ⟨by rw [← r1.length]; exact hz, fun p hp => Fin.tnew (fun v H' ρ' p k s r => g1 v H' ρ' p k s r) rs1 r1 hp⟩
    · exact g1.elim⟩
theorem me_lst (h : PA X es (tMA X.K X.mg W mr)) : PE X (.List es pos) (tM X.K X.mg W (mLst mr)) :=
  PE.imp (pe_lst h) fun σ H Q ⟨ρ, e, S, re, rs, g⟩ => ⟨ρ, e, S, re, rs, GoodG.bind g fun ds S1 xs H1 ρ1 _ p1 k1 rs1 r1 g1 => by
    try dsimp only at g1
    split at g1
    · rename_i hz
      exact ⟨by rw [← r1.length]; exact hz, fun p hp => Fin.lnew (fun v H' ρ' p k s r => g1 v H' ρ' p k s r) rs1 r1 hp⟩
    · exact g1.elim⟩
/-! tests -/
theorem tru_of {ρ : List Addr} {H : Hp} {S : Sto} {d : D} {v : V} {k : Bool} (rs : RS X.K X.mg ρ H S) (r : RV X.K X.mg ρ H d v) (h : truth S d = some k) : TruV X.K v H k := by
  unfold truth at h
  cases d with
  | non => cases r; cases h; exact rfl
  | bl b => cases r; cases h; exact rfl
  | int i => cases r; cases h; exact rfl
  | str x =>
    cases r
    have h : (if x.length ≤ sizeLine then some ((x.length : Int) != 0) else none) = some k := h
    split at h
    · rename_i hz; cases h; exact ⟨hz, rfl⟩
    · cases h
  | tup ds =>
    obtain ⟨a, xs, rfl, hs, hv⟩ := r
    cases h
    have := hv.length
    refine .inr (.inl ⟨xs, hs, ?_⟩)
    cases ds <;> cases xs <;> simp at this ⊢
  | loc n =>
    obtain ⟨a, rfl, pa⟩ := r
    dsimp only at h
    split at h
    · rename_i w ds e0
      cases h
      obtain ⟨xs, hx, hv⟩ := rs.list pa e0
      have := hv.length
      refine .inl ⟨xs, hx, ?_⟩
      cases ds <;> cases xs <;> simp at this ⊢
    · rename_i kvs e0
      cases h
      obtain ⟨xs, hx, hv⟩ := rs.at_ _ _ _ pa e0
      refine .inr (.inr ⟨xs, hx, ?_⟩)
      cases kvs with
      | nil => rw [show xs = [] from hv]; rfl
      | cons c cs =>
        obtain ⟨y, ys, rfl, _⟩ := hv
        rfl
    · cases h
  | _ => cases h
theorem mt_val (ha : PE X a (tM X.K X.mg W ma)) (he : ∀ whole, isTrue a X.env whole = (do let v ← whole; standAt a.pos; holding [v] (truthy v)) := by exact fun _ => rfl) : PT X a (tMT X.K X.mg W (tVal ma)) :=
  PT.imp (pt_truth ha he) fun σ H Q ⟨ρ, e, S, re, rs, g⟩ => ⟨ρ, e, S, re, rs, GoodG.bind g fun d1 S1 x H1 ρ1 _ p1 k1 rs1 r1 g1 => by
    try dsimp only at g1
    split at g1
    · rename_i k hk
      exact ⟨k, tru_of rs1 r1 hk, GoodG.ok g1 rs1 rfl⟩
    · exact g1.elim⟩
variable {rest : List Expr}
theorem mw_and1 (ha : PT X a (tMT X.K X.mg W ta)) : PW X (.BoolOp .And [a] pos) (tMT X.K X.mg W ta) := pw_and1 ha
theorem mw_or1 (ha : PT X a (tMT X.K X.mg W ta)) : PW X (.BoolOp .Or [a] pos) (tMT X.K X.mg W ta) := pw_or1 ha
theorem mw_and (ha : PT X a (tMT X.K X.mg W ta)) (hb : PW X (.BoolOp .And (b :: rest) pos) (tMT X.K X.mg W tb)) : PW X (.BoolOp .And (a :: b :: rest) pos) (tMT X.K X.mg W (tAnd2 ta tb)) :=
  PW.imp (pw_and ha hb) fun σ H Q ⟨ρ, e, S, re, rs, g⟩ => ⟨ρ, e, S, re, rs, GoodG.bind g fun d1 S1 x H1 ρ1 _ p1 k1 rs1 r1 g1 => by
    cases r1
    try dsimp only at g1
    cases d1 with
    | true =>
      rw [if_pos rfl] at g1 ⊢
      exact ⟨ρ1, e, S1, re.mono p1 k1, rs1, g1⟩
    | false =>
      rw [if_neg Bool.false_ne_true] at g1 ⊢
      exact GoodG.ok g1 rs1 rfl⟩
theorem mw_or (ha : PT X a (tMT X.K X.mg W ta)) (hb : PW X (.BoolOp .Or (b :: rest) pos) (tMT X.K X.mg W tb)) : PW X (.BoolOp .Or (a :: b :: rest) pos) (tMT X.K X.mg W (tOr2 ta tb)) :=
  PW.imp (pw_or ha hb) fun σ H Q ⟨ρ, e, S, re, rs, g⟩ => ⟨ρ, e, S, re, rs, GoodG.bind g fun d1 S1 x H1 ρ1 _ p1 k1 rs1 r1 g1 => by
    cases r1
    try dsimp only at g1
    cases d1 with
    | true =>
      rw [if_pos rfl] at g1 ⊢
      exact GoodG.ok g1 rs1 rfl
    | false =>
      rw [if_neg Bool.false_ne_true] at g1 ⊢
      exact ⟨ρ1, e, S1, re.mono p1 k1, rs1, g1⟩⟩
theorem mt_w (h : PW X a (tMT X.K X.mg W ta)) : PT X a (tMT X.K X.mg W ta) := h.pt
theorem mt_not (ha : PT X a (tMT X.K X.mg W ta)) : PT X (.UnaryOp .Not a pos) (tMT X.K X.mg W (tNot2 ta)) :=
  PT.imp (pt_not ha) fun σ H Q ⟨ρ, e, S, re, rs, g⟩ => ⟨ρ, e, S, re, rs, GoodG.bind g fun d1 S1 x H1 ρ1 _ p1 k1 rs1 r1 g1 => by
    cases r1
    exact GoodG.ok g1 rs1 rfl⟩
theorem me_one {op : BoolOp} (h : PE X a (tM X.K X.mg W ma)) : PE X (.BoolOp op [a] pos) (tM X.K X.mg W ma) := pe_one h
theorem me_and (ha : PE X a (tM X.K X.mg W ma)) (hb : PE X (.BoolOp .And (b :: rest) pos) (tM X.K X.mg W mb)) : PE X (.BoolOp .And (a :: b :: rest) pos) (tM X.K X.mg W (mAnd2 ma mb)) :=
  PE.imp (pe_and ha hb) fun σ H Q ⟨ρ, e, S, re, rs, g⟩ => ⟨ρ, e, S, re, rs, GoodG.bind g fun d1 S1 x H1 ρ1 _ p1 k1 rs1 r1 g1 => by
    try dsimp only at g1
    split at g1
    · cases r1
      refine ⟨true, rfl, ?_⟩
      rw [if_pos rfl]
      exact ⟨ρ1, e, S1, re.mono p1 k1, rs1, g1⟩
    · cases r1
      refine ⟨false, rfl, ?_⟩
      rw [if_neg Bool.false_ne_true]
      exact GoodG.ok g1 rs1 rfl
    · exact g1.elim⟩
theorem me_or (ha : PE X a (tM X.K X.mg W ma)) (hb : PE X (.BoolOp .Or (b :: rest) pos) (tM X.K X.mg W mb)) : PE X (.BoolOp .Or (a :: b :: rest) pos) (tM X.K X.mg W (mOr2 ma mb)) :=
  PE.imp (pe_or ha hb) fun σ H Q ⟨ρ, e, S, re, rs, g⟩ => ⟨ρ, e, S, re, rs, GoodG.bind g fun d1 S1 x H1 ρ1 _ p1 k1 rs1 r1 g1 => by
    try dsimp only at g1
    split at g1
    · cases r1
      refine ⟨true, rfl, ?_⟩
      rw [if_pos rfl]
      exact GoodG.ok g1 rs1 rfl
    · cases r1
      refine ⟨false, rfl, ?_⟩
      rw [if_neg Bool.false_ne_true]
      exact ⟨ρ1, e, S1, re.mono p1 k1, rs1, g1⟩
    · exact g1.elim⟩
theorem me_not (ha : PE X a (tM X.K X.mg W ma)) : PE X (.UnaryOp .Not a pos) (tM X.K X.mg W (mNot ma)) :=
  PE.imp (pe_not ha) fun σ H Q ⟨ρ, e, S, re, rs, g⟩ => ⟨ρ, e, S, re, rs, GoodG.bind g fun d1 S1 x H1 ρ1 _ p1 k1 rs1 r1 g1 => by
    try dsimp only at g1
    split at g1
    · cases r1
      exact ⟨_, rfl, GoodG.ok g1 rs1 rfl⟩
    · exact g1.elim⟩
theorem me_if (hc : PT X c (tMT X.K X.mg W ta)) (ha : PE X a (tM X.K X.mg W ma)) (hb : PE X b (tM X.K X.mg W mb)) : PE X (.IfExp c a b pos) (tM X.K X.mg W (mIf ta ma mb)) :=
  PE.imp (pe_ifExp hc ha hb) fun σ H Q ⟨ρ, e, S, re, rs, g⟩ => ⟨ρ, e, S, re, rs, GoodG.bind g fun d1 S1 x H1 ρ1 _ p1 k1 rs1 r1 g1 => by
    cases r1
    try dsimp only at g1
    cases d1 with
    | true =>
      rw [if_pos rfl] at g1 ⊢
      exact ⟨ρ1, e, S1, re.mono p1 k1, rs1, g1⟩
    | false =>
      rw [if_neg Bool.false_ne_true] at g1 ⊢
      exact ⟨ρ1, e, S1, re.mono p1 k1, rs1, g1⟩⟩
/-! built-ins by values -/
theorem tm_L {mo : OpL} {m : MA} (σ : St) (H : Hp) (Q : VK) (h : tM X.K X.mg W (mL mo m) σ H Q) : tCB (rML X.K X.mg mo) (tMA X.K X.mg W m) σ H Q := by
  obtain ⟨ρ, e, S, re, rs, g⟩ := h
  refine ⟨ρ, e, S, re, rs, GoodG.bind g fun ds S1 xs H1 ρ1 _ p1 k1 rs1 r1 g1 => ?_⟩
  unfold lift at g1
  split at g1
  · rename_i d3 S3 e3
    exact ⟨ρ1, S1, ds, d3, S3, rs1, r1, e3, fun v H' ρ' p k s r => g1 v H' ρ' p k s r⟩
  · exact g1.elim
theorem me_callB {x : Str} {p : Pos} {id : String} {mo : OpL} (hc : CallR X (.builtin id) (rML X.K X.mg mo)) (hg : Gl X x) (hm : X.mg x = none) (hv : bootBuiltins x = some (.builtin id)) (ha : PA X (e :: es) (tMA X.K X.mg W mr)) (hn : x ≠ "__name__" := by decide) (hdb : (x == ("__debug__" : Str)) = false := by decide)
    (he : starEach (e :: es) X.env = (false, eval e X.env) :: starEach es X.env := by rfl) (hpl : (backTo pos (starEach es X.env)).any (·.1) = false := by rfl) : PE X (.Call (.Name x p) (e :: es) [] pos) (tM X.K X.mg W (mL mo mr)) :=
  PE.imp (pe_callB hc hg hm hv ha hn hdb he hpl) tm_L
theorem me_callTy {x : Str} {p : Pos} {T : String} {mo : OpL} (hc : CallR X (.type T) (rML X.K X.mg mo)) (hg : Gl X x) (hm : X.mg x = none) (hv : bootBuiltins x = some (.type T)) (ha : PA X (e :: es) (tMA X.K X.mg W mr)) (hn : x ≠ "__name__" := by decide) (hdb : (x == ("__debug__" : Str)) = false := by decide)
    (he : starEach (e :: es) X.env = (false, eval e X.env) :: starEach es X.env := by rfl) (hpl : (backTo pos (starEach es X.env)).any (·.1) = false := by rfl) : PE X (.Call (.Name x p) (e :: es) [] pos) (tM X.K X.mg W (mL mo mr)) :=
  PE.imp (pe_callTy hc hg hm hv ha hn hdb he hpl) tm_L
end

/-! ### own defs -/
abbrev MF := List D → Sto → Res
def E2W (E : XK) : WX := fun c d _ H => E c d H
/-- a def's promise by its function -/
def spM (K : PySem.W.Frag) (mg : Str → Option Value) (mf : MF) : Sp := fun vs H Q E => ∃ ρ S ds, RS K mg ρ H S ∧ RVs K mg ρ H ds vs ∧ Good K mg (E2W E) [] ρ H (mf ds S) Q
structure FnM (P : Program) (w : World) (K : PySem.W.Frag) (mg : Str → Option Value) (base : Heap) (x : Str) (k : Nat) (mf : MF) : Prop where
  ex : ∃ (f : Addr) (fd : FuncData) (ps : List Str), mg x = some (.ref f) ∧ PySem.W.keepIn K (.ref f) = true ∧ Binds K fd ps [] ∧ FnOk P w K mg base (L2N.CX P w) k f fd ps (spM K mg mf)
theorem FnM.mono {P : Program} {w : World} {K : PySem.W.Frag} {mg : Str → Option Value} {base : Heap} {x : Str} {j k : Nat} {mf : MF} (F : FnM P w K mg base x j mf) (h : j ≤ k) : FnM P w K mg base x k mf := by
  obtain ⟨f, fd, ps, a, b, c, d⟩ := F.ex
  exact ⟨f, fd, ps, a, b, c, d.mono h⟩
def mCall (mf : MF) (m : MA) : MV := fun e S => (m e S).bind fun ds S1 => mf ds S1
/-- a def that is called where nothing may be raised -/
def Rs.cold {α : Type} (r : Rs α) : Rs α := match r with
  | .exc _ _ _ => .stuck
  | r => r
section
variable {X : Cx} {W : WX} {e : Expr} {es : List Expr} {mr : MA} {p pos : Pos} {x : Str} {k : Nat} {mf : MF}
theorem good_E2W {σ : St} {ρ : List Addr} {H : Hp} {r : Res} {Q : VK} (g : Good X.K X.mg W σ ρ H r Q) : Good X.K X.mg (E2W (WE W σ)) [] ρ H r Q := by
  cases r with
  | ok d S => exact g
  | exc c fs S => exact g
  | stuck => exact g
theorem me_call (F : FnM X.prog X.w X.K X.mg X.base x k mf) (hr : Room k X.A) (hg : Gl X x) (tk : L2N.Takes X W) (ha : PA X (e :: es) (tMA X.K X.mg W mr)) (hdb : (x == ("__debug__" : Str)) = false := by decide) (he : starEach (e :: es) X.env = (false, eval e X.env) :: starEach es X.env := by rfl)
    (hpl : (backTo pos (starEach es X.env)).any (·.1) = false := by rfl) : PE X (.Call (.Name x p) (e :: es) [] pos) (tM X.K X.mg W (mCall mf mr)) := by
  obtain ⟨f, fd, ps, a, b, c, d⟩ := F.ex
  refine PE.imp (pe_callSD (E := WE W) d hr hg a b c .nil (fun σ => L2N.passAt tk σ) ha hdb he hpl) fun σ H Q ⟨ρ, e, S, re, rs, g⟩ => ⟨ρ, e, S, re, rs, GoodG.bind g fun ds S1 xs H1 ρ1 _ p1 k1 rs1 r1 g1 => ?_⟩
  exact ⟨ρ1, S1, ds, rs1, by rw [List.append_nil]; exact r1, good_E2W g1⟩
theorem good_cold {σ : St} {ρ : List Addr} {H : Hp} {r : Res} {Q : VK} {W' : WX} (g : Good X.K X.mg W σ ρ H r.cold Q) : Good X.K X.mg W' [] ρ H r Q := by
  cases r with
  | ok d S => exact g
  | exc c fs S => exact False.elim g
  | stuck => exact g
theorem passN {X : Cx} : Passes (L2N.CX X.prog X.w) X (fun _ _ _ => False) := fun _ _ _ _ _ _ _ h => by
  obtain ⟨_, _, _, _, _, _, _, _, _, _, _, _, z⟩ := h
  exact z.elim
/-- f() -/
theorem me_call0 (F : FnM X.prog X.w X.K X.mg X.base x k mf) (hr : Room k X.A) (hg : Gl X x) (hdb : (x == ("__debug__" : Str)) = false := by decide) : PE X (.Call (.Name x p) [] [] pos) (tM X.K X.mg W (fun _ S => (mf [] S).cold)) := by
  obtain ⟨f, fd, ps, a, b, c, d⟩ := F.ex
  refine PE.imp (pe_call0 d hr hg a b c .nil passN hdb) fun σ H Q ⟨ρ, e, S, re, rs, g⟩ => ?_
  exact ⟨ρ, S, [], rs, rfl, good_cold g⟩
/-- f(..) where nothing that is raised is taken -/
theorem me_callC (F : FnM X.prog X.w X.K X.mg X.base x k mf) (hr : Room k X.A) (hg : Gl X x) (ha : PA X (e :: es) (tMA X.K X.mg W mr)) (hdb : (x == ("__debug__" : Str)) = false := by decide) (he : starEach (e :: es) X.env = (false, eval e X.env) :: starEach es X.env := by rfl)
    (hpl : (backTo pos (starEach es X.env)).any (·.1) = false := by rfl) : PE X (.Call (.Name x p) (e :: es) [] pos) (tM X.K X.mg W (fun e S => (mr e S).bind fun ds S1 => (mf ds S1).cold)) := by
  obtain ⟨f, fd, ps, a, b, c, d⟩ := F.ex
  refine PE.imp (pe_call d hr hg a b c .nil passN ha hdb he hpl) fun σ H Q ⟨ρ, e, S, re, rs, g⟩ => ⟨ρ, e, S, re, rs, GoodG.bind g fun ds S1 xs H1 ρ1 _ p1 k1 rs1 r1 g1 => ?_⟩
  exact ⟨ρ1, S1, ds, rs1, by rw [List.append_nil]; exact r1, good_cold g1⟩
end
end M2
end

section
set_option Elab.async false
set_option linter.all false
set_option maxRecDepth 100000
/-! M2: statements, targets, loops, defs. -/
namespace M2
open PySem PySem.Spec PyProof.Rows L2
set_option autoImplicit false
abbrev MS := Nv → Sto → SRes
abbrev Tg := D → Nv → Option Nv
def sNx : MS := fun e S => .nx e S
def sSeq (a b : MS) : MS := fun e S => match a e S with
  | .nx e1 S1 => b e1 S1
  | r => r
def sExpr (ma : MV) : MS := fun e S => (ma e S).bindS e fun _ S1 => .nx e S1
def sRet (ma : MV) : MS := fun e S => (ma e S).bindS e fun d S1 => .rt d S1
def sRetN : MS := fun _ S => .rt .non S
def sBk : MS := fun e S => .bk e S
def sCt : MS := fun e S => .ct e S
def sIf (t : MT) (a b : MS) : MS := fun e S => (t e S).bindS e fun k S1 => if k = true then a e S1 else b e S1
def tgN (i : Nat) : Tg := fun d e => some (e.set i (some d))
def tgs : List Tg → List D → Nv → Option Nv
  | [], [], e => some e
  | t :: ts, d :: ds, e => (t d e).bind fun e1 => tgs ts ds e1
  | _, _, _ => none
def tgT (ts : List Tg) : Tg := fun d e => match d with
  | .tup ds => tgs ts ds e
  | _ => none
def sAsg (ma : MV) (tg : Tg) : MS := fun e S => (ma e S).bindS e fun d S1 => match tg d e with
  | some e1 => .nx e1 S1
  | none => .stuck
def sAug (i : Nat) (mo : Op2) (ma : MV) : MS := fun e S => match e[i]? with
  | some (some x) => (ma e S).bindS e fun d S1 => match mo x d S1 with
    | some (r, S2) => .nx (e.set i (some r)) S2
    | none => .stuck
  | _ => .stuck
def oAddI : Op2 := fun a b S => match a, b with
  | .int i, .int j => some (.int (i + j), S)
  | _, _ => none
/-- xs[i] = d -/
def oSet (o i d : D) (S : Sto) : Option Sto := match o, i with
  | .loc n, .int k => match S[n]? with
    | some (.lst true ds) => (ixN ds.length k).map fun j => S.set n (.lst true (ds.set j d))
    | _ => none
  | _, _ => none
/-- ma[mi] = mv -/
def sSub (mv mo_ mi : MV) : MS := fun e S => (mv e S).bindS e fun d S1 => (mo_ e S1).bindS e fun o S2 => (mi e S2).bindS e fun i S3 => match oSet o i d S3 with
  | some S4 => .nx e S4
  | none => .stuck
structure ItM where
  cnt : Nat
  at_ : Nat → Sto → Option (Option D)
def loopM (it : ItM) (tg : Tg) (body : MS) : Nat → Nat → Nv → Sto → SRes
  | 0, i, e, S => match it.at_ i S with
    | some none => .nx e S
    | _ => .stuck
  | m + 1, i, e, S => match it.at_ i S with
    | some none => .nx e S
    | some (some d) => match tg d e with
      | some e1 => match body e1 S with
        | .nx e2 S2 => loopM it tg body m (i + 1) e2 S2
        | .ct e2 S2 => loopM it tg body m (i + 1) e2 S2
        | .bk e2 S2 => .nx e2 S2
        | r => r
      | none => .stuck
    | none => .stuck
def sFor (mi : Nv → Sto → Rs ItM) (tg : Tg) (body : MS) : MS := fun e S => (mi e S).bindS e fun it S1 => loopM it tg body it.cnt 0 e S1
def whileM (t : MT) (body : MS) : Nat → Nv → Sto → SRes
  | 0, _, _ => .stuck
  | m + 1, e, S => (t e S).bindS e fun k S1 => if k = true then match body e S1 with
      | .nx e2 S2 => whileM t body m e2 S2
      | .ct e2 S2 => whileM t body m e2 S2
      | .bk e2 S2 => .nx e2 S2
      | r => r
    else .nx e S1
def sWhile (n : Nat) (t : MT) (body : MS) : MS := fun e S => whileM t body n e S
section
variable (K : PySem.W.Frag) (mg : Str → Option Value) (W : WX)
def tTg (tg : Tg) : TG := fun v σ H Q => ∃ ρ e S d e', RE K mg ρ H e σ ∧ RS K mg ρ H S ∧ RV K mg ρ H d v ∧ tg d e = some e' ∧ ∀ σ', RE K mg ρ H e' σ' → Q σ' H
def tTgs (ts : List Tg) : TGs := fun vs σ H Q => ∃ ρ e S ds e', RE K mg ρ H e σ ∧ RS K mg ρ H S ∧ RVs K mg ρ H ds vs ∧ tgs ts ds e = some e' ∧ ∀ σ', RE K mg ρ H e' σ' → Q σ' H
/-- the walk of the store stands for the walk of the heap -/
def ItOk (ρ0 : List Addr) (H0 : Hp) (it : ItM) (J : It) : Prop := ∀ i ρ H S, Pre ρ0 ρ → Keep H0 H → RS K mg ρ H S → match it.at_ i S with
  | none => True
  | some none => J.stop i H
  | some (some d) => J.go i H ∧ ∀ x H', J.yld i H x H' → Keep H H' ∧ RS K mg ρ H' S ∧ RV K mg ρ H' d x
def tMI (mi : Nv → Sto → Rs ItM) : TI := tMG K mg W (ItOk K mg) mi
end
section
variable {X : Cx} {W : WX} {a b : List Stmt} {st : Stmt} {e c : Expr} {ma mb mc : MV} {sa sb : MS} {ta : MT} {pos : Pos} {tg : Tg} {mi : Nv → Sto → Rs ItM}
theorem ms_nil : PSs X [] (tMS X.K X.mg W sNx) := PSs.imp pss_nil fun Dn σ H ⟨ρ, e, S, re, rs, g⟩ => g σ H ρ (Pre.refl _) (Keep.refl _) rs re
theorem ts_seq (Dn : Ends) (σ : St) (H : Hp) (h : tMS X.K X.mg W (sSeq sa sb) Dn σ H) : tSeq (tMS X.K X.mg W sa) (tMS X.K X.mg W sb) Dn σ H := by
  obtain ⟨ρ, e, S, re, rs, g⟩ := h
  refine ⟨ρ, e, S, re, rs, ?_⟩
  unfold sSeq at g
  cases h1 : sa e S with
  | nx e1 S1 =>
    rw [h1] at g
    exact fun s2 H2 ρ2 p k rs2 re2 => ⟨ρ2, e1, S1, re2, rs2, GoodS.mono (r := sb e1 S1) g p k⟩
  | rt d S1 => rw [h1] at g; exact g
  | bk e1 S1 => rw [h1] at g; exact g
  | ct e1 S1 => rw [h1] at g; exact g
  | exc c fs e1 S1 => rw [h1] at g; exact g
  | stuck => rw [h1] at g; exact g
theorem ms_cons (h1 : PS X st (tMS X.K X.mg W sa)) (h2 : PSs X a (tMS X.K X.mg W sb)) : PSs X (st :: a) (tMS X.K X.mg W (sSeq sa sb)) := PSs.imp (pss_cons h1 h2) ts_seq
theorem ms_one (h1 : PS X st (tMS X.K X.mg W sa)) : PSs X [st] (tMS X.K X.mg W sa) := pss_one h1
theorem ms_pass : PS X (.Pass pos) (tMS X.K X.mg W sNx) := PS.imp ps_pass fun Dn σ H ⟨ρ, e, S, re, rs, g⟩ => g σ H ρ (Pre.refl _) (Keep.refl _) rs re
theorem ms_break : PS X (.Break pos) (tMS X.K X.mg W sBk) := PS.imp ps_break fun Dn σ H ⟨ρ, e, S, re, rs, g⟩ => g σ H ρ (Pre.refl _) (Keep.refl _) rs re
theorem ms_continue : PS X (.Continue pos) (tMS X.K X.mg W sCt) := PS.imp ps_continue fun Dn σ H ⟨ρ, e, S, re, rs, g⟩ => g σ H ρ (Pre.refl _) (Keep.refl _) rs re
theorem ms_expr (he : PE X e (tM X.K X.mg W ma)) (hs : swapsWith e none pos.line X.env = pure false := by rfl) : PS X (.Expr e pos) (tMS X.K X.mg W (sExpr ma)) :=
  PS.imp (ps_expr he hs) fun Dn σ H ⟨ρ, e, S, re, rs, g⟩ => ⟨ρ, e, S, re, rs, GoodG.bindS re g fun d S1 v H1 ρ1 _ p1 k1 rs1 r1 g1 => g1 σ H1 ρ1 (Pre.refl _) (Keep.refl _) rs1 (re.mono p1 k1)⟩
theorem ms_ret (he : PE X e (tM X.K X.mg W ma)) : PS X (.Return (some e) pos) (tMS X.K X.mg W (sRet ma)) :=
  PS.imp (ps_ret he) fun Dn σ H ⟨ρ, e, S, re, rs, g⟩ => ⟨ρ, e, S, re, rs, GoodG.bindS re g fun d S1 v H1 ρ1 _ p1 k1 rs1 r1 g1 => g1 v H1 ρ1 (Pre.refl _) (Keep.refl _) rs1 r1⟩
theorem ms_retN : PS X (.Return none pos) (tMS X.K X.mg W sRetN) := PS.imp ps_retN fun Dn σ H ⟨ρ, e, S, re, rs, g⟩ => g _ H ρ (Pre.refl _) (Keep.refl _) rs rfl
theorem ms_if (hc : PT X c (tMT X.K X.mg W ta)) (ha : PSs X a (tMS X.K X.mg W sa)) (hb : PSs X b (tMS X.K X.mg W sb)) : PS X (.If c a b pos) (tMS X.K X.mg W (sIf ta sa sb)) :=
  PS.imp (ps_if hc ha hb) fun Dn σ H ⟨ρ, e, S, re, rs, g⟩ => ⟨ρ, e, S, re, rs, GoodG.bindS re g fun d1 S1 x H1 ρ1 _ p1 k1 rs1 r1 g1 => by
    cases r1
    try dsimp only at g1
    cases d1 with
    | true =>
      rw [if_pos rfl] at g1 ⊢
      exact ⟨ρ1, e, S1, re.mono p1 k1, rs1, g1⟩
    | false =>
      rw [if_neg Bool.false_ne_true] at g1 ⊢
      exact ⟨ρ1, e, S1, re.mono p1 k1, rs1, g1⟩⟩
/-! targets -/
theorem mg_name {i : Nat} {x : Str} (hN : X.N.Nodup) (hi : X.N[i]? = some x) (hx : Loc X.env.scope x) (hf : X.fn x = true ∨ X.env.scope.names.lookup x = some .local := by first | exact .inl rfl | exact .inr rfl | assumption) : PG X (.Name x pos) (tTg X.K X.mg (tgN i)) := by
  refine ⟨fun pins s σ H v u Q I r h => (pg_name (i := i) hN hi hx hf).run pins s σ H v u Q I r ?_⟩
  obtain ⟨ρ, e, S, d, e', re, rs, rv, h, q⟩ := h
  cases h
  exact q _ (re.set i rv)
theorem mgs_nil : PGs X [] (tTgs X.K X.mg []) := by
  refine ⟨fun pins s σ H vs us Q I r h => pgs_nil.run pins s σ H vs us Q I r ?_⟩
  obtain ⟨ρ, e, S, ds, e', re, rs, rv, h, q⟩ := h
  cases ds with
  | nil =>
    cases h
    exact ⟨rv, q _ re⟩
  | cons d ds => cases h
theorem mgs_cons {es : List Expr} {ts : List Tg} (h1 : PG X e (tTg X.K X.mg tg)) (h2 : PGs X es (tTgs X.K X.mg ts))
    (hs : (assignEach (e :: es) X.env).map (·.2) = assign e X.env :: (assignEach es X.env).map (·.2) := by rfl) : PGs X (e :: es) (tTgs X.K X.mg (tg :: ts)) := by
  refine ⟨fun pins s σ H vs us Q I r h => (pgs_cons h1 h2 hs).run pins s σ H vs us Q I r ?_⟩
  obtain ⟨ρ, e, S, ds, e', re, rs, rv, h, q⟩ := h
  cases ds with
  | nil => cases h
  | cons d ds =>
    obtain ⟨x, xs, rfl, r1, r2⟩ := rv
    have h : (tg d e).bind (fun e1 => tgs ts ds e1) = some e' := h
    cases h0 : tg d e with
    | none => rw [h0] at h; cases h
    | some e1 =>
      rw [h0] at h
      exact ⟨x, xs, rfl, ρ, e, S, d, e1, re, rs, r1, h0, fun σ1 re1 => ⟨ρ, e1, S, ds, e', re1, rs, r2, h, q⟩⟩
theorem mg_tup {es : List Expr} {k : Nat} {ts : List Tg} {n : Nat} (hc : X.calm = true) (h : PGs X es (tTgs X.K X.mg ts))
    (hn : (assignEach es X.env).length = n := by rfl) (hl : ts.length = n := by rfl) (hst : (assignEach es X.env).findIdx? (·.1) = none := by rfl) : PG X (.Tuple es k pos) (tTg X.K X.mg (tgT ts)) := by
  have tl : ∀ {ts : List Tg} {ds : List D} {e e' : Nv}, tgs ts ds e = some e' → ds.length = ts.length := by
    intro ts
    induction ts with
    | nil => intro ds e e' h; cases ds <;> first | rfl | cases h
    | cons t ts ih =>
      intro ds e e' h
      cases ds with
      | nil => cases h
      | cons d ds =>
        have h : (t d e).bind (fun e1 => tgs ts ds e1) = some e' := h
        cases h0 : t d e with
        | none => rw [h0] at h; cases h
        | some e1 =>
          rw [h0] at h
          rw [List.length_cons, List.length_cons, ih h]
  refine ⟨fun pins s σ H v u Q I r h0 => (pg_tup hc h hn hst).run pins s σ H v u Q I r ?_⟩
  obtain ⟨ρ, e, S, d, e', re, rs, rv, h1, q⟩ := h0
  unfold tgT at h1
  split at h1
  · rename_i ds
    obtain ⟨a, xs, rfl, sq, rv⟩ := rv
    exact ⟨a, xs, rfl, sq, by rw [← rv.length, tl h1, hl], ρ, e, S, ds, e', re, rs, rv, h1, q⟩
  · cases h1
theorem ms_asg {t : Expr} (he : PE X e (tM X.K X.mg W ma)) (hg : PG X t (tTg X.K X.mg tg)) (hs : swapsWithSole [t] e pos.line X.env = pure false := by rfl) (hw : swappedStores [t] e X.env = pure none := by rfl)
    (h1 : (assignEach [t] X.env).map (·.2) = [assign t X.env] := by rfl) : PS X (.Assign [t] e pos) (tMS X.K X.mg W (sAsg ma tg)) :=
  PS.imp (ps_asg he hg hs hw h1) fun Dn σ H ⟨ρ, e, S, re, rs, g⟩ => ⟨ρ, e, S, re, rs, GoodG.bindS re g fun d S1 v H1 ρ1 _ p1 k1 rs1 r1 g1 => by
    try dsimp only at g1
    split at g1
    · rename_i e1 h
      exact ⟨ρ1, e, S1, d, e1, re.mono p1 k1, rs1, r1, h, fun σ' re' => g1 σ' H1 ρ1 (Pre.refl _) (Keep.refl _) rs1 re'⟩
    · exact g1.elim⟩
theorem ms_set {i : Nat} {x : Str} {pos' : Pos} (hN : X.N.Nodup) (hi : X.N[i]? = some x) (hx : Loc X.env.scope x) (he : PE X e (tM X.K X.mg W ma)) (hs : swapsWith e (some (.Name x pos')) pos.line X.env = pure false := by rfl) (hf : X.fn x = true ∨ X.env.scope.names.lookup x = some .local := by first | exact .inl rfl | exact .inr rfl | assumption) :
    PS X (.Assign [.Name x pos'] e pos) (tMS X.K X.mg W (sAsg ma (tgN i))) :=
  PS.imp (ps_set (i := i) hN hi hx he hs hf) fun Dn σ H ⟨ρ, e, S, re, rs, g⟩ => ⟨ρ, e, S, re, rs, GoodG.bindS re g fun d S1 v H1 ρ1 _ p1 k1 rs1 r1 g1 =>
    g1 _ H1 ρ1 (Pre.refl _) (Keep.refl _) rs1 ((re.mono p1 k1).set i r1)⟩
theorem ms_sub {o i : Expr} {p2 : Pos} (he : PE X e (tM X.K X.mg W ma)) (ho : PE X o (tM X.K X.mg W mb)) (hi : PE X i (tM X.K X.mg W mc))
    (ha : ∀ v, assign (.Subscript o i p2) X.env v = (do
      let ov ← holding [v] (eval o X.env)
      let iv ← holding [v, ov] (eval i X.env)
      standAt p2
      holding [v, ov, iv] (setItem ov iv v)
      release [v, ov, iv] []) := by intro _; rfl) (hs : swapsWithSole [.Subscript o i p2] e pos.line X.env = pure false := by rfl) (hw : swappedStores [.Subscript o i p2] e X.env = pure none := by rfl)
    (h1 : (assignEach [.Subscript o i p2] X.env).map (·.2) = [assign (.Subscript o i p2) X.env] := by rfl) : PS X (.Assign [.Subscript o i p2] e pos) (tMS X.K X.mg W (sSub ma mb mc)) :=
  PS.imp (ps_asg he (pg_sub ho hi set_list ha) hs hw h1) fun Dn σ H ⟨ρ, e, S, re, rs, g⟩ => ⟨ρ, e, S, re, rs, GoodG.bindS re g fun d S1 v H1 ρ1 _ p1 k1 rs1 r1 g1 =>
    ⟨ρ1, e, S1, re.mono p1 k1, rs1, GoodG.bindS (re.mono p1 k1) g1 fun o S2 x H2 ρ2 _ p2 k2 rs2 r2 g2 =>
    ⟨ρ2, e, S2, (re.mono p1 k1).mono p2 k2, rs2, GoodG.bindS ((re.mono p1 k1).mono p2 k2) g2 fun i S3 y H3 ρ3 _ p3 k3 rs3 r3 g3 => by
      try dsimp only at g3
      have r1' := r1.mono (p2.trans p3) (k2.trans k3)
      have r2' := r2.mono p3 k3
      split at g3
      · rename_i S4 h
        unfold oSet at h
        split at h
        · rename_i n kz
          split at h
          · rename_i ds e0
            obtain ⟨j, hj, hS⟩ := map_some h
            subst hS
            obtain ⟨a, rfl, pa⟩ := r2'
            cases r3
            obtain ⟨xs, ea, ra⟩ := rs3.at_ _ _ _ pa e0
            have kp : Keep H3 (upd H3 a (.lst (xs.set j v))) := Keep.mut ea rfl
            refine ⟨a, xs, _, j, rfl, rfl, ea, by rw [← ra.length]; exact hj, ?_⟩
            exact g3 σ _ ρ3 (Pre.refl _) kp (rs3.set pa e0 rfl ⟨_, upd_same, RVs.mono (Pre.refl _) kp _ _ (ra.set j r1')⟩ rfl) (((re.mono p1 k1).mono (p2.trans p3) (k2.trans k3)).mono (Pre.refl _) kp)
          · cases h
        · cases h
      · exact g3.elim⟩⟩⟩
/-- op= by data -/
def PIpM (X : Cx) (op : Operator) (mo : Op2) : Prop := PIp X op (fun x y H Q => rM2 X.K X.mg mo x y H Q)
theorem ms_aug {i : Nat} {x : Str} {op : Operator} {mo : Op2} {pos' : Pos} (hN : X.N.Nodup) (hi : X.N[i]? = some x) (hx : Loc X.env.scope x) (he : PE X e (tM X.K X.mg W ma)) (ho : PIpM X op mo) (hf : X.fn x = true ∨ X.env.scope.names.lookup x = some .local := by first | exact .inl rfl | exact .inr rfl | assumption) :
    PS X (.AugAssign (.Name x pos') op e pos) (tMS X.K X.mg W (sAug i mo ma)) :=
  PS.imp (ps_aug hN hi hx he ho hf) fun Dn σ H ⟨ρ, e, S, re, rs, g⟩ => by
    unfold sAug at g
    split at g
    · rename_i d h
      obtain ⟨v, e1, r⟩ := re.at_ _ _ h
      refine ⟨v, e1, ρ, e, S, re, rs, GoodG.bindS re g fun d2 S1 v2 H1 ρ1 _ p1 k1 rs1 r1 g1 => ?_⟩
      try dsimp only at g1
      split at g1
      · rename_i d3 S2 h2
        exact ⟨ρ1, S1, d, d2, d3, S2, rs1, r.mono p1 k1, r1, h2, fun v' H' ρ' p k rs' r' => g1 _ H' ρ' p k rs' (((re.mono p1 k1).mono p k).set i r')⟩
      · exact g1.elim
    · exact g.elim
theorem ip_addM : PIpM X .Add oAddI := by
  intro pins s σ H x y v u Q I rx ry ⟨ρ, S, d1, d2, d3, S3, rs, r1, r2, e, q⟩
  unfold oAddI at e
  split at e
  · cases r1; cases r2; cases e
    exact ip_add pins s σ H _ _ v u Q I rx ry ⟨_, _, rfl, rfl, q.now rs rfl⟩
  · cases e
/-! loops -/
theorem ms_for {tgt iter : Expr} {body : List Stmt} (hp : PassesOwn (model X.prog X.w) X.A X.env X.xe) (hc : X.calm = true) (hi : PI X tgt iter (tMI X.K X.mg W mi)) (hg : PG X tgt (tTg X.K X.mg tg)) (hb : PSs X body (tMS X.K X.mg W sb)) (hs : ∀ x, foldedSetIterable iter X.env x = pure x := by intro _; rfl) :
    PS X (.For tgt iter body [] pos) (tMS X.K X.mg W (sFor mi tg sb)) := by
  refine PS.imp (ps_for hp hc hi hg hb hs) fun Dn σ H ⟨ρ, e, S, re, rs, g⟩ => ⟨ρ, e, S, re, rs, GoodG.bindS re g fun it S1 J H1 ρ1 _ p1 k1 rs1 r1 g1 => ?_⟩
  refine ⟨fun i m σ H => ∃ ρ e S, RE X.K X.mg ρ H e σ ∧ RS X.K X.mg ρ H S ∧ Pre ρ1 ρ ∧ Keep H1 H ∧ GoodS X.K X.mg W ρ H (loopM it tg sb m i e S) Dn, ⟨it.cnt, ρ1, e, S1, re.mono p1 k1, rs1, Pre.refl _, Keep.refl _, g1⟩, ?_⟩
  rintro i m σ2 H2 ⟨ρ2, e2, S2, re2, rs2, p2, k2, g2⟩
  have io := r1 i ρ2 H2 S2 p2 k2 rs2
  have stop : it.at_ i S2 = some none → GoodS X.K X.mg W ρ2 H2 (.nx e2 S2) Dn → J.stop i H2 ∧ Dn.nx σ2 H2 := fun h g => by
    rw [h] at io
    exact ⟨io, g σ2 H2 ρ2 (Pre.refl _) (Keep.refl _) rs2 re2⟩
  cases m with
  | zero =>
    unfold loopM at g2
    split at g2
    · rename_i h
      exact .inl (stop h g2)
    · exact g2.elim
  | succ m =>
    unfold loopM at g2
    split at g2
    · rename_i h
      exact .inl (stop h g2)
    · rename_i d h
      rw [h] at io
      obtain ⟨go, yl⟩ := io
      split at g2
      · rename_i e3 h3
        refine .inr ⟨go, fun σ' H' => ∃ ρ e S, RE X.K X.mg ρ H' e σ' ∧ RS X.K X.mg ρ H' S ∧ Pre ρ1 ρ ∧ Keep H1 H' ∧ GoodS X.K X.mg W ρ H' (loopM it tg sb m (i + 1) e S) Dn, fun σ' H' hN => ⟨m, Nat.lt_succ_self _, hN⟩, fun x H' y => ?_⟩
        obtain ⟨ky, rs3, rx⟩ := yl x H' y
        refine ⟨ρ2, e2, S2, d, e3, re2.mono (Pre.refl _) ky, rs3, rx, h3, fun σ3 re3 => ⟨ρ2, e3, S2, re3, rs3, ?_⟩⟩
        have g3 := GoodS.mono g2 (Pre.refl ρ2) ky
        cases h4 : sb e3 S2 with
        | nx e4 S4 =>
          rw [h4] at g3
          exact fun σ5 H5 ρ5 p5 k5 rs5 re5 => ⟨ρ5, e4, S4, re5, rs5, p2.trans p5, (k2.trans ky).trans k5, GoodS.mono (r := loopM it tg sb m (i + 1) e4 S4) g3 p5 k5⟩
        | ct e4 S4 =>
          rw [h4] at g3
          exact fun σ5 H5 ρ5 p5 k5 rs5 re5 => ⟨ρ5, e4, S4, re5, rs5, p2.trans p5, (k2.trans ky).trans k5, GoodS.mono (r := loopM it tg sb m (i + 1) e4 S4) g3 p5 k5⟩
        | bk e4 S4 => rw [h4] at g3; exact g3
        | rt d4 S4 => rw [h4] at g3; exact g3
        | exc c fs e4 S4 => rw [h4] at g3; exact g3
        | stuck => rw [h4] at g3; exact g3
      · exact g2.elim
    · exact g2.elim
theorem ms_while {body : List Stmt} {n : Nat} (hp : PassesOwn (model X.prog X.w) X.A X.env X.xe) (hc : PT X c (tMT X.K X.mg W ta)) (hb : PSs X body (tMS X.K X.mg W sb)) : PS X (.While c body [] pos) (tMS X.K X.mg W (sWhile n ta sb)) := by
  refine PS.imp (ps_while hp hc hb) fun Dn σ H ⟨ρ, e, S, re, rs, g⟩ => ?_
  refine ⟨fun m σ H => ∃ ρ e S, RE X.K X.mg ρ H e σ ∧ RS X.K X.mg ρ H S ∧ GoodS X.K X.mg W ρ H (whileM ta sb m e S) Dn, ⟨n, ρ, e, S, re, rs, g⟩, ?_⟩
  rintro m σ2 H2 ⟨ρ2, e2, S2, re2, rs2, g2⟩
  cases m with
  | zero => exact g2.elim
  | succ m =>
    refine ⟨ρ2, e2, S2, re2, rs2, GoodG.bindS re2 g2 fun k S3 b H3 ρ3 _ p3 k3 rs3 r3 g3 => ?_⟩
    cases r3
    try dsimp only at g3
    cases k with
    | false =>
      rw [if_neg Bool.false_ne_true] at g3 ⊢
      exact g3 σ2 H3 ρ3 (Pre.refl _) (Keep.refl _) rs3 (re2.mono p3 k3)
    | true =>
      rw [if_pos rfl] at g3 ⊢
      refine ⟨fun σ' H' => ∃ ρ e S, RE X.K X.mg ρ H' e σ' ∧ RS X.K X.mg ρ H' S ∧ GoodS X.K X.mg W ρ H' (whileM ta sb m e S) Dn, fun σ' H' hN => ⟨m, Nat.lt_succ_self _, hN⟩, ρ3, e2, S3, re2.mono p3 k3, rs3, ?_⟩
      cases h4 : sb e2 S3 with
      | nx e4 S4 =>
        rw [h4] at g3
        exact fun σ5 H5 ρ5 p5 k5 rs5 re5 => ⟨ρ5, e4, S4, re5, rs5, GoodS.mono (r := whileM ta sb m e4 S4) g3 p5 k5⟩
      | ct e4 S4 =>
        rw [h4] at g3
        exact fun σ5 H5 ρ5 p5 k5 rs5 re5 => ⟨ρ5, e4, S4, re5, rs5, GoodS.mono (r := whileM ta sb m e4 S4) g3 p5 k5⟩
      | bk e4 S4 => rw [h4] at g3; exact g3
      | rt d4 S4 => rw [h4] at g3; exact g3
      | exc c fs e4 S4 => rw [h4] at g3; exact g3
      | stuck => rw [h4] at g3; exact g3
/-! what is walked -/
def itL (n : Nat) (cnt : Nat) : ItM := ⟨cnt, fun i S => match S[n]? with
  | some (.lst _ ds) => some ds[i]?
  | _ => none⟩
def itD (ds : List D) : ItM := ⟨ds.length, fun i _ => some ds[i]?⟩
def itR (lo c : Int) (n : Nat) : ItM := ⟨n, fun i _ => if i < n then some (some (.int (lo + i * c))) else some none⟩
def itS (x : Str) : ItM := ⟨x.cps.size, fun i _ => some (x.cps[i]?.map fun c => .str ⟨#[c]⟩)⟩
/-- a list, a tuple or a text -/
def iAny (ma : MV) : Nv → Sto → Rs ItM := fun e S => (ma e S).bind fun d S1 => match d with
  | .loc n => match S1[n]? with
    | some (.lst _ ds) => .ok (itL n ds.length) S1
    | _ => .stuck
  | .tup ds => .ok (itD ds) S1
  | .str x => .ok (itS x) S1
  | _ => .stuck
theorem itL_ok {ρ : List Addr} {H : Hp} {n cnt : Nat} {a : Addr} (pa : ρ[n]? = some a) : ItOk X.K X.mg ρ H (itL n cnt) (Itl X.K a) := by
  intro i ρ' H' S p k rs
  show match (match S[n]? with
    | some (.lst _ ds) => some ds[i]?
    | _ => none) with
    | none => True
    | some none => (Itl X.K a).stop i H'
    | some (some d) => (Itl X.K a).go i H' ∧ ∀ x H'', (Itl X.K a).yld i H' x H'' → Keep H' H'' ∧ RS X.K X.mg ρ' H'' S ∧ RV X.K X.mg ρ' H'' d x
  cases e0 : S[n]? with
  | none => trivial
  | some o =>
    cases o with
    | dic _ => trivial
    | lst w ds =>
      obtain ⟨xs, hx, hv⟩ := rs.list (p _ _ pa) e0
      show match some ds[i]? with
        | none => True
        | some none => (Itl X.K a).stop i H'
        | some (some d) => (Itl X.K a).go i H' ∧ ∀ x H'', (Itl X.K a).yld i H' x H'' → Keep H' H'' ∧ RS X.K X.mg ρ' H'' S ∧ RV X.K X.mg ρ' H'' d x
      cases e1 : ds[i]? with
      | none => exact ⟨xs, hx, by rw [← hv.length]; exact List.getElem?_eq_none_iff.mp e1⟩
      | some d =>
        obtain ⟨v, ev, rv⟩ := hv.get e1
        refine ⟨⟨xs, v, hx, ev⟩, fun x H'' ⟨e, y⟩ => ?_⟩
        subst e
        have := (y xs hx).symm.trans ev
        cases this
        exact ⟨Keep.refl _, rs, rv⟩
theorem itD_ok {ρ : List Addr} {H : Hp} {ds : List D} {xs : List V} {a : Addr} (hx : SqT X.K H a xs) (hv : RVs X.K X.mg ρ H ds xs) : ItOk X.K X.mg ρ H (itD ds) (Itt X.K a) := by
  intro i ρ' H' S p k rs
  have hx' := sqT_keep k hx
  have hv' := RVs.mono p k _ _ hv
  show match some ds[i]? with
    | none => True
    | some none => (Itt X.K a).stop i H'
    | some (some d) => (Itt X.K a).go i H' ∧ ∀ x H'', (Itt X.K a).yld i H' x H'' → Keep H' H'' ∧ RS X.K X.mg ρ' H'' S ∧ RV X.K X.mg ρ' H'' d x
  cases e1 : ds[i]? with
  | none => exact ⟨xs, hx', by rw [← hv.length]; exact List.getElem?_eq_none_iff.mp e1⟩
  | some d =>
    obtain ⟨v, ev, rv⟩ := hv'.get e1
    refine ⟨⟨xs, v, hx', ev⟩, fun x H'' ⟨e, y⟩ => ?_⟩
    subst e
    have := (y xs hx').symm.trans ev
    cases this
    exact ⟨Keep.refl _, rs, rv⟩
theorem itR_ok {ρ : List Addr} {H : Hp} {lo c : Int} {n : Nat} : ItOk X.K X.mg ρ H (itR lo c n) (Itc lo c n) := by
  intro i ρ' H' S p k rs
  show match (if i < n then some (some (D.int (lo + i * c))) else some none) with
    | none => True
    | some none => (Itc lo c n).stop i H'
    | some (some d) => (Itc lo c n).go i H' ∧ ∀ x H'', (Itc lo c n).yld i H' x H'' → Keep H' H'' ∧ RS X.K X.mg ρ' H'' S ∧ RV X.K X.mg ρ' H'' d x
  by_cases h : i < n
  · rw [if_pos h]
    refine ⟨h, fun x H'' ⟨e, y⟩ => ?_⟩
    subst e
    exact ⟨Keep.refl _, rs, y⟩
  · rw [if_neg h]
    exact Nat.le_of_not_lt h
theorem itR1_ok {ρ : List Addr} {H : Hp} {lo : Int} {n : Nat} : ItOk X.K X.mg ρ H (itR lo 1 n) (Itr lo n) := by
  intro i ρ' H' S p k rs
  show match (if i < n then some (some (D.int (lo + i * 1))) else some none) with
    | none => True
    | some none => (Itr lo n).stop i H'
    | some (some d) => (Itr lo n).go i H' ∧ ∀ x H'', (Itr lo n).yld i H' x H'' → Keep H' H'' ∧ RS X.K X.mg ρ' H'' S ∧ RV X.K X.mg ρ' H'' d x
  by_cases h : i < n
  · rw [if_pos h]
    refine ⟨h, fun x H'' ⟨e, y⟩ => ?_⟩
    subst e
    exact ⟨Keep.refl _, rs, by rw [Int.mul_one]; exact y⟩
  · rw [if_neg h]
    exact Nat.le_of_not_lt h
theorem itS_ok {ρ : List Addr} {H : Hp} {x : Str} : ItOk X.K X.mg ρ H (itS x) (Its x) := by
  intro i ρ' H' S p k rs
  show match some (x.cps[i]?.map fun c => D.str ⟨#[c]⟩) with
    | none => True
    | some none => (Its x).stop i H'
    | some (some d) => (Its x).go i H' ∧ ∀ y H'', (Its x).yld i H' y H'' → Keep H' H'' ∧ RS X.K X.mg ρ' H'' S ∧ RV X.K X.mg ρ' H'' d y
  cases e1 : x.cps[i]? with
  | none => exact Array.getElem?_eq_none_iff.mp e1
  | some c =>
    refine ⟨(Array.getElem?_eq_some_iff.mp e1).1, fun y H'' ⟨e, c', ec, ey⟩ => ?_⟩
    subst e
    rw [e1] at ec
    cases ec
    exact ⟨Keep.refl _, rs, ey⟩
theorem mi_any {l t : Expr} (hl : PE X l (tM X.K X.mg W ma)) : PI X t l (tMI X.K X.mg W (iAny ma)) := by
  refine ⟨fun pins s σ H R I ⟨ρ, e, S, re, rs, g⟩ => ?_⟩
  refine thn (hl.run pins s σ H (fun v H' => (∃ a, v = .ref a ∧ (∃ xs, SqL X.K H' a xs) ∧ R (Itl X.K a) H') ∨ (∃ a, v = .ref a ∧ (∃ xs, SqT X.K H' a xs) ∧ R (Itt X.K a) H') ∨ ∃ x, v = .str x ∧ R (Its x) H') I
    ⟨ρ, e, S, re, rs, GoodG.bind g fun d S1 v H1 ρ1 _ p1 k1 rs1 r1 g1 => ?_⟩) fun v s1 ⟨x, H1, I1, r1, q1⟩ => ?_
  · try dsimp only at g1
    split at g1
    · rename_i n
      split at g1
      · rename_i w ds e0
        obtain ⟨a, rfl, pa⟩ := r1
        obtain ⟨xs, hx, hv⟩ := rs1.list pa e0
        exact .inl ⟨a, rfl, ⟨xs, hx⟩, GoodG.ok g1 rs1 (itL_ok pa)⟩
      · exact g1.elim
    · obtain ⟨a, xs, rfl, hx, hv⟩ := r1
      exact .inr (.inl ⟨a, rfl, ⟨xs, hx⟩, GoodG.ok g1 rs1 (itD_ok hx hv)⟩)
    · cases r1
      exact .inr (.inr ⟨_, rfl, GoodG.ok g1 rs1 itS_ok⟩)
    · exact g1.elim
  · rcases q1 with ⟨a, e, ⟨xs, hq⟩, q⟩ | ⟨a, e, ⟨xs, hq⟩, q⟩ | ⟨x, e, q⟩
    · subst e
      cases r1
      obtain ⟨its, rv, p, hz⟩ := I1.list hq
      refine wpAny_pyIter_list p.isList ?_
      exact pi_one (tk := s1.toks) I1 _ (turn_list a _) ⟨_, Heap.get?_push_size _ rfl, rfl, rfl⟩ q
    · subst e
      cases r1
      obtain ⟨its, rv, p, hz⟩ := I1.tuple hq
      refine wpAny_pyIter_tuple (show s1.heap.IsTuple a its.toArray from p) ?_
      exact pi_one (tk := s1.toks) I1 _ (turn_tuple a _) ⟨_, Heap.get?_push_size _ rfl, rfl, rfl⟩ q
    · subst e
      obtain ⟨t, rfl⟩ := r1
      cases ha : x.cps.all (· < 128)
      · exact wpAny_pyIter_wide ha (pi_one (tk := s1.toks) I1 _ (turn_str _ x t "str_iterator" (.inr rfl)) ⟨_, Heap.get?_push_size _ rfl, rfl, rfl⟩ q)
      · exact wpAny_pyIter_ascii ha (pi_one (tk := s1.toks) I1 _ (turn_str _ x t "str_ascii_iterator" (.inl rfl)) ⟨_, Heap.get?_push_size _ rfl, rfl, rfl⟩ q)
def iRg1 (m : MA) : Nv → Sto → Rs ItM := fun e S => (m e S).bind fun ds S1 => match ds with
  | [.int j] => if -1000000000000 ≤ j ∧ j < 1000000000000 then .ok (itR 0 1 j.toNat) S1 else .stuck
  | _ => .stuck
def iRg2 (m : MA) : Nv → Sto → Rs ItM := fun e S => (m e S).bind fun ds S1 => match ds with
  | [.int i, .int j] => if -1000000000000 ≤ i ∧ i < 1000000000000 ∧ -1000000000000 ≤ j ∧ j < 1000000000000 then .ok (itR i 1 (j - i).toNat) S1 else .stuck
  | _ => .stuck
theorem mi_range1 {a t : Expr} {m : MA} {p : Pos} (hg : Gl X "range") (hm : X.mg "range" = none) (ha : PA X [a] (tMA X.K X.mg W m)) (hs : starEach [a] X.env = [(false, eval a X.env)] := by rfl) : PI X t (.Call (.Name "range" p) [a] [] pos) (tMI X.K X.mg W (iRg1 m)) := by
  refine ⟨fun pins s σ H R I ⟨ρ, e, S, re, rs, g⟩ => (pi_range1 hg hm ha hs).run pins s σ H R I ⟨ρ, e, S, re, rs, GoodG.bind g fun ds S1 vs H1 ρ1 _ p1 k1 rs1 r1 g1 => ?_⟩⟩
  try dsimp only at g1
  split at g1
  · rename_i j
    split at g1
    · rename_i h
      obtain ⟨x, xs, rfl, r, r0⟩ := r1
      cases r; cases r0
      exact ⟨_, rfl, by omega, by omega, GoodG.ok g1 rs1 itR1_ok⟩
    · exact g1.elim
  · exact g1.elim
theorem mi_range2 {a b t : Expr} {m : MA} {p : Pos} (hg : Gl X "range") (hm : X.mg "range" = none) (ha : PA X [a, b] (tMA X.K X.mg W m)) (hs : starEach [a, b] X.env = [(false, eval a X.env), (false, eval b X.env)] := by rfl) (hs2 : starEach [b] X.env = [(false, eval b X.env)] := by rfl) :
    PI X t (.Call (.Name "range" p) [a, b] [] pos) (tMI X.K X.mg W (iRg2 m)) := by
  refine ⟨fun pins s σ H R I ⟨ρ, e, S, re, rs, g⟩ => (pi_range2 hg hm ha hs hs2).run pins s σ H R I ⟨ρ, e, S, re, rs, GoodG.bind g fun ds S1 vs H1 ρ1 _ p1 k1 rs1 r1 g1 => ?_⟩⟩
  try dsimp only at g1
  split at g1
  · rename_i i j
    split at g1
    · rename_i h
      obtain ⟨x, xs, rfl, r, y, ys, rfl, r', r0⟩ := r1
      cases r; cases r'; cases r0
      exact ⟨_, _, rfl, ⟨by omega, by omega, by omega, by omega⟩, GoodG.ok g1 rs1 itR1_ok⟩
    · exact g1.elim
  · exact g1.elim
end

/-! ### a def -/
def startE (n : Nat) (ds : List D) : Nv := ds.map some ++ List.replicate (n - ds.length) none
/-- a def's function: n names, k parameters -/
def mDef (n k : Nat) (body : MS) : MF := fun ds S => if ds.length = k then match body (startE n ds) S with
    | .nx _ S' => .ok .non S'
    | .rt d S' => .ok d S'
    | .exc c fs _ S' => .exc c fs S'
    | _ => .stuck
  else .stuck
theorem re_start {K : PySem.W.Frag} {mg : Str → Option Value} {ρ : List Addr} {H : Hp} {ds : List D} {vs : List V} {N : List Str} (r : RVs K mg ρ H ds vs) : RE K mg ρ H (startE N.length ds) (L2.start N vs) := by
  have hl := r.length
  refine ⟨by unfold startE L2.start; simp [hl], fun i d q => ?_⟩
  unfold startE at q
  by_cases hi : i < ds.length
  · rw [List.getElem?_append_left (by simpa using hi), List.getElem?_map] at q
    cases e : ds[i]? with
    | none => rw [e] at q; cases q
    | some d' =>
      rw [e] at q
      cases q
      obtain ⟨v, ev, rv⟩ := r.get e
      refine ⟨v, ?_, rv⟩
      unfold L2.start
      rw [List.getElem?_append_left (by simp; omega), List.getElem?_map, ev]
      rfl
  · rw [List.getElem?_append_right (by simpa using hi), List.getElem?_replicate] at q
    split at q <;> cases q
section
variable {P : Program} {w : World} {K : PySem.W.Frag} {mg : Str → Option Value} {base : Heap}
/-- the context of a def's body: what is asked of it -/
structure MX (X : Cx) (W : WX) (k : Nat) : Prop where
  calm : X.calm = true
  nd : X.N.Nodup
  tk : L2N.Takes X W
  po : PassesOwn (model X.prog X.w) X.A X.env X.xe
  hu : X.A.units + 64 < cLine
  hu5 : X.A.units + 65 < cLine
  room : Room k X.A
theorem un65 {k : Nat} {A : Around} (r : Room k A) : A.units + 65 < cLine := by have := r.un; omega
/-- THE RULE for a def -/
theorem FnM.of {x qual : Str} {st : Stmt} {f : Addr} {fd : FuncData} {N ps : List Str} {k : Nat} {body : MS} (F : Fun K x qual st f fd) (S : FnScope N ps (defScope st)) (hm : mg x = some (.ref f)) (hb : Binds K fd ps [])
    (h : ∀ (cdv : Value) (A : Around) (outer : List Env) (s : Shared) (H : Hp) (E : XK), MX (cxOf (L2N.CX P w) P w K mg base N qual (defScope st) f cdv A outer s H E) (E2W E) k →
      PSs (cxOf (L2N.CX P w) P w K mg base N qual (defScope st) f cdv A outer s H E) (defBody st) (tMS K mg (E2W E) body)) : FnM P w K mg base x (k + 1) (mDef N.length ps.length body) := by
  refine ⟨f, fd, ps, hm, F.kp, hb, ?_⟩
  obtain ⟨oc, od, kV, doc, pm, an, cdv, ct, osl, rfl, lk, hcd⟩ := F.ex
  refine fn_of lk hcd S (fun vs H Q E hsp => ?_) fun A outer s H vs Q E hr hsp => ?_
  · obtain ⟨ρ, S', ds, rs, rv, g⟩ := hsp
    rw [← rv.length]
    unfold mDef at g
    split at g
    · assumption
    · exact g.elim
  · refine ⟨_, h cdv A outer s H E ⟨rfl, S.nd, L2N.takes_of rfl rfl rfl rfl, passes_of rfl, hr.units, un65 hr, hr⟩, ?_⟩
    obtain ⟨ρ, S', ds, rs, rv, g⟩ := hsp
    refine ⟨ρ, startE N.length ds, S', re_start rv, rs, ?_⟩
    unfold mDef at g
    split at g
    · cases hb' : body (startE N.length ds) S' with
      | nx e S1 =>
        rw [hb'] at g
        exact fun σ' H' ρ' p kk rs' re' => g .non H' ρ' p kk rs' rfl
      | rt d S1 =>
        rw [hb'] at g
        exact fun v H' ρ' p kk rs' r' => g v H' ρ' p kk rs' r'
      | exc c fs e S1 =>
        rw [hb'] at g
        exact fun C dd σ' H' ρ' vs' hm p kk rs' re' hd hf => g C dd H' ρ' vs' hm p kk rs' hd hf
      | bk e S1 => rw [hb'] at g; exact g.elim
      | ct e S1 => rw [hb'] at g; exact g.elim
      | stuck => rw [hb'] at g; exact g.elim
    · exact g.elim
end
end M2
end

section
set_option Elab.async false
set_option linter.all false
set_option maxRecDepth 100000
/-! M2: subscripts, slices, built-ins, methods of texts and lists, f-strings, dicts. -/
namespace M2
open PySem PySem.Spec PyProof.Rows L2
set_option autoImplicit false
def strsOf : List D → Option (List Str)
  | [] => some []
  | .str x :: r => (strsOf r).map (x :: ·)
  | _ => none
def intsOf : List D → Option (List Int)
  | [] => some []
  | .int x :: r => (intsOf r).map (x :: ·)
  | _ => none
def bolsOf : List D → Option (List Bool)
  | [] => some []
  | .bl x :: r => (bolsOf r).map (x :: ·)
  | _ => none
/-- the items of a list or a tuple -/
def itemsOf (S : Sto) (d : D) : Option (List D) := match d with
  | .loc n => match S[n]? with
    | some (.lst _ ds) => some ds
    | _ => none
  | .tup ds => some ds
  | _ => none
def keyD : D → Option Key
  | .int i => some (.inl i)
  | .str x => some (.inr x)
  | _ => none
def getD' (kvs : List (Key × D)) (k : Key) : Option D := (kvs.find? fun kv => decide (kv.1 = k)).map (·.2)
def putD (kvs : List (Key × D)) (k : Key) (v : D) : List (Key × D) :=
  if (kvs.any fun kv => decide (kv.1 = k)) = true then kvs.map (fun kv => if kv.1 = k then (kv.1, v) else kv) else kvs ++ [(k, v)]
section
variable {K : PySem.W.Frag} {mg : Str → Option Value} {ρ : List Addr} {H : Hp} {S : Sto}
theorem rvs_strs : ∀ {ds : List D} {vs : List V} {ys : List Str}, RVs K mg ρ H ds vs → strsOf ds = some ys → vs = ys.map V.str
  | [], vs, ys, h, e => by cases e; rw [show vs = [] from h]; rfl
  | d :: ds, vs, ys, h, e => by
    obtain ⟨x, xs, rfl, h1, h2⟩ := h
    cases d with
    | str z =>
      obtain ⟨zs, e1, e2⟩ := map_some (show (strsOf ds).map (z :: ·) = some ys from e)
      subst e2
      cases h1
      rw [rvs_strs h2 e1]; rfl
    | _ => cases e
theorem rvs_ints : ∀ {ds : List D} {vs : List V} {ys : List Int}, RVs K mg ρ H ds vs → intsOf ds = some ys → vs = ys.map V.int
  | [], vs, ys, h, e => by cases e; rw [show vs = [] from h]; rfl
  | d :: ds, vs, ys, h, e => by
    obtain ⟨x, xs, rfl, h1, h2⟩ := h
    cases d with
    | int z =>
      obtain ⟨zs, e1, e2⟩ := map_some (show (intsOf ds).map (z :: ·) = some ys from e)
      subst e2
      cases h1
      rw [rvs_ints h2 e1]; rfl
    | _ => cases e
theorem rvs_bols : ∀ {ds : List D} {vs : List V} {ys : List Bool}, RVs K mg ρ H ds vs → bolsOf ds = some ys → vs = ys.map V.bl
  | [], vs, ys, h, e => by cases e; rw [show vs = [] from h]; rfl
  | d :: ds, vs, ys, h, e => by
    obtain ⟨x, xs, rfl, h1, h2⟩ := h
    cases d with
    | bl z =>
      obtain ⟨zs, e1, e2⟩ := map_some (show (bolsOf ds).map (z :: ·) = some ys from e)
      subst e2
      cases h1
      rw [rvs_bols h2 e1]; rfl
    | _ => cases e
theorem strs_rvs : ∀ (ys : List Str), RVs K mg ρ H (ys.map D.str) (ys.map V.str)
  | [] => rfl
  | y :: ys => ⟨_, _, rfl, rfl, strs_rvs ys⟩
theorem ints_rvs : ∀ (ys : List Int), RVs K mg ρ H (ys.map D.int) (ys.map V.int)
  | [] => rfl
  | y :: ys => ⟨_, _, rfl, rfl, ints_rvs ys⟩
theorem items_seq {d : D} {v : V} {ds : List D} (rs : RS K mg ρ H S) (r : RV K mg ρ H d v) (e : itemsOf S d = some ds) : ∃ a xs, v = .ref a ∧ (SqL K H a xs ∨ SqT K H a xs) ∧ RVs K mg ρ H ds xs := by
  cases d with
  | loc n =>
    obtain ⟨a, rfl, pa⟩ := r
    unfold itemsOf at e
    dsimp only at e
    split at e
    · rename_i w ds' e0
      cases e
      obtain ⟨xs, hx, hv⟩ := rs.list pa e0
      exact ⟨a, xs, rfl, .inl hx, hv⟩
    · cases e
  | tup ds' =>
    cases e
    obtain ⟨a, xs, rfl, hx, hv⟩ := r
    exact ⟨a, xs, rfl, .inr hx, hv⟩
  | _ => cases e
theorem keyD_V {d : D} {v : V} {k : Key} (r : RV K mg ρ H d v) (e : keyD d = some k) : v = kV k := by
  cases d with
  | int i => cases r; cases e; rfl
  | str x => cases r; cases e; rfl
  | _ => cases e
theorem rks_get : ∀ {kvs : List (Key × D)} {xs : List (Key × V)} (k : Key), RKs K mg ρ H kvs xs → match getD' kvs k with
    | some d => ∃ v, valV xs k = some v ∧ RV K mg ρ H d v
    | none => valV xs k = none
  | [], xs, k, h => by rw [show xs = [] from h]; rfl
  | (k0, d) :: kvs, xs, k, h => by
    obtain ⟨x, ys, rfl, h1, h2⟩ := h
    by_cases e : k0 = k
    · subst e
      have : getD' ((k0, d) :: kvs) k0 = some d := by simp [getD', List.find?_cons]
      rw [this]
      exact ⟨x, valV_pos rfl, h1⟩
    · have : getD' ((k0, d) :: kvs) k = getD' kvs k := by simp [getD', List.find?_cons, e]
      rw [this, valV_neg e]
      exact rks_get k h2
theorem rks_len : ∀ {kvs : List (Key × D)} {xs : List (Key × V)}, RKs K mg ρ H kvs xs → kvs.length = xs.length
  | [], xs, h => by rw [show xs = [] from h]; rfl
  | _ :: kvs, xs, h => by
    obtain ⟨x, ys, rfl, h1, h2⟩ := h
    rw [List.length_cons, List.length_cons, rks_len h2]
theorem rks_any : ∀ {kvs : List (Key × D)} {xs : List (Key × V)} (k : Key), RKs K mg ρ H kvs xs → (kvs.any fun kv => decide (kv.1 = k)) = xs.any fun kv => decide (kv.1 = k)
  | [], xs, k, h => by rw [show xs = [] from h]; rfl
  | _ :: kvs, xs, k, h => by
    obtain ⟨x, ys, rfl, h1, h2⟩ := h
    rw [List.any_cons, List.any_cons, rks_any k h2]
theorem rks_map : ∀ {kvs : List (Key × D)} {xs : List (Key × V)} {k : Key} {d : D} {v : V}, RKs K mg ρ H kvs xs → RV K mg ρ H d v → RKs K mg ρ H (kvs.map fun kv => if kv.1 = k then (kv.1, d) else kv) (xs.map fun kv => if kv.1 = k then (kv.1, v) else kv)
  | [], xs, k, d, v, h, r => by rw [show xs = [] from h]; exact rfl
  | (k0, d0) :: kvs, xs, k, d, v, h, r => by
    obtain ⟨x, ys, rfl, h1, h2⟩ := h
    have t := rks_map (k := k) h2 r
    rw [List.map_cons, List.map_cons]
    by_cases e : k0 = k
    · simp only [e, if_true]; exact ⟨v, _, rfl, r, t⟩
    · simp only [e, if_false]; exact ⟨x, _, rfl, h1, t⟩
theorem rks_app : ∀ {kvs : List (Key × D)} {xs : List (Key × V)} {k : Key} {d : D} {v : V}, RKs K mg ρ H kvs xs → RV K mg ρ H d v → RKs K mg ρ H (kvs ++ [(k, d)]) (xs ++ [(k, v)])
  | [], xs, k, d, v, h, r => by rw [show xs = [] from h]; exact ⟨v, [], rfl, r, rfl⟩
  | (k0, d0) :: kvs, xs, k, d, v, h, r => by
    obtain ⟨x, ys, rfl, h1, h2⟩ := h
    exact ⟨x, _, rfl, h1, rks_app h2 r⟩
theorem rks_put {kvs : List (Key × D)} {xs : List (Key × V)} {k : Key} {d : D} {v : V} (h : RKs K mg ρ H kvs xs) (r : RV K mg ρ H d v) : RKs K mg ρ H (putD kvs k d) (putK xs k v) := by
  unfold putD putK
  rw [rks_any k h]
  split
  · exact rks_map h r
  · exact rks_app h r
end
/-! ### subscripts -/
def oIx : Op2 := fun a b S => match a, b with
  | .str x, .int i => if x.length ≤ sizeLine then (atI x.cps.toList i).map fun c => (.str ⟨#[c]⟩, S) else none
  | .tup ds, .int i => (atI ds i).map fun d => (d, S)
  | .loc n, k => match S[n]? with
    | some (.lst _ ds) => match k with
      | .int i => (atI ds i).map fun d => (d, S)
      | _ => none
    | some (.dic kvs) => match keyD k with
      | some key => (getD' kvs key).map fun d => (d, S)
      | none => none
    | none => none
  | _, _ => none
theorem rvs_atI {K : PySem.W.Frag} {mg : Str → Option Value} {ρ : List Addr} {H : Hp} {ds : List D} {xs : List V} {i : Int} {d : D} (r : RVs K mg ρ H ds xs) (e : atI ds i = some d) : ∃ v, atI xs i = some v ∧ RV K mg ρ H d v := by
  unfold atI at e ⊢
  rw [← r.length]
  cases h : ixN ds.length i with
  | none => rw [h] at e; cases e
  | some j =>
    rw [h] at e
    exact r.get (i := j) e
section
variable {X : Cx} {W : WX} {e a b c : Expr} {es : List Expr} {ma mb mc : MV} {mr : MA} {ta tb : MT} {pos : Pos}
theorem ixm (hu : X.A.units + 64 < cLine) : IxR X (rM2 X.K X.mg oIx) := by
  intro value slice pins s σ H x y v u Q I rx ry ⟨ρ, S, d1, d2, d3, S3, rs, r1, r2, e, q⟩ hs
  unfold oIx at e
  split at e
  · cases r1; cases r2
    split at e
    · rename_i hz
      obtain ⟨c, h, e⟩ := map_some e
      cases e
      exact ix_str value slice pins s σ H _ _ v u Q I rx ry ⟨_, _, c, rfl, rfl, hz, h, q.now rs rfl⟩ hs
    · cases e
  · cases r2
    obtain ⟨d, h, e⟩ := map_some e
    cases e
    obtain ⟨p, xs, rfl, hx, hv⟩ := r1
    obtain ⟨v', ev, rv⟩ := rvs_atI hv h
    exact ix_tup value slice pins s σ H _ _ v u Q I rx ry ⟨p, xs, _, v', rfl, rfl, hx, ev, q.now rs rv⟩ hs
  · rename_i n k
    obtain ⟨p, rfl, pa⟩ := r1
    split at e
    · rename_i w ds e0
      split at e
      · cases r2
        obtain ⟨d, h, e⟩ := map_some e
        cases e
        obtain ⟨xs, hx, hv⟩ := rs.list pa e0
        obtain ⟨v', ev, rv⟩ := rvs_atI hv h
        exact ix_list value slice pins s σ H _ _ v u Q I rx ry ⟨p, xs, _, v', rfl, rfl, hx, ev, q.now rs rv⟩ hs
      · cases e
    · rename_i kvs e0
      split at e
      · rename_i key hk
        obtain ⟨d, h, e⟩ := map_some e
        cases e
        obtain ⟨xs, hx, hv⟩ := rs.at_ _ _ _ pa e0
        have z := rks_get key hv
        rw [h] at z
        obtain ⟨v', ev, rv⟩ := z
        have g : DGet H p y (some v') := by
          rw [keyD_V r2 hk, ← ev]
          exact DGet.k hx
        cases rx
        exact tail_any (dict_typeIs I g) PySem.F.slot_dict_getitem.lookup (d_getItem (by omega) I g ry fun w' s3 I3 rw' => ⟨v', H, I3, rw', q.now rs rv⟩) hs
      · cases e
    · cases e
  · cases e
theorem me_ix (hu : X.A.units + 64 < cLine) (ha : PE X a (tM X.K X.mg W ma)) (hb : PE X b (tM X.K X.mg W mb)) (hs : PlainIx b := by exact fun _ _ => rfl) : PE X (.Subscript a b pos) (tM X.K X.mg W (mBin oIx ma mb)) := PE.imp (pe_ix (ixm hu) ha hb hs) tm_op
/-! slices -/
abbrev MO := Nv → Sto → Rs (Option Int)
def pNo : MO := fun _ S => .ok none S
def pAt (ma : MV) : MO := fun e S => (ma e S).bind fun d S1 => match d with
  | .int i => .ok (some i) S1
  | _ => .stuck
def cutD (xs : List D) (lo hi : Option Int) : List D := (xs.drop (HT.sIx xs.length 0 lo)).take (HT.sIx xs.length xs.length hi - HT.sIx xs.length 0 lo)
def oSl (d : D) (lo hi : Option Int) (S : Sto) : Option (D × Sto) := match d with
  | .str x => if x.length ≤ sizeLine then some (.str (cutS x lo hi), S) else none
  | .tup ds => some (.tup (cutD ds lo hi), S)
  | .loc n => match S[n]? with
    | some (.lst _ ds) => some (.loc S.length, S ++ [.lst true (cutD ds lo hi)])
    | _ => none
  | _ => none
def mSl (ma : MV) (lo hi : MO) : MV := fun e S => (ma e S).bind fun d S1 => (lo e S1).bind fun l S2 => (hi e S2).bind fun h S3 => lift (oSl d l h S3)
theorem mo_none : PO X none (tMO X.K X.mg W pNo) := by
  refine ⟨fun pins s σ H Q I ⟨ρ, e, S, re, rs, g⟩ => po_none.run pins s σ H Q I ?_⟩
  exact GoodG.ok g rs rfl
theorem mo_some (h : PE X e (tM X.K X.mg W ma)) : PO X (some e) (tMO X.K X.mg W (pAt ma)) := by
  refine ⟨fun pins s σ H Q I ⟨ρ, e, S, re, rs, g⟩ => (po_some h).run pins s σ H Q I ⟨ρ, e, S, re, rs, GoodG.bind g fun d S1 v H1 ρ1 _ p1 k1 rs1 r1 g1 => ?_⟩⟩
  try dsimp only at g1
  split at g1
  · cases r1
    exact ⟨_, rfl, GoodG.ok g1 rs1 rfl⟩
  · exact g1.elim
def rSlM (K : PySem.W.Frag) (mg : Str → Option Value) : V → Option Int → Option Int → Hp → VK → Prop := fun x lo hi H Q => ∃ ρ S d d3 S3, RS K mg ρ H S ∧ RV K mg ρ H d x ∧ oSl d lo hi S = some (d3, S3) ∧ Fin K mg ρ H d3 S3 Q
theorem rvs_cut {K : PySem.W.Frag} {mg : Str → Option Value} {ρ : List Addr} {H : Hp} {ds : List D} {xs : List V} (r : RVs K mg ρ H ds xs) (lo hi : Option Int) : RVs K mg ρ H (cutD ds lo hi) (cutV xs lo hi) := by
  unfold cutD cutV
  rw [r.length]
  exact (r.drop _).take _
theorem cut_whole (ds : List D) (lo hi : Option Int) (h : HT.sIx ds.length 0 lo = 0 ∧ HT.sIx ds.length ds.length hi = ds.length) : cutD ds lo hi = ds := by
  unfold cutD
  rw [h.1, h.2]
  simp
theorem slm : SlR X (rSlM X.K X.mg) := by
  intro pins s σ H x v vl vu lo hi sl Q I rx hs pl pu ⟨ρ, S, d, d3, S3, rs, r, e, q⟩
  unfold oSl at e
  cases d with
  | str z =>
    cases r
    have e : (if z.length ≤ sizeLine then some (D.str (cutS z lo hi), S) else none) = some (d3, S3) := e
    split at e
    · rename_i hz; cases e
      exact sl_str pins s σ H _ v vl vu lo hi sl Q I rx hs pl pu ⟨z, rfl, hz, q.now rs rfl⟩
    · cases e
  | tup ds =>
    cases e
    obtain ⟨a, xs, rfl, hx, hv⟩ := r
    refine sl_tupA pins s σ H _ v vl vu lo hi sl Q I rx hs pl pu ⟨a, xs, rfl, hx, fun hw => ?_, fun _ p hp => q.tnew rs (rvs_cut hv lo hi) hp⟩
    rw [← hv.length] at hw
    rw [cut_whole ds lo hi hw] at q
    exact q.now rs ⟨a, xs, rfl, hx, hv⟩
  | loc n =>
    obtain ⟨a, rfl, pa⟩ := r
    dsimp only at e
    split at e
    · rename_i w ds e0
      cases e
      obtain ⟨xs, hx, hv⟩ := rs.list pa e0
      exact sl_list pins s σ H _ v vl vu lo hi sl Q I rx hs pl pu ⟨a, xs, rfl, hx, fun p hp => q.lnew rs (rvs_cut hv lo hi) hp⟩
    · cases e
  | _ => cases e
theorem me_slice {lo hi : Option Expr} {ml mh : MO} {p2 : Pos} (he : PE X e (tM X.K X.mg W ma)) (hl : PO X lo (tMO X.K X.mg W ml)) (hh : PO X hi (tMO X.K X.mg W mh)) : PE X (.Subscript e (.Slice lo hi none p2) pos) (tM X.K X.mg W (mSl ma ml mh)) :=
  PE.imp (pe_slice slm he hl hh) fun σ H Q ⟨ρ, e, S, re, rs, g⟩ => ⟨ρ, e, S, re, rs, GoodG.bind g fun d1 S1 x H1 ρ1 _ p1 k1 rs1 r1 g1 => ⟨ρ1, e, S1, re.mono p1 k1, rs1, GoodG.bind g1 fun l S2 y H2 ρ2 _ p2 k2 rs2 r2 g2 =>
    ⟨ρ2, e, S2, (re.mono p1 k1).mono p2 k2, rs2, GoodG.bind g2 fun h S3 y3 H3 ρ3 _ p3 k3 rs3 r3 g3 => by
      cases r2; cases r3
      unfold lift at g3
      split at g3
      · rename_i d3 S4 e4
        exact ⟨ρ3, S3, d1, d3, S4, rs3, r1.mono (p2.trans p3) (k2.trans k3), e4, fun v H' ρ' p k s r => g3 v H' ρ' p k s r⟩
      · exact g3.elim⟩⟩⟩
/-! ### built-ins -/
def oLen : OpL := fun ds S => match ds with
  | [.str x] => if x.length ≤ sizeLine then some (.int x.length, S) else none
  | [d] => (itemsOf S d).map fun xs => (.int xs.length, S)
  | _ => none
theorem cm_len : CallR X (.builtin "len") (rML X.K X.mg oLen) := by
  intro pins s σ H xs us Q I r ⟨ρ, S, ds, d3, S3, rs, rv, e, q⟩
  unfold oLen at e
  split at e
  · obtain ⟨x, ys, rfl, r1, r0⟩ := rv
    cases r1; cases r0
    split at e
    · rename_i hz; cases e
      exact call_len_str pins s σ H _ us Q I r ⟨_, rfl, hz, q.now rs rfl⟩
    · cases e
  · obtain ⟨x, ys, rfl, r1, r0⟩ := rv
    cases r0
    obtain ⟨xs', h, e⟩ := map_some e
    cases e
    obtain ⟨a, zs, rfl, hx, hv⟩ := items_seq rs r1 h
    refine call_len_seq pins s σ H _ us Q I r ⟨a, zs, rfl, hx, ?_⟩
    rw [← hv.length]
    exact q.now rs rfl
  · cases e
def oTuple : OpL := fun ds S => match ds with
  | [d] => (itemsOf S d).map fun xs => (.tup xs, S)
  | _ => none
theorem cm_tuple : CallR X (.type "tuple") (rML X.K X.mg oTuple) := by
  intro pins s σ H xs us Q I r ⟨ρ, S, ds, d3, S3, rs, rv, e, q⟩
  unfold oTuple at e
  split at e
  · obtain ⟨x, ys, rfl, r1, r0⟩ := rv
    cases r0
    obtain ⟨xs', h, e⟩ := map_some e
    cases e
    obtain ⟨a, zs, rfl, hx, hv⟩ := items_seq rs r1 h
    rcases hx with hx | hx
    · exact call_tuple_of pins s σ H _ us Q I r ⟨a, zs, rfl, .inl ⟨hx, fun l hl => q.tnew rs hv hl⟩⟩
    · exact call_tuple_of pins s σ H _ us Q I r ⟨a, zs, rfl, .inr ⟨hx, q.now rs ⟨a, zs, rfl, hx, hv⟩⟩⟩
  · cases e
def oList : OpL := fun ds S => match ds with
  | [d] => (itemsOf S d).map fun xs => (.loc S.length, S ++ [.lst true xs])
  | _ => none
theorem cm_list : CallR X (.type "list") (rML X.K X.mg oList) := by
  intro pins s σ H xs us Q I r ⟨ρ, S, ds, d3, S3, rs, rv, e, q⟩
  unfold oList at e
  split at e
  · obtain ⟨x, ys, rfl, r1, r0⟩ := rv
    cases r0
    obtain ⟨xs', h, e⟩ := map_some e
    cases e
    obtain ⟨a, zs, rfl, hx, hv⟩ := items_seq rs r1 h
    exact call_list_of pins s σ H _ us Q I r ⟨a, zs, rfl, hx, fun l hl => q.lnew rs hv hl⟩
  · cases e
def oInt : OpL := fun ds S => match ds with
  | [.int i] => some (.int i, S)
  | [.bl k] => some (.int (if k then 1 else 0), S)
  | _ => none
theorem cm_int : CallR X (.type "int") (rML X.K X.mg oInt) := by
  intro pins s σ H xs us Q I r ⟨ρ, S, ds, d3, S3, rs, rv, e, q⟩
  unfold oInt at e
  split at e
  · obtain ⟨x, ys, rfl, r1, r0⟩ := rv
    cases r1; cases r0; cases e
    exact call_int1 pins s σ H _ us Q I r (.inl ⟨_, rfl, q.now rs rfl⟩)
  · obtain ⟨x, ys, rfl, r1, r0⟩ := rv
    cases r1; cases r0; cases e
    exact call_int1 pins s σ H _ us Q I r (.inr ⟨_, rfl, q.now rs rfl⟩)
  · cases e
def oStr : OpL := fun ds S => match ds with
  | [.int i] => if i.natAbs.log2 < 1920 then some (.str (toString i), S) else none
  | _ => none
theorem cm_str : CallR X (.type "str") (rML X.K X.mg oStr) := by
  intro pins s σ H xs us Q I r ⟨ρ, S, ds, d3, S3, rs, rv, e, q⟩
  unfold oStr at e
  split at e
  · obtain ⟨x, ys, rfl, r1, r0⟩ := rv
    cases r1; cases r0
    split at e
    · rename_i hz; cases e
      exact call_str_int pins s σ H _ us Q I r ⟨_, rfl, hz, q.now rs rfl⟩
    · cases e
  · cases e
def oMax : OpL := fun ds S => match ds with
  | [.int i, .int j] => some (.int (if j > i then j else i), S)
  | _ => none
def oMin : OpL := fun ds S => match ds with
  | [.int i, .int j] => some (.int (if j < i then j else i), S)
  | _ => none
theorem cm_max (hc : X.calm = true) : CallR X (.builtin "max") (rML X.K X.mg oMax) := by
  intro pins s σ H xs us Q I r ⟨ρ, S, ds, d3, S3, rs, rv, e, q⟩
  unfold oMax at e
  split at e
  · obtain ⟨x, ys, rfl, r1, y, ys2, rfl, r2, r0⟩ := rv
    cases r1; cases r2; cases r0; cases e
    exact call_max2 hc pins s σ H _ us Q I r ⟨_, _, rfl, q.now rs rfl⟩
  · cases e
theorem cm_min (hc : X.calm = true) : CallR X (.builtin "min") (rML X.K X.mg oMin) := by
  intro pins s σ H xs us Q I r ⟨ρ, S, ds, d3, S3, rs, rv, e, q⟩
  unfold oMin at e
  split at e
  · obtain ⟨x, ys, rfl, r1, y, ys2, rfl, r2, r0⟩ := rv
    cases r1; cases r2; cases r0; cases e
    exact call_min2 hc pins s σ H _ us Q I r ⟨_, _, rfl, q.now rs rfl⟩
  · cases e
def oDivmod : OpL := fun ds S => match ds with
  | [.int i, .int j] => if 0 < j ∧ j < 1073741824 then some (.tup [.int (i / j), .int (i % j)], S) else none
  | _ => none
theorem cm_divmod : CallR X (.builtin "divmod") (rML X.K X.mg oDivmod) := by
  intro pins s σ H xs us Q I r ⟨ρ, S, ds, d3, S3, rs, rv, e, q⟩
  unfold oDivmod at e
  split at e
  · obtain ⟨x, ys, rfl, r1, y, ys2, rfl, r2, r0⟩ := rv
    cases r1; cases r2; cases r0
    split at e
    · rename_i hz; cases e
      exact call_divmod pins s σ H _ us Q I r ⟨_, _, rfl, hz, fun p hp => q.tnew rs ⟨_, _, rfl, rfl, _, _, rfl, rfl, rfl⟩ hp⟩
    · cases e
  · cases e
def oSum : OpL := fun ds S => match ds with
  | [.loc n] => match S[n]? with
    | some (.lst _ xs) => (intsOf xs).map fun ns => (.int ns.sum, S)
    | _ => none
  | _ => none
theorem cm_sum (hc : X.calm = true) : CallR X (.builtin "sum") (rML X.K X.mg oSum) := by
  intro pins s σ H xs us Q I r ⟨ρ, S, ds, d3, S3, rs, rv, e, q⟩
  unfold oSum at e
  split at e
  · obtain ⟨x, ys, rfl, ⟨a, rfl, pa⟩, r0⟩ := rv
    cases r0
    split at e
    · rename_i w xs' e0
      obtain ⟨ns, h, e⟩ := map_some e
      cases e
      obtain ⟨zs, hx, hv⟩ := rs.list pa e0
      have := rvs_ints hv h
      subst this
      exact cr_sum hc pins s σ H _ us Q I r ⟨a, ns, rfl, hx, q.now rs rfl⟩
    · cases e
  · cases e
def oAll : OpL := fun ds S => match ds with
  | [.loc n] => match S[n]? with
    | some (.lst _ xs) => (bolsOf xs).map fun ns => (.bl (ns.all id), S)
    | _ => none
  | _ => none
def oAny : OpL := fun ds S => match ds with
  | [.loc n] => match S[n]? with
    | some (.lst _ xs) => (bolsOf xs).map fun ns => (.bl (ns.any id), S)
    | _ => none
  | _ => none
theorem cm_all (hc : X.calm = true) : CallR X (.builtin "all") (rML X.K X.mg oAll) := by
  intro pins s σ H xs us Q I r ⟨ρ, S, ds, d3, S3, rs, rv, e, q⟩
  unfold oAll at e
  split at e
  · obtain ⟨x, ys, rfl, ⟨a, rfl, pa⟩, r0⟩ := rv
    cases r0
    split at e
    · rename_i w xs' e0
      obtain ⟨ns, h, e⟩ := map_some e
      cases e
      obtain ⟨zs, hx, hv⟩ := rs.list pa e0
      have := rvs_bols hv h
      subst this
      exact cr_all hc pins s σ H _ us Q I r ⟨a, ns, rfl, hx, q.now rs rfl⟩
    · cases e
  · cases e
theorem cm_any (hc : X.calm = true) : CallR X (.builtin "any") (rML X.K X.mg oAny) := by
  intro pins s σ H xs us Q I r ⟨ρ, S, ds, d3, S3, rs, rv, e, q⟩
  unfold oAny at e
  split at e
  · obtain ⟨x, ys, rfl, ⟨a, rfl, pa⟩, r0⟩ := rv
    cases r0
    split at e
    · rename_i w xs' e0
      obtain ⟨ns, h, e⟩ := map_some e
      cases e
      obtain ⟨zs, hx, hv⟩ := rs.list pa e0
      have := rvs_bols hv h
      subst this
      exact cr_any hc pins s σ H _ us Q I r ⟨a, ns, rfl, hx, q.now rs rfl⟩
    · cases e
  · cases e
/-- the name of a thing's type -/
def tyD (S : Sto) (d : D) : Option String := match d with
  | .non => some "NoneType"
  | .bl _ => some "bool"
  | .int _ => some "int"
  | .str _ => some "str"
  | .tup _ => some "tuple"
  | .loc n => match S[n]? with
    | some (.lst _ _) => some "list"
    | some (.dic _) => some "dict"
    | none => none
  | _ => none
def oType : OpL := fun ds S => match ds with
  | [d] => (tyD S d).map fun t => (.ty t, S)
  | _ => none
theorem cm_type : CallR X (.type "type") (rML X.K X.mg oType) := by
  intro pins s σ H xs us Q I r ⟨ρ, S, ds, d3, S3, rs, rv, e, q⟩
  unfold oType at e
  split at e
  · obtain ⟨x, ys, rfl, r1, r0⟩ := rv
    cases r0
    obtain ⟨t, h, e⟩ := map_some e
    cases e
    refine call_type1 pins s σ H _ us Q I r ⟨x, t, rfl, ?_, q.now rs rfl⟩
    rename_i d
    cases d with
    | non => cases r1; cases h; exact .non
    | bl b => cases r1; cases h; exact .bl b
    | int i => cases r1; cases h; exact .int i
    | str x => cases r1; cases h; exact .str x
    | tup ds => obtain ⟨a, zs, rfl, hx, hv⟩ := r1; cases h; exact .tup hx
    | loc n =>
      obtain ⟨a, rfl, pa⟩ := r1
      unfold tyD at h
      dsimp only at h
      split at h
      · rename_i w ds e0; cases h
        obtain ⟨zs, hx, hv⟩ := rs.list pa e0
        exact .lst hx
      · rename_i kvs e0; cases h
        obtain ⟨zs, hx, hv⟩ := rs.at_ _ _ _ pa e0
        exact .dK hx
      · cases h
    | _ => cases h
  · cases e
def oIsi : OpL := fun ds S => match ds with
  | [d, .ty n] => match tyD S d with
    | some t => (kitB t n).map fun b => (.bl b, S)
    | none => none
  | _ => none
theorem tyX_of {ρ : List Addr} {H : Hp} {S : Sto} {d : D} {x : V} {t : String} (rs : RS X.K X.mg ρ H S) (r1 : RV X.K X.mg ρ H d x) (h : tyD S d = some t) : TyX X.K H x (.type t) := by
  cases d with
  | non => cases r1; cases h; exact .base .non
  | bl b => cases r1; cases h; exact .base (.bl b)
  | int i => cases r1; cases h; exact .base (.int i)
  | str x => cases r1; cases h; exact .base (.str x)
  | tup ds =>
    obtain ⟨a, zs, rfl, hx, hv⟩ := r1; cases h
    rcases hx with (hx | ⟨o, hx⟩) | ⟨o, its, n, hk, hc, _⟩
    · exact .base (.tup hx)
    · exact .fTuple hx
    · exact .kTuple hk hc
  | loc n =>
    obtain ⟨a, rfl, pa⟩ := r1
    unfold tyD at h
    dsimp only at h
    split at h
    · rename_i w ds e0; cases h
      obtain ⟨zs, hx, hv⟩ := rs.list pa e0
      rcases hx with (hx | ⟨o, hx⟩) | ⟨o, its, n, hk, hc, _⟩
      · exact .base (.lst hx)
      · exact .base (.frz hx)
      · exact .kList hk hc
    · rename_i kvs e0; cases h
      obtain ⟨zs, hx, hv⟩ := rs.at_ _ _ _ pa e0
      exact .base (.dK hx)
    · cases h
  | _ => cases h
theorem cm_isi : CallR X (.builtin "isinstance") (rML X.K X.mg oIsi) := by
  intro pins s σ H xs us Q I r ⟨ρ, S, ds, d3, S3, rs, rv, e, q⟩
  unfold oIsi at e
  split at e
  · obtain ⟨x, ys, rfl, r1, y, ys2, rfl, r2, r0⟩ := rv
    cases r2; cases r0
    split at e
    · rename_i t h
      obtain ⟨b, hb, e⟩ := map_some e
      cases e
      exact call_isi pins s σ H _ us Q I r ⟨x, _, .type t, _, b, rfl, .ty _, tyX_of rs r1 h, kit_ty hb, q.now rs rfl⟩
    · cases e
  · cases e
/-! ### methods -/
/-- the built-in type of a receiver -/
def rcvD (S : Sto) (d : D) (T : String) : Bool := match d with
  | .str _ => decide (T = "str")
  | .loc n => match S[n]? with
    | some (.lst _ _) => decide (T = "list")
    | some (.dic _) => decide (T = "dict")
    | none => false
  | _ => false
/-- T: the type that the receiver must have -/
def mMeth (T : String) (mo : OpM) (mx : MV) (m : MA) : MV := fun e S => (mx e S).bind fun x S1 => if rcvD S1 x T = true then (m e S1).bind fun as S2 => lift (mo x as S2) else .stuck
theorem rcv_ok {T : String} {ρ : List Addr} {H : Hp} {S : Sto} {d : D} {v : V} (rs : RS X.K X.mg ρ H S) (r : RV X.K X.mg ρ H d v) (h : rcvD S d T = true) : tyV X.K T v H := by
  cases d with
  | str x => cases r; exact (show T = "str" from of_decide_eq_true h)
  | loc n =>
    obtain ⟨a, rfl, pa⟩ := r
    unfold rcvD at h
    dsimp only at h
    split at h
    · rename_i w ds e0
      obtain ⟨xs, hx, hv⟩ := rs.list pa e0
      exact .inl ⟨of_decide_eq_true h, xs, hx⟩
    · rename_i kvs e0
      obtain ⟨xs, hx, hv⟩ := rs.at_ _ _ _ pa e0
      exact .inr (.inr (.inl ⟨of_decide_eq_true h, .inl ⟨xs, hx⟩⟩))
    · cases h
  | _ => cases h
theorem tm_bm {T : String} {mo : OpM} (σ : St) (H : Hp) (Q : VK) (h : tM X.K X.mg W (mMeth T mo ma mr) σ H Q) : tBM X.K T (rMM X.K X.mg mo) (tM X.K X.mg W ma) (tMA X.K X.mg W mr) σ H Q := by
  obtain ⟨ρ, e, S, re, rs, g⟩ := h
  refine ⟨ρ, e, S, re, rs, GoodG.bind g fun d1 S1 x H1 ρ1 _ p1 k1 rs1 r1 g1 => ?_⟩
  try dsimp only at g1
  split at g1
  · rename_i ht
    refine ⟨rcv_ok rs1 r1 ht, ρ1, e, S1, re.mono p1 k1, rs1, GoodG.bind g1 fun ds S2 xs H2 ρ2 _ p2 k2 rs2 r2 g2 => ?_⟩
    unfold lift at g2
    split at g2
    · rename_i d3 S3 e3
      exact ⟨ρ2, S2, d1, ds, d3, S3, rs2, r1.mono p2 k2, r2, e3, fun v H' ρ' p k s r => g2 v H' ρ' p k s r⟩
    · exact g2.elim
  · exact g1.elim
theorem me_bm {T id : String} {name : Str} {mo : OpM} {apos : Pos} (pa : PlainAttrs T) (slot : Slot T name id) (hty : typeOf (.builtin id) = pure (.type "method_descriptor")) (hm : MtR X id (rMM X.K X.mg mo)) (ho : PE X a (tM X.K X.mg W ma)) (ha : PA X (e :: es) (tMA X.K X.mg W mr))
    (hbase : attributeBase a name X.env (eval a X.env) = eval a X.env := by rfl)
    (hfew : ((backTo pos (starEach (e :: es) X.env)).all (fun x => !x.1) && (backToKw pos (keywordEach [] X.env)).all (fun x => x.1.isSome)
      && decide ((e :: es).length + ([] : List Keyword).length + (if ([] : List Keyword).isEmpty then 0 else 1) < 30)) = true := by rfl)
    (hline : (apos.endLine == pos.line) = true := by rfl) (hs : starEach (e :: es) X.env = (false, eval e X.env) :: starEach es X.env := by rfl) (hplain : (backTo pos (starEach es X.env)).any (·.1) = false := by rfl) :
    PE X (.Call (.Attribute a name apos) (e :: es) [] pos) (tM X.K X.mg W (mMeth T mo ma mr)) := PE.imp (pe_bm pa slot hty hm ho ha hbase hfew hline hs hplain) tm_bm
theorem me_bm0 {T id : String} {name : Str} {mo : OpM} {apos : Pos} (pa : PlainAttrs T) (slot : Slot T name id) (hty : typeOf (.builtin id) = pure (.type "method_descriptor")) (hm : MtR X id (rMM X.K X.mg mo)) (ho : PE X a (tM X.K X.mg W ma))
    (hbase : attributeBase a name X.env (eval a X.env) = eval a X.env := by rfl) (hline : (apos.endLine == pos.line) = true := by rfl) : PE X (.Call (.Attribute a name apos) [] [] pos) (tM X.K X.mg W (mMeth T mo ma aNil)) :=
  PE.imp (pe_bm0 pa slot hty hm ho hbase hline) fun σ H Q h => by
    obtain ⟨ρ, e, S, re, rs, g⟩ := h
    refine ⟨ρ, e, S, re, rs, GoodG.bind g fun d1 S1 x H1 ρ1 _ p1 k1 rs1 r1 g1 => ?_⟩
    try dsimp only at g1
    split at g1
    · rename_i ht
      refine ⟨rcv_ok rs1 r1 ht, ?_⟩
      have g2 : Good X.K X.mg W σ ρ1 H1 (lift (mo d1 [] S1)) Q := g1
      unfold lift at g2
      split at g2
      · rename_i d3 S3 e3
        exact ⟨ρ1, S1, d1, [], d3, S3, rs1, r1, rfl, e3, fun v H' ρ' p k s r => g2 v H' ρ' p k s r⟩
      · exact g2.elim
    · exact g1.elim
/-- a method of a text with no, with one argument -/
def oS0 (C : Str → Bool) (f : Str → D) : OpM := fun x as S => match x, as with
  | .str a, [] => if C a = true then some (f a, S) else none
  | _, _ => none
def oS1 (C : Str → Str → Bool) (f : Str → Str → D) : OpM := fun x as S => match x, as with
  | .str a, [.str b] => if C a b = true then some (f a b, S) else none
  | _, _ => none
theorem mm_S0 {id : String} {C : Str → Bool} {f : Str → D} {fv : Str → V} {P : Str → Prop} (h : MtR X id (fun x xs H Q => ∃ a, x = .str a ∧ xs = [] ∧ P a ∧ Q (fv a) H)) (hC : ∀ a, C a = true → P a) (hf : ∀ a ρ H, RV X.K X.mg ρ H (f a) (fv a)) : MtR X id (rMM X.K X.mg (oS0 C f)) := by
  intro pins s σ H x xs v us Q I rx rxs ⟨ρ, S, d, ds, d3, S3, rs, r1, r2, e, q⟩
  unfold oS0 at e
  split at e
  · cases r1; cases r2
    split at e
    · rename_i hc; cases e
      exact h pins s σ H _ _ v us Q I rx rxs ⟨_, rfl, rfl, hC _ hc, q.now rs (hf _ _ _)⟩
    · cases e
  · cases e
theorem mm_S1 {id : String} {C : Str → Str → Bool} {f : Str → Str → D} {fv : Str → Str → V} {P : Str → Str → Prop} (h : MtR X id (fun x xs H Q => ∃ a b, x = .str a ∧ xs = [.str b] ∧ P a b ∧ Q (fv a b) H)) (hC : ∀ a b, C a b = true → P a b) (hf : ∀ a b ρ H, RV X.K X.mg ρ H (f a b) (fv a b)) : MtR X id (rMM X.K X.mg (oS1 C f)) := by
  intro pins s σ H x xs v us Q I rx rxs ⟨ρ, S, d, ds, d3, S3, rs, r1, r2, e, q⟩
  unfold oS1 at e
  split at e
  · obtain ⟨y, ys, rfl, ry, r0⟩ := r2
    cases r1; cases ry; cases r0
    split at e
    · rename_i hc; cases e
      exact h pins s σ H _ _ v us Q I rx rxs ⟨_, _, rfl, rfl, hC _ _ hc, q.now rs (hf _ _ _ _)⟩
    · cases e
  · cases e
def okS (a : Str) : Bool := decide (a.length ≤ sizeLine)
def oStrip1 : OpM := oS1 (fun a _ => okS a) fun a b => .str (Txt.stripChars a b)
theorem mm_strip1 : MtR X "str.strip" (rMM X.K X.mg oStrip1) := mm_S1 mt_stripChars (fun _ _ h => of_decide_eq_true h) fun _ _ _ _ => rfl
def oRstrip1 : OpM := oS1 (fun a _ => okS a) fun a b => .str (Txt.rstripChars a b)
theorem mm_rstrip1 : MtR X "str.rstrip" (rMM X.K X.mg oRstrip1) := mm_S1 mt_rstripChars (fun _ _ h => of_decide_eq_true h) fun _ _ _ _ => rfl
theorem mt1T {id : String} {g : Str → Str → V} (h : MtR X id (fun x xs H Q => ∃ a b, x = .str a ∧ xs = [.str b] ∧ Q (g a b) H)) : MtR X id (fun x xs H Q => ∃ a b, x = .str a ∧ xs = [.str b] ∧ True ∧ Q (g a b) H) :=
  fun pins s σ H x xs v us Q I rx rxs ⟨a, b, e1, e2, _, q⟩ => h pins s σ H x xs v us Q I rx rxs ⟨a, b, e1, e2, q⟩
def oStartswith : OpM := oS1 (fun _ _ => true) fun a b => .bl (Txt.startswith a b)
theorem mm_startswith : MtR X "str.startswith" (rMM X.K X.mg oStartswith) := mm_S1 (mt1T mt_startswith) (fun _ _ _ => trivial) fun _ _ _ _ => rfl
def oEndswith : OpM := oS1 (fun _ _ => true) fun a b => .bl (Txt.endswith a b)
theorem mm_endswith : MtR X "str.endswith" (rMM X.K X.mg oEndswith) := mm_S1 (mt1T mt_endswith) (fun _ _ _ => trivial) fun _ _ _ _ => rfl
def oFind : OpM := oS1 (fun _ _ => true) fun a b => .int (Txt.find a b)
theorem mm_find : MtR X "str.find" (rMM X.K X.mg oFind) := mm_S1 (mt1T mt_find) (fun _ _ _ => trivial) fun _ _ _ _ => rfl
def oRfind : OpM := oS1 (fun _ _ => true) fun a b => .int (Txt.rfind a b)
theorem mm_rfind : MtR X "str.rfind" (rMM X.K X.mg oRfind) := mm_S1 (mt1T mt_rfind) (fun _ _ _ => trivial) fun _ _ _ _ => rfl
def oLower : OpM := oS0 (fun a => decide (a.length ≤ 5592405)) fun a => .str (Txt.lower a)
theorem mm_lower : MtR X "str.lower" (rMM X.K X.mg oLower) := mm_S0 mt_lower (fun _ h => of_decide_eq_true h) fun _ _ _ => rfl
def oUpper : OpM := oS0 (fun a => decide (a.length ≤ 5592405)) fun a => .str (Txt.upper a)
theorem mm_upper : MtR X "str.upper" (rMM X.K X.mg oUpper) := mm_S0 mt_upper (fun _ h => of_decide_eq_true h) fun _ _ _ => rfl
def oSplit : OpM := fun x as S => match x, as with
  | .str a, [.str b] => if (b.length == 0) = false ∧ a.length + 2 ≤ sizeLine then some (.loc S.length, S ++ [.lst true ((Txt.split a b).map D.str)]) else none
  | _, _ => none
theorem mm_split : MtR X "str.split" (rMM X.K X.mg oSplit) := by
  intro pins s σ H x xs v us Q I rx rxs ⟨ρ, S, d, ds, d3, S3, rs, r1, r2, e, q⟩
  unfold oSplit at e
  split at e
  · obtain ⟨y, ys, rfl, ry, r0⟩ := r2
    cases r1; cases ry; cases r0
    split at e
    · rename_i hc; cases e
      exact mt_split pins s σ H _ _ v us Q I rx rxs ⟨_, _, rfl, rfl, hc.1, hc.2, fun p hp => q.lnew rs (strs_rvs _) hp⟩
    · cases e
  · cases e
def oPartition : OpM := fun x as S => match x, as with
  | .str a, [.str b] => if (b.length == 0) = false ∧ a.length ≤ sizeLine then some (.tup [.str (Txt.partition a b).1, .str (Txt.partition a b).2.1, .str (Txt.partition a b).2.2], S) else none
  | _, _ => none
theorem mm_partition : MtR X "str.partition" (rMM X.K X.mg oPartition) := by
  intro pins s σ H x xs v us Q I rx rxs ⟨ρ, S, d, ds, d3, S3, rs, r1, r2, e, q⟩
  unfold oPartition at e
  split at e
  · obtain ⟨y, ys, rfl, ry, r0⟩ := r2
    cases r1; cases ry; cases r0
    split at e
    · rename_i hc; cases e
      exact mt_partition pins s σ H _ _ v us Q I rx rxs ⟨_, _, rfl, rfl, hc.1, hc.2, fun p hp => q.tnew rs ⟨_, _, rfl, rfl, _, _, rfl, rfl, _, _, rfl, rfl, rfl⟩ hp⟩
    · cases e
  · cases e
def oJoin : OpM := fun x as S => match x, as with
  | .str a, [d] => match itemsOf S d with
    | some ds => match strsOf ds with
      | some ys => if (ys.map (·.length)).sum + ys.length * a.length ≤ 16777216 then some (.str (Txt.join a ys), S) else none
      | none => none
    | none => none
  | _, _ => none
theorem mm_join : MtR X "str.join" (rMM X.K X.mg oJoin) := by
  intro pins s σ H x xs v us Q I rx rxs ⟨ρ, S, d, ds, d3, S3, rs, r1, r2, e, q⟩
  unfold oJoin at e
  split at e
  · obtain ⟨y, ys, rfl, ry, r0⟩ := r2
    cases r1; cases r0
    split at e
    · rename_i ds' hi
      split at e
      · rename_i zs hz
        split at e
        · rename_i hc; cases e
          obtain ⟨a, ws, rfl, hx, hv⟩ := items_seq rs ry hi
          have := rvs_strs hv hz
          subst this
          exact mt_join pins s σ H _ _ v us Q I rx rxs ⟨_, a, zs, rfl, rfl, hx, hc, q.now rs rfl⟩
        · cases e
      · cases e
    · cases e
  · cases e
def oSindex : OpM := fun x as S => match x, as with
  | .str a, [.str b] => match Builtin.Str.occurrences a b 0 a.length 1 with
    | i :: _ => some (.int (i : Nat), S)
    | [] => none
  | _, _ => none
/-- what a list's method leaves: the answer, and the list's new items -/
theorem Fin.lset {K : PySem.W.Frag} {mg : Str → Option Value} {ρ : List Addr} {H : Hp} {d : D} {v : V} {S : Sto} {Q : VK} {n : Nat} {a : Addr} {ds ds' : List D} {xs xs' : List V} (q : Fin K mg ρ H d (S.set n (.lst true ds')) Q) (rs : RS K mg ρ H S) (pa : ρ[n]? = some a) (e0 : S[n]? = some (.lst true ds)) (hx : H a = some (.lst xs))
    (hv : RVs K mg ρ H ds' xs') (hr : RV K mg ρ H d v) : Q v (upd H a (.lst xs')) := by
  have k : Keep H (upd H a (.lst xs')) := Keep.mut hx rfl
  exact q v _ ρ (Pre.refl _) k (rs.set pa e0 rfl ⟨xs', upd_same, RVs.mono (Pre.refl _) k _ _ hv⟩ rfl) (hr.mono (Pre.refl _) k)
def oAppend : OpM := fun x as S => match x, as with
  | .loc n, [d] => match S[n]? with
    | some (.lst true ds) => if ds.length < sizeLine then some (.non, S.set n (.lst true (ds ++ [d]))) else none
    | _ => none
  | _, _ => none
theorem mm_append : MtM X "list.append" (rMM X.K X.mg oAppend) := by
  intro pins s σ H x xs v us Q I rx rxs ⟨ρ, S, d, ds, d3, S3, rs, r1, r2, e, q⟩
  unfold oAppend at e
  split at e
  · obtain ⟨y, ys, rfl, ry, r0⟩ := r2
    cases r0
    obtain ⟨a, rfl, pa⟩ := r1
    split at e
    · rename_i ds' e0
      split at e
      · rename_i hc; cases e
        obtain ⟨zs, hx, hv⟩ := rs.at_ _ _ _ pa e0
        exact mt_append pins s σ H _ _ v us Q I rx rxs ⟨a, zs, y, rfl, rfl, hx, by rw [← hv.length]; exact hc, q.lset rs pa e0 hx (hv.append (RVs.one ry)) rfl⟩
      · cases e
    · cases e
  · cases e
def oExtend : OpM := fun x as S => match x, as with
  | .loc n, [.loc m] => match S[n]?, S[m]? with
    | some (.lst true ds), some (.lst true es) => if ds.length + es.length ≤ sizeLine then some (.non, S.set n (.lst true (ds ++ es))) else none
    | _, _ => none
  | _, _ => none
theorem mm_extend : MtM X "list.extend" (rMM X.K X.mg oExtend) := by
  intro pins s σ H x xs v us Q I rx rxs ⟨ρ, S, d, ds, d3, S3, rs, r1, r2, e, q⟩
  unfold oExtend at e
  split at e
  · obtain ⟨y, ys, rfl, ⟨b, rfl, pb⟩, r0⟩ := r2
    cases r0
    obtain ⟨a, rfl, pa⟩ := r1
    split at e
    · rename_i ds' es' e0 e1
      split at e
      · rename_i hc; cases e
        obtain ⟨zs, hx, hv⟩ := rs.at_ _ _ _ pa e0
        obtain ⟨ws, hy, hw⟩ := rs.at_ _ _ _ pb e1
        exact mt_extend pins s σ H _ _ v us Q I rx rxs ⟨a, b, zs, ws, rfl, rfl, hx, hy, by rw [← hv.length, ← hw.length]; exact hc, q.lset rs pa e0 hx (hv.append hw) rfl⟩
      · cases e
    · cases e
  · cases e
theorem RVs.dropLast {K : PySem.W.Frag} {mg : Str → Option Value} {ρ : List Addr} {H : Hp} {ds : List D} {xs : List V} (h : RVs K mg ρ H ds xs) : RVs K mg ρ H ds.dropLast xs.dropLast := by
  rw [List.dropLast_eq_take, List.dropLast_eq_take, h.length]
  exact h.take _
def oPop : OpM := fun x as S => match x, as with
  | .loc n, [] => match S[n]? with
    | some (.lst true ds) => match ds[ds.length - 1]? with
      | some d => some (d, S.set n (.lst true ds.dropLast))
      | none => none
    | _ => none
  | _, _ => none
theorem mm_pop : MtM X "list.pop" (rMM X.K X.mg oPop) := by
  intro pins s σ H x xs v us Q I rx rxs ⟨ρ, S, d, ds, d3, S3, rs, r1, r2, e, q⟩
  unfold oPop at e
  split at e
  · cases r2
    obtain ⟨a, rfl, pa⟩ := r1
    split at e
    · rename_i ds' e0
      split at e
      · rename_i d' hd; cases e
        obtain ⟨zs, hx, hv⟩ := rs.at_ _ _ _ pa e0
        obtain ⟨y, ey, ry⟩ := hv.get hd
        exact mt_pop pins s σ H _ _ v us Q I rx rxs ⟨a, zs, y, rfl, rfl, hx, by rw [← hv.length]; exact ey, q.lset rs pa e0 hx hv.dropLast ry⟩
      · cases e
    · cases e
  · cases e
/-! ### f-strings -/
def fmtD : D → Option Str
  | .str y => if y.length ≤ sizeLine then some y else none
  | .int i => if i.natAbs.log2 < 1920 then some (toString i) else none
  | _ => none
def mFmt (ma : MV) : MV := fun e S => (ma e S).bind fun d S1 => match fmtD d with
  | some y => .ok (.str y) S1
  | none => .stuck
theorem me_fmt (he : PE X e (tM X.K X.mg W ma)) : PE X (.FormattedValue e (-1) none pos) (tM X.K X.mg W (mFmt ma)) :=
  PE.imp (pe_fmt he) fun σ H Q ⟨ρ, e, S, re, rs, g⟩ => ⟨ρ, e, S, re, rs, GoodG.bind g fun d1 S1 x H1 ρ1 _ p1 k1 rs1 r1 g1 => by
    try dsimp only at g1
    split at g1
    · rename_i y hy
      unfold fmtD at hy
      split at hy
      · cases r1
        split at hy
        · rename_i hz; cases hy
          exact .inl ⟨_, rfl, hz, GoodG.ok g1 rs1 rfl⟩
        · cases hy
      · cases r1
        split at hy
        · rename_i hz; cases hy
          exact .inr ⟨_, rfl, hz, GoodG.ok g1 rs1 rfl⟩
        · cases hy
      · cases hy
    · exact g1.elim⟩
/-- the texts one behind the other -/
def mJs : List MV → Str → MV
  | [], acc => fun _ S => .ok (.str acc) S
  | m :: ms, acc => fun e S => (m e S).bind fun d S1 => match d with
    | .str y => if (acc ++ y).length ≤ sizeLine then mJs ms (acc ++ y) e S1 else .stuck
    | _ => .stuck
inductive MJ (X : Cx) (W : WX) : List Expr → List MV → Prop where
  | nil : MJ X W [] []
  | cons {e : Expr} {m : MV} {es : List Expr} {ms : List MV} (h : PE X e (tM X.K X.mg W m)) (r : MJ X W es ms) : MJ X W (e :: es) (m :: ms)
theorem MJ.pj {ms : List MV} (h : MJ X W es ms) : PJ X es (ms.map fun m => tM X.K X.mg W m) := by
  induction h with
  | nil => exact .nil
  | cons h r ih => exact .cons h ih
theorem tjs_of : ∀ (ms : List MV) (acc : Str) (σ : St) (H : Hp) (Q : VK), tM X.K X.mg W (mJs ms acc) σ H Q → tJs (ms.map fun m => tM X.K X.mg W m) acc σ H fun out H1 => Q (.str out) H1
  | [], acc, σ, H, Q, h => by
    obtain ⟨ρ, e, S, re, rs, g⟩ := h
    exact GoodG.ok g rs rfl
  | m :: ms, acc, σ, H, Q, h => by
    obtain ⟨ρ, e, S, re, rs, g⟩ := h
    refine ⟨ρ, e, S, re, rs, GoodG.bind (r := m e S) g fun d1 S1 x H1 ρ1 _ p1 k1 rs1 r1 g1 => ?_⟩
    try dsimp only at g1
    split at g1
    · cases r1
      split at g1
      · rename_i hz
        exact ⟨_, rfl, hz, tjs_of ms _ σ H1 Q ⟨ρ1, e, S1, re.mono p1 k1, rs1, g1⟩⟩
      · exact g1.elim
    · exact g1.elim
theorem me_joined {v1 v2 : Expr} {rest : List Expr} {ms : List MV} (h : MJ X W (v1 :: v2 :: rest) ms) : PE X (.JoinedStr (v1 :: v2 :: rest) pos) (tM X.K X.mg W (mJs ms Str.empty)) := PE.imp (pe_joined h.pj) (tjs_of ms _)
theorem me_joined1 (he : PE X e (tM X.K X.mg W ma)) : PE X (.JoinedStr [e] pos) (tM X.K X.mg W ma) := pe_joined1 he
end
end M2
end

section
set_option Elab.async false
set_option linter.all false
set_option maxRecDepth 100000
/-! M2: list comprehensions. -/
namespace M2
open PySem PySem.Spec PyProof.Rows L2
set_option autoImplicit false
def wipeE (e : Nv) : List Nat → Nv
  | [] => e
  | v :: vs => (wipeE e vs).set v none
section
variable (K : PySem.W.Frag) (mg : Str → Option Value)
/-- a target that changes the slots vs alone -/
def tTgW (vs : List Nat) (tg : Tg) : TG := fun v σ H Q => ∃ ρ e S d e', RE K mg ρ H e σ ∧ RS K mg ρ H S ∧ RV K mg ρ H d v ∧ tg d e = some e' ∧ ∀ σ', RE K mg ρ H e' σ' → wipe σ' vs = wipe σ vs → Q σ' H
def tTgsW (vs : List Nat) (ts : List Tg) : TGs := fun xs σ H Q => ∃ ρ e S ds e', RE K mg ρ H e σ ∧ RS K mg ρ H S ∧ RVs K mg ρ H ds xs ∧ tgs ts ds e = some e' ∧ ∀ σ', RE K mg ρ H e' σ' → wipe σ' vs = wipe σ vs → Q σ' H
end
theorem set_set_none (σ : St) (i j : Nat) (x : Option V) : ((σ.set i x).set j none) = if i = j then σ.set j none else (σ.set j none).set i x := by
  by_cases h : i = j
  · subst h; rw [if_pos rfl, List.set_set]
  · rw [if_neg h, List.set_comm _ _ h]
theorem wipe_set_out {σ : St} {i : Nat} {x : Option V} : ∀ {vs : List Nat}, i ∉ vs → wipe (σ.set i x) vs = (wipe σ vs).set i x
  | [], _ => rfl
  | v :: vs, h => by
    have h1 : i ≠ v := fun e => h (e ▸ List.mem_cons_self)
    have h2 : i ∉ vs := fun e => h (List.mem_cons_of_mem _ e)
    unfold wipe
    rw [wipe_set_out h2, List.set_comm _ _ h1]
theorem wipe_set {σ : St} {i : Nat} {x : Option V} : ∀ {vs : List Nat}, i ∈ vs → wipe (σ.set i x) vs = wipe σ vs
  | v :: vs, h => by
    unfold wipe
    by_cases hv : i ∈ vs
    · rw [wipe_set hv]
    · have e : i = v := by
        rcases List.mem_cons.mp h with e | e
        · exact e
        · exact absurd e hv
      rw [wipe_set_out hv, e, List.set_set]
theorem wipe_sub {σ : St} {vs : List Nat} : ∀ {us : List Nat}, (∀ u ∈ us, u ∈ vs) → wipe (wipe σ us) vs = wipe σ vs
  | [], _ => rfl
  | u :: us, h => by
    show wipe ((wipe σ us).set u none) vs = _
    rw [wipe_set (h u List.mem_cons_self), wipe_sub fun v hv => h v (List.mem_cons_of_mem _ hv)]
section
variable {K : PySem.W.Frag} {mg : Str → Option Value} {ρ : List Addr} {H : Hp}
theorem RE.wipe {e : Nv} {σ : St} (h : RE K mg ρ H e σ) : ∀ vs : List Nat, RE K mg ρ H (wipeE e vs) (L2.wipe σ vs)
  | [] => h
  | v :: vs => (RE.wipe h vs).drop2 v
end
section
variable {X : Cx} {W : WX} {e : Expr} {pos : Pos} {tg : Tg} {vs : List Nat}
theorem mw_name {i : Nat} {x : Str} (hv : i ∈ vs) (hN : X.N.Nodup) (hi : X.N[i]? = some x) (hx : Loc X.env.scope x) (hf : X.fn x = true ∨ X.env.scope.names.lookup x = some .local := by first | exact .inl rfl | exact .inr rfl | assumption) : PG X (.Name x pos) (tTgW X.K X.mg vs (tgN i)) := by
  refine ⟨fun pins s σ H v u Q I r h => (pg_name (i := i) hN hi hx hf).run pins s σ H v u Q I r ?_⟩
  obtain ⟨ρ, e, S, d, e', re, rs, rv, h, q⟩ := h
  cases h
  exact q _ (re.set i rv) (wipe_set hv)
theorem mws_nil : PGs X [] (tTgsW X.K X.mg vs []) := by
  refine ⟨fun pins s σ H xs us Q I r h => pgs_nil.run pins s σ H xs us Q I r ?_⟩
  obtain ⟨ρ, e, S, ds, e', re, rs, rv, h, q⟩ := h
  cases ds with
  | nil =>
    cases h
    exact ⟨rv, q _ re rfl⟩
  | cons d ds => cases h
theorem mws_cons {es : List Expr} {ts : List Tg} (h1 : PG X e (tTgW X.K X.mg vs tg)) (h2 : PGs X es (tTgsW X.K X.mg vs ts))
    (hs : (assignEach (e :: es) X.env).map (·.2) = assign e X.env :: (assignEach es X.env).map (·.2) := by rfl) : PGs X (e :: es) (tTgsW X.K X.mg vs (tg :: ts)) := by
  refine ⟨fun pins s σ H xs us Q I r h => (pgs_cons h1 h2 hs).run pins s σ H xs us Q I r ?_⟩
  obtain ⟨ρ, e, S, ds, e', re, rs, rv, h, q⟩ := h
  cases ds with
  | nil => cases h
  | cons d ds =>
    obtain ⟨x, xs, rfl, r1, r2⟩ := rv
    have h : (tg d e).bind (fun e1 => tgs ts ds e1) = some e' := h
    cases h0 : tg d e with
    | none => rw [h0] at h; cases h
    | some e1 =>
      rw [h0] at h
      exact ⟨x, xs, rfl, ρ, e, S, d, e1, re, rs, r1, h0, fun σ1 re1 w1 => ⟨ρ, e1, S, ds, e', re1, rs, r2, h, fun σ2 re2 w2 => q σ2 re2 (w2.trans w1)⟩⟩
theorem tgs_len : ∀ {ts : List Tg} {ds : List D} {e e' : Nv}, tgs ts ds e = some e' → ds.length = ts.length := by
  intro ts
  induction ts with
  | nil => intro ds e e' h; cases ds <;> first | rfl | cases h
  | cons t ts ih =>
    intro ds e e' h
    cases ds with
    | nil => cases h
    | cons d ds =>
      have h : (t d e).bind (fun e1 => tgs ts ds e1) = some e' := h
      cases h0 : t d e with
      | none => rw [h0] at h; cases h
      | some e1 =>
        rw [h0] at h
        rw [List.length_cons, List.length_cons, ih h]
theorem mw_tup {es : List Expr} {k : Nat} {ts : List Tg} {n : Nat} (hc : X.calm = true) (h : PGs X es (tTgsW X.K X.mg vs ts))
    (hn : (assignEach es X.env).length = n := by rfl) (hl : ts.length = n := by rfl) (hst : (assignEach es X.env).findIdx? (·.1) = none := by rfl) : PG X (.Tuple es k pos) (tTgW X.K X.mg vs (tgT ts)) := by
  refine ⟨fun pins s σ H v u Q I r h0 => (pg_tup hc h hn hst).run pins s σ H v u Q I r ?_⟩
  obtain ⟨ρ, e, S, d, e', re, rs, rv, h1, q⟩ := h0
  unfold tgT at h1
  split at h1
  · rename_i ds
    obtain ⟨a, xs, rfl, sq, rv⟩ := rv
    exact ⟨a, xs, rfl, sq, by rw [← rv.length, tgs_len h1, hl], ρ, e, S, ds, e', re, rs, rv, h1, q⟩
  · cases h1
/-! the tests of a clause -/
def tOk : MT := fun _ S => .ok true S
theorem mp_nil : PTs X [] (tMT X.K X.mg W tOk) := ⟨fun pins s σ H Q I ⟨ρ, e, S, re, rs, g⟩ => pts_nil.run pins s σ H Q I (GoodG.ok g rs rfl)⟩
theorem mp_one {c : Expr} {t : MT} (h : PT X c (tMT X.K X.mg W t)) : PTs X [c] (tMT X.K X.mg W t) := pts_one h
end
def loopC (it : ItM) (tg : Tg) (tt : MT) (me : MV) (n : Nat) (e : Nv) : Nat → Nat → Sto → Res
  | 0, i, S => match it.at_ i S with
    | some none => .ok (.loc n) S
    | _ => .stuck
  | m + 1, i, S => match it.at_ i S with
    | some none => .ok (.loc n) S
    | some (some d) => match tg d e with
      | some e1 => (tt e1 S).bind fun b S1 => if b = true then (me e1 S1).bind fun y S2 => match S2[n]? with
          | some (.lst true acc) => if acc.length < sizeLine then loopC it tg tt me n e m (i + 1) (S2.set n (.lst true (acc ++ [y]))) else .stuck
          | _ => .stuck
        else loopC it tg tt me n e m (i + 1) S1
      | none => .stuck
    | none => .stuck
def mLc (mi : Nv → Sto → Rs ItM) (tg : Tg) (tt : MT) (me : MV) (vs : List Nat) : MV := fun e S => (mi e S).bind fun it S1 =>
  loopC it tg tt me S1.length (wipeE e vs) it.cnt 0 (S1 ++ [.lst true []])
def Rs.cold' {α : Type} (r : Rs α) : Rs α := match r with
  | .exc _ _ _ => .stuck
  | r => r
/-- a comprehension in which nothing is raised -/
def mLcC (mi : Nv → Sto → Rs ItM) (tg : Tg) (tt : MT) (me : MV) (vs : List Nat) : MV := fun e S => (mi e S).bind fun it S1 =>
  (loopC it tg tt me S1.length (wipeE e vs) it.cnt 0 (S1 ++ [.lst true []])).cold
def wF : WX := fun _ _ _ _ => False
theorem GoodG.st {K : PySem.W.Frag} {mg : Str → Option Value} {α β : Type} {rel : List Addr → Hp → α → β → Prop} {σ σ' : St} {ρ : List Addr} {H : Hp} {r : Rs α} {Q : β → Hp → Prop} (g : GoodG K mg wF rel σ ρ H r Q) : GoodG K mg wF rel σ' ρ H r Q := by
  cases r with
  | ok d S => exact g
  | exc c fs S => exact g
  | stuck => exact g
section
variable {X : Cx} {W : WX} {ma mb mc : MV} {pos : Pos} {tg : Tg} {mi : Nv → Sto → Rs ItM} {tt : MT} {me : MV}
theorem tlc_of {vs : List Nat} (σ : St) (H : Hp) (Q : VK) (h : tM X.K X.mg W (mLcC mi tg tt me vs) σ H Q) : tLc (tMI X.K X.mg W mi) (tTgW X.K X.mg vs tg) (tMT X.K X.mg wF tt) (tM X.K X.mg wF me) vs σ H Q := by
  obtain ⟨ρ, e, S, re, rs, g⟩ := h
  refine ⟨ρ, e, S, re, rs, GoodG.bind g fun it S1 J H1 ρ1 _ p1 k1 rs1 r1 g1 => fun D hD => ?_⟩
  have g1 := good_cold (W' := wF) g1
  have kp : Keep H1 (upd H1 D (.lst [])) := Keep.new hD
  have rs2 : RS X.K X.mg (ρ1 ++ [D]) (upd H1 D (.lst [])) (S1 ++ [.lst true []]) := rs1.alloc hD ⟨[], upd_same, rfl⟩
  have nD : (ρ1 ++ [D])[S1.length]? = some D := by rw [← rs1.len]; simp
  have re2 : RE X.K X.mg (ρ1 ++ [D]) (upd H1 D (.lst [])) (wipeE e vs) (wipe σ vs) := ((re.mono p1 k1).mono (Pre.app _ _) kp).wipe vs
  generalize hn : S1.length = n at g1 nD
  generalize he : wipeE e vs = ew at g1 re2
  refine ⟨fun i m H => ∃ ρ2 S2, RS X.K X.mg ρ2 H S2 ∧ Pre (ρ1 ++ [D]) ρ2 ∧ Keep (upd H1 D (.lst [])) H ∧ GoodG X.K X.mg wF (RV X.K X.mg) [] ρ2 H (loopC it tg tt me n ew m i S2) Q,
    ⟨it.cnt, ρ1 ++ [D], _, rs2, Pre.refl _, Keep.refl _, GoodG.mono g1 (Pre.app _ _) kp⟩, ?_⟩
  rintro i m H2 ⟨ρ2, S2, rs2, p2, k2, g2⟩
  have io := r1 i ρ2 H2 S2 ((Pre.app _ _).trans p2) (kp.trans k2) rs2
  have stop : it.at_ i S2 = some none → GoodG X.K X.mg wF (RV X.K X.mg) [] ρ2 H2 (.ok (.loc n) S2) Q → J.stop i H2 ∧ Q (.ref D) H2 := fun h g => by
    rw [h] at io
    exact ⟨io, GoodG.ok g rs2 ⟨D, rfl, p2 _ _ nD⟩⟩
  cases m with
  | zero =>
    unfold loopC at g2
    split at g2
    · rename_i h
      exact .inl (stop h g2)
    · exact g2.elim
  | succ m =>
    unfold loopC at g2
    split at g2
    · rename_i h
      exact .inl (stop h g2)
    · rename_i d h
      rw [h] at io
      obtain ⟨go, yl⟩ := io
      split at g2
      · rename_i e3 h3
        refine .inr ⟨go, fun H' => ∃ ρ2 S2, RS X.K X.mg ρ2 H' S2 ∧ Pre (ρ1 ++ [D]) ρ2 ∧ Keep (upd H1 D (.lst [])) H' ∧ GoodG X.K X.mg wF (RV X.K X.mg) [] ρ2 H' (loopC it tg tt me n ew m (i + 1) S2) Q, fun H' hN => ⟨m, Nat.lt_succ_self _, hN⟩, fun x H' y => ?_⟩
        obtain ⟨ky, rs3, rx⟩ := yl x H' y
        refine ⟨ρ2, ew, S2, d, e3, re2.mono p2 (k2.trans ky), rs3, rx, h3, fun σ3 re3 w3 => ⟨?_, ρ2, e3, S2, re3, rs3, ?_⟩⟩
        · rw [w3, wipe_sub fun _ h => h]
        have g3 := GoodG.mono g2 (Pre.refl ρ2) ky
        refine GoodG.bind (GoodG.st g3) fun b S4 bb H4 ρ4 _ p4 k4 rs4 r4 g4 => ?_
        cases r4
        try dsimp only at g4
        cases b with
        | false =>
          rw [if_neg Bool.false_ne_true] at g4 ⊢
          exact ⟨ρ4, S4, rs4, p2.trans p4, (k2.trans ky).trans k4, GoodG.st g4⟩
        | true =>
          rw [if_pos rfl] at g4 ⊢
          refine ⟨ρ4, e3, S4, re3.mono p4 k4, rs4, GoodG.bind g4 fun yd S5 yv H5 ρ5 _ p5 k5 rs5 r5 g5 => ?_⟩
          try dsimp only at g5
          split at g5
          · rename_i acc ha
            split at g5
            · rename_i hz
              have pD := (p2.trans p4).trans p5 _ _ nD
              obtain ⟨xs, ex, rx⟩ := rs5.at_ _ _ _ pD ha
              have kq : Keep H5 (upd H5 D (.lst (xs ++ [yv]))) := Keep.mut ex rfl
              refine ⟨xs, ex, by rw [← rx.length]; exact hz, ρ5, _, rs5.set (o' := .lst true (acc ++ [yd])) pD ha rfl ⟨_, upd_same, RVs.mono (Pre.refl _) kq _ _ (rx.append (.one r5))⟩ rfl, (p2.trans p4).trans p5, ((k2.trans ky).trans k4).trans (k5.trans kq), GoodG.mono (GoodG.st g5) (Pre.refl _) kq⟩
            · exact g5.elim
          · exact g5.elim
      · exact g2.elim
    · exact g2.elim
variable {elt tgt iter : Expr} {ifs : List Expr} {scope : Scope} {own : List (Str × Nat)}
theorem me_lc (hc : X.calm = true) (hN : X.N.Nodup) (hi : PI X tgt iter (tMI X.K X.mg W mi)) (ok : BlkOk X.N X.env.scope scope own)
    (hg : ∀ (s : Shared) (H : Hp) (C : Addr) (cl : List (Str × Addr)) (fp : List Addr), PG (X.blk s H scope (compEnvC scope cl C X.env) fp) tgt (tTgW X.K X.mg (own.map (·.2)) tg)) (ht : ∀ (s : Shared) (H : Hp) (C : Addr) (cl : List (Str × Addr)) (fp : List Addr), PTs (X.blk s H scope (compEnvC scope cl C X.env) fp) ifs (tMT X.K X.mg wF tt))
    (he : ∀ (s : Shared) (H : Hp) (C : Addr) (cl : List (Str × Addr)) (fp : List Addr), PE (X.blk s H scope (compEnvC scope cl C X.env) fp) elt (tM X.K X.mg wF me)) (hs : ∀ x, foldedSetIterable iter X.env x = pure x := by intro _; rfl) :
    PE X (.ListComp elt [⟨tgt, iter, ifs, 0⟩] scope pos) (tM X.K X.mg W (mLcC mi tg tt me (own.map (·.2)))) := PE.imp (pe_lc hc hN hi ok hg ht he hs) tlc_of
theorem ms_setLc {i : Nat} {y : Str} {py spos : Pos} (hc : X.calm = true) (hN : X.N.Nodup) (hy : X.N[i]? = some y) (hyl : X.env.scope.names.lookup y = some .local)
    (hsw : swapsWith (.ListComp elt [⟨tgt, iter, ifs, 0⟩] scope pos) (some (.Name y py)) spos.line X.env = pure true) (hi : PI X tgt iter (tMI X.K X.mg W mi)) (ok : BlkOk X.N X.env.scope scope own)
    (hg : ∀ (s : Shared) (H : Hp) (C : Addr) (cl : List (Str × Addr)) (fp : List Addr), PG (X.blk s H scope (compEnvC scope cl C X.env) fp) tgt (tTgW X.K X.mg (own.map (·.2)) tg)) (ht : ∀ (s : Shared) (H : Hp) (C : Addr) (cl : List (Str × Addr)) (fp : List Addr), PTs (X.blk s H scope (compEnvC scope cl C X.env) fp) ifs (tMT X.K X.mg wF tt))
    (he : ∀ (s : Shared) (H : Hp) (C : Addr) (cl : List (Str × Addr)) (fp : List Addr), PE (X.blk s H scope (compEnvC scope cl C X.env) fp) elt (tM X.K X.mg wF me)) (hs : ∀ x, foldedSetIterable iter X.env x = pure x := by intro _; rfl) :
    PS X (.Assign [.Name y py] (.ListComp elt [⟨tgt, iter, ifs, 0⟩] scope pos) spos) (tMS X.K X.mg W (sAsg (mLcC mi tg tt me (own.map (·.2))) (tgN i))) :=
  PS.imp (ps_setLc (i := i) hc hN hy hyl hsw hi ok hg ht he hs) fun Dn σ H ⟨ρ, e, S, re, rs, g⟩ => tlc_of σ H _ ⟨ρ, e, S, re, rs, GoodG.bindS re g fun d S1 v H1 ρ1 _ p1 k1 rs1 r1 g1 =>
    g1 _ H1 ρ1 (Pre.refl _) (Keep.refl _) rs1 ((re.mono p1 k1).set i r1)⟩
end
end M2
end

section
set_option Elab.async false
set_option linter.all false
set_option maxRecDepth 100000
/-! M2: products, dicts, sorted, zip. -/
namespace M2
open PySem PySem.Spec PyProof.Rows L2
set_option autoImplicit false
section
variable {X : Cx} {W : WX}
theorem om_mul : OpR X (binaryOp .Mult) (rM2 X.K X.mg oMul) := by
  intro pins s σ H x y v u Q I rx ry ⟨ρ, S, d1, d2, d3, S3, rs, r1, r2, e, q⟩
  unfold oMul at e
  split at e
  · rename_i i j
    cases r1; cases r2
    split at e
    · rename_i h; cases e
      exact op_mulX pins s σ H _ _ v u Q I rx ry ⟨_, _, rfl, rfl, mulx_ok (a := i.natAbs.log2 + 1) (b := j.natAbs.log2 + 1) Nat.lt_log2_self Nat.lt_log2_self (by omega), q.now rs rfl⟩
    · cases e
  · rename_i x j
    cases r1; cases r2
    split at e
    · rename_i h; cases e
      obtain ⟨h0, h1, hl⟩ := h
      obtain ⟨t, rfl⟩ := rx
      obtain ⟨t2, rfl⟩ := ry
      refine SB.mul ⟨?_, fun g1 g2 => ?_, fun g1 g2 => ?_⟩ fun t' k => ⟨.str (Txt.mul x j), H, I.tok k, ⟨t', rfl⟩, q.now rs rfl⟩
      · rw [decide_eq_false (by omega), decide_eq_false (by omega)]; rfl
      · have a1 : (9000000000 : Int) ≤ (2 ^ 63 - 1) / j := by
          rw [Int.le_ediv_iff_mul_le (by omega)]
          omega
        have a2 : x.length ≤ x.length * j.toNat := Nat.le_mul_of_pos_right _ (by omega)
        omega
      · unfold Builtin.Str.tooLong
        rw [sizeLine_eq]
        exact decide_eq_false (by omega)
    · cases e
  · split at e
    · rename_i h1
      split at e
      · rename_i h; cases e
        obtain ⟨a, rfl, pa⟩ := r1
        cases r2
        obtain ⟨vs, ea, ra⟩ := rs.at_ _ _ _ pa h1
        have e1 := ra.length
        refine op_rep pins s σ H _ _ v u Q I rx ry ⟨a, _, vs, rfl, rfl, ea, by omega, by omega, by rw [← e1]; exact h.2.2, fun p hp => q.lnew rs ?_ hp⟩
        generalize Int.toNat _ = n
        induction n with
        | zero => exact rfl
        | succ n ih => rw [List.replicate_succ, List.replicate_succ, List.flatten_cons, List.flatten_cons]; exact ra.append ih
      · cases e
    · cases e
  · cases e
end
/-! ### dict displays -/
def mPairs : List (MV × MV) → Nv → Sto → Rs (List (D × D))
  | [], _, S => .ok [] S
  | p :: r, e, S => (p.1 e S).bind fun k S1 => (p.2 e S1).bind fun v S2 => (mPairs r e S2).bind fun ps S3 => .ok ((k, v) :: ps) S3
def keysD : List (D × D) → Option (List (Key × D))
  | [] => some []
  | p :: r => match keyD p.1 with
    | some k => (keysD r).map ((k, p.2) :: ·)
    | none => none
def mergeD (kvs more : List (Key × D)) : List (Key × D) := more.foldl (fun acc kv => putD acc kv.1 kv.2) kvs
def mDict (ps : List (MV × MV)) : MV := fun e S => (mPairs ps e (S ++ [.dic []])).bind fun kvs S1 => match S1[S.length]? with
  | some (.dic []) => match keysD kvs with
    | some kv => if kv.length ≤ 15 then .ok (.loc S.length) (S1.set S.length (.dic (mergeD [] kv))) else .stuck
    | none => .stuck
  | _ => .stuck
section
variable {K : PySem.W.Frag} {mg : Str → Option Value} {ρ ρ' : List Addr} {H H' : Hp}
def RPs (K : PySem.W.Frag) (mg : Str → Option Value) (ρ : List Addr) (H : Hp) : List (D × D) → List (V × V) → Prop
  | [], vs => vs = []
  | d :: ds, vs => ∃ x xs, vs = x :: xs ∧ RV K mg ρ H d.1 x.1 ∧ RV K mg ρ H d.2 x.2 ∧ RPs K mg ρ H ds xs
theorem rps_keys : ∀ {ds : List (D × D)} {vs : List (V × V)} {kv : List (Key × D)}, RPs K mg ρ H ds vs → keysD ds = some kv → ∃ kvs : List (Key × V), vs = kvs.map (fun kv => (kV kv.1, kv.2)) ∧ RKs K mg ρ H kv kvs
  | [], vs, kv, h, e => by cases e; exact ⟨[], h, rfl⟩
  | d :: ds, vs, kv, h, e => by
    obtain ⟨x, xs, rfl, h1, h2, h3⟩ := h
    unfold keysD at e
    split at e
    · rename_i k hk
      obtain ⟨kr, e1, e2⟩ := map_some e
      subst e2
      obtain ⟨kvs, rfl, hr⟩ := rps_keys h3 e1
      refine ⟨(k, x.2) :: kvs, ?_, x.2, kvs, rfl, h2, hr⟩
      rw [List.map_cons, ← keyD_V h1 hk]
    · cases e
theorem rks_merge : ∀ {more : List (Key × D)} {ms : List (Key × V)} {kvs : List (Key × D)} {xs : List (Key × V)}, RKs K mg ρ H more ms → RKs K mg ρ H kvs xs → RKs K mg ρ H (mergeD kvs more) (mergeK xs ms)
  | [], ms, kvs, xs, h, k => by rw [show ms = [] from h]; exact k
  | d :: more, ms, kvs, xs, h, k => by
    obtain ⟨x, ys, rfl, h1, h2⟩ := h
    exact rks_merge (more := more) (ms := ys) (kvs := putD kvs d.1 d.2) (xs := putK xs d.1 x) h2 (rks_put k h1)
end
section
variable {X : Cx} {W : WX} {pos : Pos}
theorem tpairs_of : ∀ (ps : List (MV × MV)) (σ : St) (H : Hp) (Q : List (V × V) → Hp → Prop), tMG X.K X.mg W (RPs X.K X.mg) (mPairs ps) σ H Q → tPairs (ps.map fun p => (tM X.K X.mg W p.1, tM X.K X.mg W p.2)) σ H Q
  | [], σ, H, Q, ⟨ρ, e, S, re, rs, g⟩ => GoodG.ok g rs rfl
  | p :: r, σ, H, Q, ⟨ρ, e, S, re, rs, g⟩ => ⟨ρ, e, S, re, rs, GoodG.bind g fun k S1 x H1 ρ1 _ p1 k1 rs1 r1 g1 => ⟨ρ1, e, S1, re.mono p1 k1, rs1, GoodG.bind g1 fun v S2 y H2 ρ2 _ p2 k2 rs2 r2 g2 =>
      tpairs_of r σ H2 _ ⟨ρ2, e, S2, (re.mono p1 k1).mono p2 k2, rs2, GoodG.bind g2 fun ds S3 vs H3 ρ3 _ p3 k3 rs3 r3 g3 => GoodG.ok g3 rs3 ⟨(x, y), vs, rfl, r1.mono (p2.trans p3) (k2.trans k3), r2.mono p3 k3, r3⟩⟩⟩⟩
theorem me_disp {keys : List (Option Expr)} {values : List Expr} {ps : List (MV × MV)} (h : PPs X pos keys values (ps.map fun p => (tM X.K X.mg W p.1, tM X.K X.mg W p.2))) (hall : keys.all (·.isSome) = true := by rfl) (hl : keys.length = values.length := by rfl) (h0 : keys ≠ [] := by exact List.cons_ne_nil _ _)
    (h15 : keys.length ≤ 15 := by decide) : PE X (.Dict keys values pos) (tM X.K X.mg W (mDict ps)) := by
  refine PE.imp (pe_disp h hall hl h0 h15) fun σ H Q ⟨ρ, e, S, re, rs, g⟩ p hp => ?_
  have kp : Keep H (upd H p (.dK [])) := Keep.new hp
  have rs1 : RS X.K X.mg (ρ ++ [p]) (upd H p (.dK [])) (S ++ [.dic []]) := rs.alloc hp ⟨[], upd_same, rfl⟩
  have nD : (ρ ++ [p])[S.length]? = some p := by rw [← rs.len]; simp
  refine tpairs_of ps σ _ _ ⟨ρ ++ [p], e, S ++ [.dic []], re.mono (Pre.app _ _) kp, rs1, GoodG.bind (GoodG.mono g (Pre.app _ _) kp) fun kvs S1 vs H1 ρ1 _ p1 k1 rs1 r1 g1 => ?_⟩
  try dsimp only at g1
  split at g1
  · rename_i e1
    have pD := p1 _ _ nD
    obtain ⟨xs, ex, rx⟩ := rs1.at_ _ _ _ pD e1
    have rx : xs = [] := rx
    subst rx
    split at g1
    · rename_i kv hk
      split at g1
      · rename_i hz
        obtain ⟨ms, rfl, hr⟩ := rps_keys r1 hk
        refine ⟨ex, ms, rfl, by rw [← rks_len hr]; exact hz, ?_⟩
        have kq : Keep H1 (upd H1 p (.dK (mergeK [] ms))) := Keep.mut ex rfl
        exact GoodG.ok' g1 (Pre.refl _) kq (rs1.set (o' := .dic (mergeD [] kv)) pD e1 rfl ⟨_, upd_same, RKs.mono (Pre.refl _) kq _ _ (rks_merge hr rfl)⟩ rfl) ⟨p, rfl, pD⟩
      · exact g1.elim
    · exact g1.elim
  · exact g1.elim
/-- {} -/
def mDnew : MV := fun _ S => .ok (.loc S.length) (S ++ [.dic []])
theorem me_dnew : PE X (.Dict [] [] pos) (tM X.K X.mg W mDnew) := PE.imp pe_dnewK fun σ H Q ⟨ρ, e, S, re, rs, g⟩ p hp => by
  have kp : Keep H (upd H p (.dK [])) := Keep.new hp
  exact GoodG.ok' g (Pre.app _ _) kp (rs.alloc hp ⟨[], upd_same, rfl⟩) ⟨p, rfl, by rw [← rs.len]; simp⟩
/-! o[i] = d of a list or a dict -/
def oPut (o i d : D) (S : Sto) : Option Sto := match o with
  | .loc n => match S[n]? with
    | some (.lst true ds) => match i with
      | .int k => (ixN ds.length k).map fun j => S.set n (.lst true (ds.set j d))
      | _ => none
    | some (.dic kvs) => match keyD i with
      | some k => if kvs.length < sizeLine then some (S.set n (.dic (putD kvs k d))) else none
      | none => none
    | _ => none
  | _ => none
def sPut (mv mo_ mi : MV) : MS := fun e S => (mv e S).bindS e fun d S1 => (mo_ e S1).bindS e fun o S2 => (mi e S2).bindS e fun i S3 => match oPut o i d S3 with
  | some S4 => .nx e S4
  | none => .stuck
def rSetA : TSet := fun o i v H Q => rSetL o i v H Q ∨ rSetD o i v H Q
theorem set_any (hu : X.A.units + 1 < cLine) : PSet X rSetA := fun pins s σ H o i v ov iv u Q I ro ri rv h => by
  rcases h with h | h
  · exact set_list pins s σ H o i v ov iv u Q I ro ri rv h
  · exact set_dict hu pins s σ H o i v ov iv u Q I ro ri rv h
variable {ma mb mc : MV}
theorem ms_put {e o i : Expr} {p2 : Pos} (hu : X.A.units + 1 < cLine) (he : PE X e (tM X.K X.mg W ma)) (ho : PE X o (tM X.K X.mg W mb)) (hi : PE X i (tM X.K X.mg W mc))
    (ha : ∀ v, assign (.Subscript o i p2) X.env v = (do
      let ov ← holding [v] (eval o X.env)
      let iv ← holding [v, ov] (eval i X.env)
      standAt p2
      holding [v, ov, iv] (setItem ov iv v)
      release [v, ov, iv] []) := by intro _; rfl) (hs : swapsWithSole [.Subscript o i p2] e pos.line X.env = pure false := by rfl) (hw : swappedStores [.Subscript o i p2] e X.env = pure none := by rfl)
    (h1 : (assignEach [.Subscript o i p2] X.env).map (·.2) = [assign (.Subscript o i p2) X.env] := by rfl) : PS X (.Assign [.Subscript o i p2] e pos) (tMS X.K X.mg W (sPut ma mb mc)) :=
  PS.imp (ps_asg he (pg_sub ho hi (set_any hu) ha) hs hw h1) fun Dn σ H ⟨ρ, e, S, re, rs, g⟩ => ⟨ρ, e, S, re, rs, GoodG.bindS re g fun d S1 v H1 ρ1 _ p1 k1 rs1 r1 g1 =>
    ⟨ρ1, e, S1, re.mono p1 k1, rs1, GoodG.bindS (re.mono p1 k1) g1 fun o S2 x H2 ρ2 _ p2 k2 rs2 r2 g2 =>
    ⟨ρ2, e, S2, (re.mono p1 k1).mono p2 k2, rs2, GoodG.bindS ((re.mono p1 k1).mono p2 k2) g2 fun i S3 y H3 ρ3 _ p3 k3 rs3 r3 g3 => by
      try dsimp only at g3
      have r1' := r1.mono (p2.trans p3) (k2.trans k3)
      have r2' := r2.mono p3 k3
      have re' := ((re.mono p1 k1).mono (p2.trans p3) (k2.trans k3))
      split at g3
      · rename_i S4 h
        unfold oPut at h
        split at h
        · rename_i n
          obtain ⟨a, rfl, pa⟩ := r2'
          split at h
          · rename_i ds e0
            split at h
            · obtain ⟨j, hj, hS⟩ := map_some h
              subst hS
              cases r3
              obtain ⟨xs, ea, ra⟩ := rs3.at_ _ _ _ pa e0
              have kp : Keep H3 (upd H3 a (.lst (xs.set j v))) := Keep.mut ea rfl
              refine .inl ⟨a, xs, _, j, rfl, rfl, ea, by rw [← ra.length]; exact hj, ?_⟩
              exact g3 σ _ ρ3 (Pre.refl _) kp (rs3.set pa e0 rfl ⟨_, upd_same, RVs.mono (Pre.refl _) kp _ _ (ra.set j r1')⟩ rfl) (re'.mono (Pre.refl _) kp)
            · cases h
          · rename_i kvs e0
            split at h
            · rename_i k hk
              split at h
              · rename_i hz
                cases h
                obtain ⟨xs, ea, ra⟩ := rs3.at_ _ _ _ pa e0
                have kp : Keep H3 (upd H3 a (.dK (putK xs k v))) := Keep.mut ea rfl
                have ek := keyD_V r3 hk
                subst ek
                refine .inr ⟨a, _, rfl, DPut.k ea (by rw [← rks_len ra]; exact hz), ?_⟩
                exact g3 σ _ ρ3 (Pre.refl _) kp (rs3.set pa e0 rfl ⟨_, upd_same, RKs.mono (Pre.refl _) kp _ _ (rks_put ra r1')⟩ rfl) (re'.mono (Pre.refl _) kp)
              · cases h
            · cases h
          · cases h
        · cases h
      · exact g3.elim⟩⟩⟩
/-- d.get(k, x), d.get(k) -/
def oGet : OpM := fun x as S => match x with
  | .loc n => match S[n]? with
    | some (.dic kvs) => match as with
      | [k, d] => match keyD k with
        | some k => some ((getD' kvs k).getD d, S)
        | none => none
      | [k] => match keyD k with
        | some k => some ((getD' kvs k).getD .non, S)
        | none => none
      | _ => none
    | _ => none
  | _ => none
theorem mm_get (hu : X.A.units + 1 < cLine) : MtR X "dict.get" (rMM X.K X.mg oGet) := by
  intro pins s σ H x xs v us Q I rx rxs ⟨ρ, S, d, ds, d3, S3, rs, r1, r2, e, q⟩
  unfold oGet at e
  split at e
  · obtain ⟨a, rfl, pa⟩ := r1
    cases rx
    split at e
    · rename_i kvs e0
      obtain ⟨zs, hx, hv⟩ := rs.at_ _ _ _ pa e0
      split at e
      · split at e
        · rename_i k d _ k' hk; cases e
          obtain ⟨y, ys, rfl, ry, y2, ys2, rfl, ry2, r0⟩ := r2
          cases r0
          cases rxs with
          | cons ra rb =>
          cases rb with
          | cons rc rd =>
          cases rd
          have ek := keyD_V ry hk
          subst ek
          refine d_get2 (A := X.A) hu I (DGet.k hx) ra rc fun w' s' I' rw' => ⟨_, H, I', rw', ?_⟩
          have g := rks_get k' hv
          split at g
          · rename_i dd h1
            obtain ⟨vv, h2, h3⟩ := g
            rw [h2]; rw [h1] at q
            exact q.now rs h3
          · rename_i h1
            rw [g]; rw [h1] at q
            exact q.now rs ry2
        · cases e
      · split at e
        · rename_i k _ k' hk; cases e
          obtain ⟨y, ys, rfl, ry, r0⟩ := r2
          cases r0
          cases rxs with
          | cons ra rb =>
          cases rb
          have ek := keyD_V ry hk
          subst ek
          refine d_get1 (A := X.A) hu I (DGet.k hx) ra fun w' s' I' rw' => ⟨_, H, I', rw', ?_⟩
          have g := rks_get k' hv
          split at g
          · rename_i dd h1
            obtain ⟨vv, h2, h3⟩ := g
            rw [h2]; rw [h1] at q
            exact q.now rs h3
          · rename_i h1
            rw [g]; rw [h1] at q
            exact q.now rs rfl
        · cases e
      · cases e
    · cases e
  · cases e
end
end M2
end

section
set_option Elab.async false
set_option linter.all false
set_option maxRecDepth 100000
/-! M2: sorted, zip, calls of a def in a local. -/
namespace M2
open PySem PySem.Spec PyProof.Rows L2
set_option autoImplicit false
/-! ### sorted -/
def leS (a b : Str) : Bool := !PySem.Spec.ltCps b.cps.toList a.cps.toList
theorem leS_trans {a b c : Str} (h : leS a b = true) (k : leS b c = true) : leS a c = true := by
  unfold leS at *
  rw [ltCps_eq] at *
  simp only [Bool.not_eq_true', decide_eq_false_iff_not, List.not_lt] at *
  exact List.le_trans h k
theorem leS_anti {a b : Str} (h : leS a b = true) (k : leS b a = true) : a = b := by
  unfold leS at *
  rw [ltCps_eq] at *
  simp only [Bool.not_eq_true', decide_eq_false_iff_not, List.not_lt] at *
  have := List.le_antisymm h k
  cases a; cases b
  simp only [Str.mk.injEq]
  exact Array.toList_inj.mp this
theorem leS_total (a b : Str) : (leS a b || leS b a) = true := by
  unfold leS
  rw [ltCps_eq, ltCps_eq]
  rcases List.le_total a.cps.toList b.cps.toList with h | h
  · have : ¬ b.cps.toList < a.cps.toList := List.not_lt.mpr h
    simp [this]
  · have : ¬ a.cps.toList < b.cps.toList := List.not_lt.mpr h
    simp [this]
theorem risingS_pw : ∀ (p : Str) (l : List Str), risingS p l = true → (p :: l).Pairwise (fun a b => leS a b = true)
  | p, [], _ => List.pairwise_singleton _ _
  | p, x :: r, h => by
    have h' : (!PySem.Spec.ltCps x.cps.toList p.cps.toList && risingS x r) = true := h
    rw [Bool.and_eq_true] at h'
    have ih := risingS_pw x r h'.2
    refine List.pairwise_cons.mpr ⟨fun y hy => ?_, ih⟩
    rcases List.mem_cons.mp hy with e | hy
    · subst e; exact h'.1
    · exact leS_trans h'.1 ((List.pairwise_cons.mp ih).1 y hy)
theorem sortedS_pw {l : List Str} (h : sortedS l = true) : l.Pairwise (fun a b => leS a b = true) := by
  cases l with
  | nil => exact List.Pairwise.nil
  | cons x r => exact risingS_pw x r h
theorem sortS_unique {xs ys : List Str} (p : ys.Perm xs) (h : sortedS ys = true) : ys = xs.mergeSort leS :=
  List.Perm.eq_of_pairwise (le := fun a b => leS a b = true) (fun a b _ _ h k => leS_anti h k) (sortedS_pw h) (List.pairwise_mergeSort (le := leS) (fun a b c h k => leS_trans h k) leS_total xs) (p.trans (List.mergeSort_perm xs leS).symm)
def leI (a b : Int) : Bool := decide (a ≤ b)
theorem sortI_unique {xs ys : List Int} (p : ys.Perm xs) (h : ys.Pairwise (· ≤ ·)) : ys = xs.mergeSort leI :=
  List.Perm.eq_of_pairwise (le := fun a b => a ≤ b) (fun a b _ _ h k => Int.le_antisymm h k) h
    ((List.pairwise_mergeSort (le := leI) (fun a b c h k => by unfold leI at *; simp only [decide_eq_true_eq] at *; omega) (fun a b => by unfold leI; simp only [Bool.or_eq_true, decide_eq_true_eq]; omega) xs).imp fun h => of_decide_eq_true h) (p.trans (List.mergeSort_perm xs leI).symm)
def oSorted : OpL := fun ds S => match ds with
  | [.loc n] => match S[n]? with
    | some (.lst _ xs) => match intsOf xs with
      | some is => some (.loc S.length, S ++ [.lst true ((is.mergeSort leI).map .int)])
      | none => match strsOf xs with
        | some ys => if ys.length < 64 then some (.loc S.length, S ++ [.lst true ((ys.mergeSort leS).map .str)]) else none
        | none => none
    | _ => none
  | _ => none
section
variable {X : Cx} {W : WX}
theorem cm_sorted : CallR X (.builtin "sorted") (rML X.K X.mg oSorted) := by
  intro pins s σ H vs us Q I r ⟨ρ, S, ds, d3, S3, rs, r1, e, q⟩
  unfold oSorted at e
  split at e
  · obtain ⟨y, ys, rfl, ry, r0⟩ := r1
    cases r0
    obtain ⟨a, rfl, pa⟩ := ry
    split at e
    · rename_i w xs e0
      obtain ⟨zs, hx, hv⟩ := rs.list pa e0
      split at e
      · rename_i is hi; cases e
        have := rvs_ints hv hi
        subst this
        refine cr_sortedI pins s σ H _ us Q I r ⟨a, is, rfl, hx, fun ns' p hp hs hn => ?_⟩
        rw [sortI_unique hp hs]
        refine q.lnew rs ?_ hn
        exact ints_rvs _
      · split at e
        · rename_i ys hs
          split at e
          · rename_i hz; cases e
            have := rvs_strs hv hs
            subst this
            refine cr_sortedS pins s σ H _ us Q I r ⟨a, ys, rfl, hx, hz, fun ns' p hp hs hn => ?_⟩
            rw [sortS_unique hp hs]
            refine q.lnew rs ?_ hn
            exact strs_rvs _
          · cases e
        · cases e
    · cases e
  · cases e
/-! ### zip -/
theorem RS.new {K : PySem.W.Frag} {mg : Str → Option Value} {ρ : List Addr} {H : Hp} {S : Sto} {p : Addr} {o : HO} (s : RS K mg ρ H S) (hp : H p = none) : RS K mg ρ (upd H p o) S :=
  ⟨s.len, fun n a o' e1 e2 => (s.at_ n a o' e1 e2).mono (Pre.refl _) (Keep.new hp) fun w => by
    obtain ⟨z, e, _⟩ := (s.at_ n a o' e1 e2).some_of w
    exact upd_ne (ne_of_none e hp), s.inj⟩
def zipAt (xs ys : List D) (i : Nat) : Option D := match xs[i]?, ys[i]? with
  | some x, some y => some (.tup [x, y])
  | _, _ => none
def itZL (n m cnt : Nat) : ItM := ⟨cnt, fun i S => match S[n]?, S[m]? with
  | some (.lst _ xs), some (.lst _ ys) => some (zipAt xs ys i)
  | _, _ => none⟩
def itZT (xs ys : List D) : ItM := ⟨min xs.length ys.length, fun i _ => some (zipAt xs ys i)⟩
theorem zip_step {ρ : List Addr} {H : Hp} {S : Sto} {xs ys : List D} {vs ws : List V} {i : Nat} {d : D} {x' y' : V} {T : Addr} (rs : RS X.K X.mg ρ H S) (rx : RVs X.K X.mg ρ H xs vs) (ry : RVs X.K X.mg ρ H ys ws) (h : zipAt xs ys i = some d)
    (hT : H T = none) (hx : vs[i]? = some x') (hy : ws[i]? = some y') : Keep H (upd H T (.tup [x', y'])) ∧ RS X.K X.mg ρ (upd H T (.tup [x', y'])) S ∧ RV X.K X.mg ρ (upd H T (.tup [x', y'])) d (.ref T) := by
  have kp : Keep H (upd H T (.tup [x', y'])) := Keep.new hT
  refine ⟨kp, rs.new hT, ?_⟩
  unfold zipAt at h
  split at h
  · rename_i x y e1 e2
    cases h
    obtain ⟨v, ev, rv⟩ := rx.get e1
    obtain ⟨w, ew, rw_⟩ := ry.get e2
    rw [hx] at ev; cases ev
    rw [hy] at ew; cases ew
    exact ⟨T, [x', y'], rfl, .inl (.inl upd_same), x', [y'], rfl, rv.mono (Pre.refl _) kp, y', [], rfl, rw_.mono (Pre.refl _) kp, rfl⟩
  · cases h
theorem zip_none {xs ys : List D} {i : Nat} (h : zipAt xs ys i = none) : xs.length ≤ i ∨ ys.length ≤ i := by
  unfold zipAt at h
  cases hx : xs[i]? with
  | none => exact .inl (List.getElem?_eq_none_iff.mp hx)
  | some x =>
    cases hy : ys[i]? with
    | none => exact .inr (List.getElem?_eq_none_iff.mp hy)
    | some y => rw [hx, hy] at h; cases h
theorem zip_go {ρ : List Addr} {H : Hp} {xs ys : List D} {vs ws : List V} {i : Nat} {d : D} (rx : RVs X.K X.mg ρ H xs vs) (ry : RVs X.K X.mg ρ H ys ws) (h : zipAt xs ys i = some d) : ∃ x y, vs[i]? = some x ∧ ws[i]? = some y := by
  unfold zipAt at h
  split at h
  · rename_i x y e1 e2
    obtain ⟨v, ev, _⟩ := rx.get e1
    obtain ⟨w, ew, _⟩ := ry.get e2
    exact ⟨v, w, ev, ew⟩
  · cases h
theorem itZL_ok {ρ : List Addr} {H : Hp} {n m cnt : Nat} {a b : Addr} (pa : ρ[n]? = some a) (pb : ρ[m]? = some b) : ItOk X.K X.mg ρ H (itZL n m cnt) (Itz X.K a b) := by
  intro i ρ' H' S p k rs
  show match (match S[n]?, S[m]? with
    | some (.lst _ xs), some (.lst _ ys) => some (zipAt xs ys i)
    | _, _ => none) with
    | none => True
    | some none => (Itz X.K a b).stop i H'
    | some (some d) => (Itz X.K a b).go i H' ∧ ∀ x H'', (Itz X.K a b).yld i H' x H'' → Keep H' H'' ∧ RS X.K X.mg ρ' H'' S ∧ RV X.K X.mg ρ' H'' d x
  split
  · trivial
  · rename_i hh
    split at hh
    · rename_i e1 e2
      obtain ⟨vs, hx, hv⟩ := rs.list (p _ _ pa) e1
      obtain ⟨ws, hy, hw⟩ := rs.list (p _ _ pb) e2
      have h0 := Option.some.inj hh
      exact ⟨vs, ws, hx, hy, by rw [← hv.length, ← hw.length]; exact zip_none h0⟩
    · cases hh
  · rename_i d hh
    split at hh
    · rename_i e1 e2
      obtain ⟨vs, hx, hv⟩ := rs.list (p _ _ pa) e1
      obtain ⟨ws, hy, hw⟩ := rs.list (p _ _ pb) e2
      have h0 := Option.some.inj hh
      obtain ⟨x, y, gx, gy⟩ := zip_go hv hw h0
      refine ⟨⟨vs, ws, x, y, hx, hy, gx, gy⟩, fun v H'' ⟨T, x', y', ev, hT, eH, f1, f2⟩ => ?_⟩
      subst ev; subst eH
      exact zip_step rs hv hw h0 hT (f1 vs hx) (f2 ws hy)
    · cases hh
theorem itZT_ok {ρ : List Addr} {H : Hp} {xs ys : List D} {vs ws : List V} {a b : Addr} (hx : SqT X.K H a vs) (hy : SqT X.K H b ws) (hv : RVs X.K X.mg ρ H xs vs) (hw : RVs X.K X.mg ρ H ys ws) : ItOk X.K X.mg ρ H (itZT xs ys) (RZ.ItzT X.K a b) := by
  intro i ρ' H' S p k rs
  have hx' := sqT_keep k hx
  have hy' := sqT_keep k hy
  have hv' := RVs.mono p k _ _ hv
  have hw' := RVs.mono p k _ _ hw
  show match some (zipAt xs ys i) with
    | none => True
    | some none => (RZ.ItzT X.K a b).stop i H'
    | some (some d) => (RZ.ItzT X.K a b).go i H' ∧ ∀ x H'', (RZ.ItzT X.K a b).yld i H' x H'' → Keep H' H'' ∧ RS X.K X.mg ρ' H'' S ∧ RV X.K X.mg ρ' H'' d x
  cases h0 : zipAt xs ys i with
  | none => exact ⟨vs, ws, hx', hy', by rw [← hv.length, ← hw.length]; exact zip_none h0⟩
  | some d =>
    obtain ⟨x, y, gx, gy⟩ := zip_go hv' hw' h0
    refine ⟨⟨vs, ws, x, y, hx', hy', gx, gy⟩, fun v H'' ⟨T, x', y', ev, hT, eH, f1, f2⟩ => ?_⟩
    subst ev; subst eH
    exact zip_step rs hv' hw' h0 hT (f1 vs hx') (f2 ws hy')
def iZip (m : MA) : Nv → Sto → Rs ItM := fun e S => (m e S).bind fun ds S1 => match ds with
  | [.loc n, .loc m] => match S1[n]?, S1[m]? with
    | some (.lst _ xs), some (.lst _ ys) => .ok (itZL n m (min xs.length ys.length)) S1
    | _, _ => .stuck
  | [.tup xs, .tup ys] => .ok (itZT xs ys) S1
  | _ => .stuck
theorem mi_zip {e e2 : Expr} {m : MA} {p pos tpos : Pos} {elts : List Expr} {kk : Nat} (hg : Gl X "zip") (hm : X.mg "zip" = none) (ha : PA X [e, e2] (tMA X.K X.mg W m))
    (hs : starEach [e, e2] X.env = (false, eval e X.env) :: starEach [e2] X.env := by rfl) (hpl : (backTo pos (starEach [e2] X.env)).any (·.1) = false := by rfl) :
    PI X (.Tuple elts kk tpos) (.Call (.Name "zip" p) [e, e2] [] pos) (tMI X.K X.mg W (iZip m)) := by
  refine ⟨fun pins s σ H R I ⟨ρ, e, S, re, rs, g⟩ => (RZ.pi_zipA hg hm ha hs hpl).run pins s σ H R I ⟨ρ, e, S, re, rs, GoodG.bind g fun ds S1 vs H1 ρ1 _ p1 k1 rs1 r1 g1 => ?_⟩⟩
  try dsimp only at g1
  split at g1
  · rename_i n m
    obtain ⟨x, xs, rfl, rx, y, ys, rfl, ry, r0⟩ := r1
    cases r0
    obtain ⟨a, rfl, pa⟩ := rx
    obtain ⟨b, rfl, pb⟩ := ry
    split at g1
    · rename_i e1 e2
      obtain ⟨vs, hx, hv⟩ := rs1.list pa e1
      obtain ⟨ws, hy, hw⟩ := rs1.list pb e2
      exact ⟨a, b, vs, ws, rfl, .inl ⟨hx, hy, GoodG.ok g1 rs1 (itZL_ok pa pb)⟩⟩
    · exact g1.elim
  · obtain ⟨x, xs, rfl, rx, y, ys, rfl, ry, r0⟩ := r1
    cases r0
    obtain ⟨a, vs, rfl, hx, hv⟩ := rx
    obtain ⟨b, ws, rfl, hy, hw⟩ := ry
    exact ⟨a, b, vs, ws, rfl, .inr ⟨hx, hy, GoodG.ok g1 rs1 (itZT_ok hx hy hv hw)⟩⟩
  · exact g1.elim
/-! ### a call of a local that holds a def -/
def mCallV (i : Nat) (F : Str → Option MF) (m : MA) : MV := fun e S => match e[i]? with
  | some (some (.fn x)) => match F x with
    | some mf => (m e S).bind fun ds S1 => (mf ds S1).cold
    | none => .stuck
  | _ => .stuck
theorem me_callV {e : Expr} {es : List Expr} {mr : MA} {p pos : Pos} {x : Str} {k i : Nat} {F : Str → Option MF} (A : ∀ y mf, F y = some mf → FnM X.prog X.w X.K X.mg X.base y k mf) (hr : Room k X.A) (hN : X.N[i]? = some x) (ha : PA X (e :: es) (tMA X.K X.mg W mr))
    (hv : Vis X.env.scope x := by first | exact Or.inl rfl | exact Or.inr (Or.inl rfl) | exact Or.inr (Or.inr rfl)) (hdb : (x == ("__debug__" : Str)) = false := by decide) (hcd : (x == ("__classdict__" : Str)) = false := by decide)
    (he : starEach (e :: es) X.env = (false, eval e X.env) :: starEach es X.env := by rfl) (hpl : (backTo pos (starEach es X.env)).any (·.1) = false := by rfl) : PE X (.Call (.Name x p) (e :: es) [] pos) (tM X.K X.mg W (mCallV i F mr)) := by
  refine ⟨fun pins s σ H Q I ⟨ρ, en, S, re, rs, g⟩ => ?_⟩
  unfold mCallV at g
  split at g
  · rename_i y h
    split at g
    · rename_i mf hF
      obtain ⟨f, fd, ps, a, b, c, d⟩ := (A y mf hF).ex
      obtain ⟨v, e1, fa, e2, rfl⟩ := re.at_ _ _ h
      rw [a] at e2
      cases e2
      refine (pe_callL (i := i) (f := f) (dvs := []) (E := fun _ _ _ => False) d hr hN hv b c .nil passN ha hdb hcd he hpl).run pins s σ H Q I ⟨e1, ρ, en, S, re, rs, GoodG.bind g fun ds S1 xs H1 ρ1 _ p1 k1 rs1 r1 g1 => ?_⟩
      exact ⟨ρ1, S1, ds, rs1, by rw [List.append_nil]; exact r1, good_cold g1⟩
    · exact g.elim
  · exact g.elim
end
end M2
end

section
set_option Elab.async false
set_option linter.all false
set_option maxRecDepth 100000
/-! M2: what the printed texts use. -/
namespace M2
open PySem PySem.Spec PyProof.Rows L2
set_option autoImplicit false
theorem bt_len : bootBuiltins "len" = some (.builtin "len") := by decide +kernel
theorem bt_isinstance : bootBuiltins "isinstance" = some (.builtin "isinstance") := by decide +kernel
theorem bt_sorted : bootBuiltins "sorted" = some (.builtin "sorted") := by decide +kernel
theorem bt_all : bootBuiltins "all" = some (.builtin "all") := by decide +kernel
theorem bt_any : bootBuiltins "any" = some (.builtin "any") := by decide +kernel
theorem bt_max : bootBuiltins "max" = some (.builtin "max") := by decide +kernel
theorem bt_min : bootBuiltins "min" = some (.builtin "min") := by decide +kernel
theorem bt_sum : bootBuiltins "sum" = some (.builtin "sum") := by decide +kernel
theorem bt_divmod : bootBuiltins "divmod" = some (.builtin "divmod") := by decide +kernel
theorem bt_int : bootBuiltins "int" = some (.type "int") := by decide +kernel
theorem bt_str : bootBuiltins "str" = some (.type "str") := by decide +kernel
theorem bt_tuple : bootBuiltins "tuple" = some (.type "tuple") := by decide +kernel
theorem bt_list : bootBuiltins "list" = some (.type "list") := by decide +kernel
theorem bt_type : bootBuiltins "type" = some (.type "type") := by decide +kernel
theorem bt_bool : bootBuiltins "bool" = some (.type "bool") := by decide +kernel
theorem bt_dict : bootBuiltins "dict" = some (.type "dict") := by decide +kernel
theorem bt_set : bootBuiltins "set" = some (.type "set") := by decide +kernel
theorem MX.hu1 {X : Cx} {W : WX} {k : Nat} (h : MX X W k) : X.A.units + 1 < cLine := by have := h.hu; omega
def mCallC (mf : MF) (m : MA) : MV := fun e S => (m e S).bind fun ds S1 => (mf ds S1).cold
def mCall0 (mf : MF) : MV := fun _ S => (mf [] S).cold
section
variable {X : Cx} {W : WX} {e : Expr} {es : List Expr} {mr : MA} {p pos : Pos} {x : Str} {k : Nat} {mf : MF}
theorem me_callK (F : FnM X.prog X.w X.K X.mg X.base x k mf) (hr : Room k X.A) (hg : Gl X x) (ha : PA X (e :: es) (tMA X.K X.mg W mr)) (hdb : (x == ("__debug__" : Str)) = false := by decide) (he : starEach (e :: es) X.env = (false, eval e X.env) :: starEach es X.env := by rfl)
    (hpl : (backTo pos (starEach es X.env)).any (·.1) = false := by rfl) : PE X (.Call (.Name x p) (e :: es) [] pos) (tM X.K X.mg W (mCallC mf mr)) := me_callC F hr hg ha hdb he hpl
theorem me_callK0 (F : FnM X.prog X.w X.K X.mg X.base x k mf) (hr : Room k X.A) (hg : Gl X x) (hdb : (x == ("__debug__" : Str)) = false := by decide) : PE X (.Call (.Name x p) [] [] pos) (tM X.K X.mg W (mCall0 mf)) := me_call0 F hr hg hdb
theorem me_gstrE {z : Str} (hg : Gl X x) (h : ∃ t, X.mg x = some (.str z t)) (hd : (x == ("__debug__" : Str)) = false := by decide) : PE X (.Name x pos) (tM X.K X.mg W (mC (.str z))) := by
  obtain ⟨t, hm⟩ := h
  exact me_gstr hg hm hd
theorem me_gintE {z : Int} (hg : Gl X x) (h : ∃ t, X.mg x = some (.int z t)) (hd : (x == ("__debug__" : Str)) = false := by decide) : PE X (.Name x pos) (tM X.K X.mg W (mC (.int z))) := by
  obtain ⟨t, hm⟩ := h
  exact me_gint hg hm hd
/-- a module's tuple -/
theorem me_gtupE {d : D} (hg : Gl X x) (h : ∃ a, X.mg x = some (.ref a) ∧ ∀ ρ H, RV X.K X.mg ρ H d (.ref a)) (hd : (x == ("__debug__" : Str)) = false := by decide) : PE X (.Name x pos) (tM X.K X.mg W (mC d)) := by
  obtain ⟨a, hm, hr⟩ := h
  exact me_c (v := .ref a) (pe_glob (v := .ref a) hg hm rfl hd) rfl hr
theorem me_fnE (hg : Gl X x) (h : ∃ f, X.mg x = some (.ref f)) (hd : (x == ("__debug__" : Str)) = false := by decide) : PE X (.Name x pos) (tM X.K X.mg W (mC (.fn x))) := by
  obtain ⟨f, hm⟩ := h
  exact me_fn hg hm hd
end
/-! ### defs as the texts name them -/
structure HasF (K : PySem.W.Frag) (mg : Str → Option Value) (x qual : Str) (st : Stmt) (ps : List Str) : Prop where
  ex : ∃ (f : Addr) (fd : FuncData), Fun K x qual st f fd ∧ mg x = some (.ref f) ∧ Binds K fd ps []
section
variable {P : Program} {w : World} {K : PySem.W.Frag} {mg : Str → Option Value} {base : Heap}
theorem HasF.at_ {x qual : Str} {st : Stmt} {ps : List Str} (T : HasF K mg x qual st ps) : ∃ f, mg x = some (.ref f) := by
  obtain ⟨f, fd, F, hm, hb⟩ := T.ex
  exact ⟨f, hm⟩
theorem FnM.ofH {x qual : Str} {st : Stmt} {N ps : List Str} {k : Nat} {body : MS} (T : HasF K mg x qual st ps) (S : FnScope N ps (defScope st))
    (h : ∀ (f : Addr) (cdv : Value) (A : Around) (outer : List Env) (s : Shared) (H : Hp) (E : XK), MX (cxOf (L2N.CX P w) P w K mg base N qual (defScope st) f cdv A outer s H E) (E2W E) k →
      PSs (cxOf (L2N.CX P w) P w K mg base N qual (defScope st) f cdv A outer s H E) (defBody st) (tMS K mg (E2W E) body)) : FnM P w K mg base x (k + 1) (mDef N.length ps.length body) := by
  obtain ⟨f, fd, F, hm, hb⟩ := T.ex
  exact FnM.of F S hm hb (h f)
/-- at the end of the depth -/
theorem FnM.bot {x qual : Str} {st : Stmt} {N ps : List Str} {k : Nat} (T : HasF K mg x qual st ps) (S : FnScope N ps (defScope st)) : FnM P w K mg base x (k + 1) (fun _ _ => .stuck) := by
  obtain ⟨f, fd, F, hm, hb⟩ := T.ex
  refine ⟨f, fd, ps, hm, F.kp, hb, ?_⟩
  obtain ⟨oc, od, kV, doc, pm, an, cdv, ct, osl, rfl, lk, hcd⟩ := F.ex
  refine fn_of lk hcd S (fun vs H Q E hsp => ?_) fun A outer s H vs Q E hr hsp => ?_
  · obtain ⟨ρ, S', ds, rs, rv, g⟩ := hsp
    exact g.elim
  · obtain ⟨ρ, S', ds, rs, rv, g⟩ := hsp
    exact g.elim
end
end M2
end

section
set_option Elab.async false
set_option linter.all false
set_option maxRecDepth 100000
set_option maxHeartbeats 2000000
/-! M2: sets of keys, made of a list or a tuple; sorted of them. -/
namespace M2
open PySem PySem.Spec PyProof.Rows L2
set_option autoImplicit false
def addU {α : Type} [DecidableEq α] (L : List α) (x : α) : List α := if x ∈ L then L else L ++ [x]
def uniq {α : Type} [DecidableEq α] (xs : List α) : List α := xs.foldl addU []
theorem addU_map {α β : Type} [DecidableEq α] [DecidableEq β] (f : α → β) (hf : ∀ a b, f a = f b → a = b) (L : List α) (x : α) : addU (L.map f) (f x) = (addU L x).map f := by
  unfold addU
  by_cases h : x ∈ L
  · rw [if_pos h, if_pos (List.mem_map.mpr ⟨x, h, rfl⟩)]
  · rw [if_neg h, if_neg fun z => ?_, List.map_append]
    · rfl
    · obtain ⟨y, hy, e⟩ := List.mem_map.mp z
      rw [hf _ _ e] at hy
      exact h hy
theorem uniq_map {α β : Type} [DecidableEq α] [DecidableEq β] (f : α → β) (hf : ∀ a b, f a = f b → a = b) (xs : List α) : uniq (xs.map f) = (uniq xs).map f := by
  have key : ∀ (xs L : List α), (xs.map f).foldl addU (L.map f) = (xs.foldl addU L).map f := by
    intro xs
    induction xs with
    | nil => intro L; rfl
    | cons x xs ih => intro L; rw [List.map_cons, List.foldl_cons, List.foldl_cons, addU_map f hf, ih]
  exact key xs []
theorem uniq_next {α : Type} [DecidableEq α] {xs : List α} {i : Nat} {x : α} (h : xs[i]? = some x) : uniq (xs.take (i + 1)) = addU (uniq (xs.take i)) x := by
  unfold uniq
  rw [take_next h, List.foldl_append]
  rfl
theorem addU_len {α : Type} [DecidableEq α] (L : List α) (x : α) : (addU L x).length ≤ L.length + 1 := by
  unfold addU
  split
  · omega
  · simp
theorem uniq_len {α : Type} [DecidableEq α] (xs : List α) : (uniq xs).length ≤ xs.length := by
  have key : ∀ (xs L : List α), (xs.foldl addU L).length ≤ L.length + xs.length := by
    intro xs
    induction xs with
    | nil => intro L; simp
    | cons x xs ih => intro L; have := ih (addU L x); have := addU_len L x; rw [List.foldl_cons, List.length_cons]; omega
  have := key xs []
  rw [List.length_nil, Nat.zero_add] at this
  exact this
def kOf : Value → Key
  | .int i _ => .inl i
  | .str x _ => .inr x
  | _ => .inl 0
def GoodQ (P : Program) (w : World) (e : Int × Value) : Prop := ∃ k, (mixKind P w).is k e.2 = true ∧ e.1 = (mixKind P w).hash k ∧ kOf e.2 = k ∧ e.2.scannable = true
/-- the set of the keys L at a -/
def SetQ (P : Program) (w : World) (h : Heap) (a : Addr) (L : List Key) : Prop :=
  ∃ o es ep t, h.get? a = some o ∧ o.ExactSet ∧ o.data = .set es ep t ∧ (∀ e ∈ es.toList, GoodQ P w e) ∧ (es.toList.map fun e => kOf e.2).Nodup ∧ (es.toList.map fun e => kOf e.2).Perm L ∧
    es.size < scanBound ∧ t.fits es.size = true ∧ Ris t.place.toList ∧ (w.params.followText "set-order" = true ∨ t.led = true)
section
variable {P : Program} {w : World} {A : Around} {E : Value → Shared → Prop} {s : Shared} {a : Addr} {L : List Key}
theorem goodQ_elems {l : List (Int × Value)} (g : ∀ e ∈ l, GoodQ P w e) : ElemsOf (mixKind P w) l := fun e he => by
  obtain ⟨k, h1, h2, _, h4⟩ := g e he
  exact ⟨⟨k, h1, h2⟩, h4⟩
theorem goodQ_is {e : Int × Value} (g : GoodQ P w e) (k : Key) : (mixKind P w).is k e.2 = true ↔ kOf e.2 = k := by
  obtain ⟨k0, h1, _, h3, _⟩ := g
  constructor
  · intro h
    rw [h3]
    exact (mixKind P w).inj _ _ _ h1 h
  · intro h
    rw [← h, h3]
    exact h1
theorem kOf_is {k : Key} {u : Value} (h : RelV (kV k) u) : kOf u = k := by
  cases k with
  | inl i => obtain ⟨t, rfl⟩ := h; rfl
  | inr x => obtain ⟨t, rfl⟩ := h; rfl
theorem setQ_tail {g : Bool → Sem Unit} (hg : ∀ (b : Bool) (s₁ : Shared) (Q' : Unit → Shared → Prop), Q' () s₁ → wpAny (model P w) A (g b) Q' E s₁)
    {o : Obj} {es : Array (Int × Value)} {ep : Nat} {t : SetTable} (ho : s.heap.get? a = some o) (hex : o.ExactSet) (hd : o.data = .set es ep t)
    {es1 : Array (Int × Value)} {t2 : SetTable} (g1 : ∀ e ∈ es1.toList, GoodQ P w e) (nd1 : (es1.toList.map fun e => kOf e.2).Nodup) (m1 : (es1.toList.map fun e => kOf e.2).Perm L)
    (hb1 : es1.size < scanBound) (hf2 : t2.fits es1.size = true) (hr : Ris t2.place.toList) (hl : w.params.followText "set-order" = true ∨ t2.led = true) {wasDummy : Bool} {R : Option Bool → Shared → Prop}
    (hR : ∀ h', Heap.SameBut a s.heap h' → SetQ P w h' a L → R (some true) { s with heap := h' }) :
    wpAny (model P w) A (do
        storeSet a es1 t2
        if (!wasDummy && t2.tooFull) = true then do
            g (relayAll t2 es1 (SetTable.grown es1.size)).2.2
            storeSet a (relayAll t2 es1 (SetTable.grown es1.size)).1 (relayAll t2 es1 (SetTable.grown es1.size)).2.1
            pure (some true)
          else pure (some true)) R E s := by
  refine wpAny_bind (wpAny_storeSet_of ho hd ?_ (fits_of_scanBound hb1))
  have ho1 := store_at (es' := es1) (t' := t2) ho hd
  have sb1 := Heap.SameBut.update s.heap a (Obj.putSet es1 t2)
  split
  · have pm := relayAll_perm t2 es1 (SetTable.grown es1.size)
    have hf3 := relayAll_fits t2 es1 (SetTable.grown es1.size)
    have hr3 := relayAll_ris t2 es1 (SetTable.grown es1.size)
    have hl3 := relayAll_led t2 es1 (SetTable.grown es1.size)
    generalize relayAll t2 es1 (SetTable.grown es1.size) = Z at pm hf3 hr3 hl3 ⊢
    obtain ⟨es2, t3, gave⟩ := Z
    dsimp only at pm hf3 hr3 hl3 ⊢
    have hsz : es2.size = es1.size := by rw [← Array.length_toList, pm.length_eq, Array.length_toList]
    have hb2 : es2.size < scanBound := by rw [hsz]; exact hb1
    refine wpAny_bind (hg _ _ _ ?_)
    refine wpAny_bind (wpAny_storeSet_of ho1 rfl ?_ (fits_of_scanBound hb2))
    have ho2 := store_at (es' := es2) (t' := t3) ho1 rfl
    refine wpAny_pure (hR _ (sb1.trans (Heap.SameBut.update _ a _)) ?_)
    exact ⟨_, es2, _, t3, ho2, hex, rfl, fun e he => g1 e (pm.mem_iff.mp he), (pm.map _).nodup_iff.mpr nd1, (pm.map _).trans m1, hb2, hf3, hr3,
      hl.imp id fun z => by rw [hl3]; exact z⟩
  · exact wpAny_pure (hR _ sb1 ⟨_, es1, _, t2, ho1, hex, rfl, g1, nd1, m1, hb1, hf2, hr, hl⟩)
theorem setQ_add {k : Key} {u : Value} {Q : Bool → Shared → Prop} (R : SetQ P w s.heap a L) (ru : RelV (kV k) u) (room : L.length + 1 < scanBound)
    (hQ : ∀ b h', Heap.SameBut a s.heap h' → SetQ P w h' a (addU L k) → Q b { s with heap := h' }) :
    wpAny (model P w) A (setAddHashed a u ((mixKind P w).hash k)) Q E s := by
  obtain ⟨o, es, ep, t, ho, hex, hd, g, nd, hm, hb, hf, hr, hl⟩ := R
  have hkey : (mixKind P w).is k u = true := kV_is ru
  have hsc : u.scannable = true := key_scan ru
  have hel : ElemsOf (mixKind P w) es.toList := goodQ_elems g
  unfold setAddHashed setAddHashedIn
  refine wpAny_holding (wpAny_bind (wpAny_setState_of ho hd hf ?_))
  dsimp only
  rw [byScan_of hsc hb hel]
  simp only [↓reduceIte]
  unfold setAddByScan
  refine wpAny_bind ?_
  refine wpAny_bind (wpAny_rule ?_)
  refine wpAny_bind (wpAny_setScan_of hkey ho hd hf hel ?_)
  have hmem : k ∈ L ↔ ∃ e ∈ es.toList, (mixKind P w).is k e.2 = true := by
    rw [← hm.mem_iff, List.mem_map]
    exact ⟨fun ⟨e, he, q⟩ => ⟨e, he, (goodQ_is (g e he) k).2 q⟩, fun ⟨e, he, q⟩ => ⟨e, he, (goodQ_is (g e he) k).1 q⟩⟩
  cases hfi : List.findIdx? (fun e => (mixKind P w).is k e.2) es.toList with
  | some j =>
    dsimp only
    obtain ⟨hj, pj, _⟩ := List.findIdx?_eq_some_iff_getElem.mp hfi
    have hk : k ∈ L := hmem.2 ⟨es.toList[j], List.getElem_mem hj, pj⟩
    refine wpAny_pure (wpAny_pure ?_)
    refine hQ _ s.heap (Heap.SameBut.refl a s.heap) ?_
    unfold addU
    rw [if_pos hk]
    exact ⟨o, es, ep, t, ho, hex, hd, g, nd, hm, hb, hf, hr, hl⟩
  | none =>
    dsimp only
    have hnk : k ∉ L := fun z => by
      obtain ⟨e, he, q⟩ := hmem.1 z
      have c := List.findIdx?_eq_none_iff.mp hfi e he
      rw [q] at c
      cases c
    have hnk' : k ∉ es.toList.map fun e => kOf e.2 := fun z => hnk (hm.mem_iff.mp z)
    have hgw : ∀ (b : Bool) {s₁ : Shared} {Q' : Unit → Shared → Prop}, Q' () s₁ → wpAny (model P w) A (match b with | true => rule "set.scan.the-table-gave-way" | false => pure ()) Q' E s₁ :=
      fun b s₁ Q' q => by cases b <;> first | exact wpAny_pure q | exact wpAny_rule q
    have pm := layNew_perm t es ((mixKind P w).hash k) u
    have hf1 := layNew_fits t es ((mixKind P w).hash k) u
    have hr1 := layNew_ris t es ((mixKind P w).hash k) u hr
    have hl1 := layNew_led t es ((mixKind P w).hash k) u
    generalize layNew t es ((mixKind P w).hash k) u = Z at pm hf1 hr1 hl1 ⊢
    obtain ⟨es1, t1, wasDummy, gave⟩ := Z
    dsimp only at pm hf1 hr1 hl1 ⊢
    rw [Array.toList_push] at pm
    have pc : es1.toList.Perm (((mixKind P w).hash k, u) :: es.toList) := pm.trans (List.perm_append_singleton _ _)
    have pk : (es1.toList.map fun e => kOf e.2).Perm (k :: es.toList.map fun e => kOf e.2) := by
      have q := pc.map fun e : Int × Value => kOf e.2
      rw [List.map_cons, show kOf ((mixKind P w).hash k, u).2 = k from kOf_is ru] at q
      exact q
    have g1 : ∀ e ∈ es1.toList, GoodQ P w e := fun e he => by
      rcases List.mem_cons.mp (pc.mem_iff.mp he) with z | z
      · rw [z]; exact ⟨k, hkey, rfl, kOf_is ru, hsc⟩
      · exact g e z
    have nd1 : (es1.toList.map fun e => kOf e.2).Nodup := pk.nodup_iff.mpr (List.nodup_cons.mpr ⟨hnk', nd⟩)
    have m1 : (es1.toList.map fun e => kOf e.2).Perm (addU L k) := by
      unfold addU
      rw [if_neg hnk]
      exact (pk.trans (hm.cons k)).trans (List.perm_append_singleton k L).symm
    have hsz : es1.size = L.length + 1 := by
      have e1 : es.size = L.length := by rw [← Array.length_toList, ← hm.length_eq, List.length_map]
      rw [← Array.length_toList, pc.length_eq, List.length_cons, Array.length_toList, e1]
    have hb1 : es1.size < scanBound := by rw [hsz]; exact room
    have hled : w.params.followText "set-order" = true ∨ t1.led = true := hl.imp id fun z => by rw [hl1]; exact z
    refine wpAny_bind (hgw _ ?_)
    split
    · refine wpAny_bind ?_
      rw [hashByValue_scannable 8 hsc]
      refine wpAny_pure ?_
      refine setQ_tail (L := addU L k) ?_ ho hex hd g1 nd1 m1 hb1 ?_ ?_ ?_ ?_
      · intro b s₁ Q' q; cases b <;> first | exact wpAny_pure q | exact wpAny_rule q
      · first | (split <;> first | exact hf1 | exact SetTable.fits_plain_off hf1) | exact hf1
      · first | (split <;> exact hr1) | exact hr1
      · first | (split <;> exact hled) | exact hled
      · intro h' sb r; dsimp only; exact wpAny_pure (hQ _ h' sb r)
    · refine wpAny_bind (wpAny_pure ?_)
      simp only [↓reduceIte]
      refine setQ_tail (L := addU L k) ?_ ho hex hd g1 nd1 m1 hb1 hf1 hr1 hled ?_
      · intro b s₁ Q' q; cases b <;> first | exact wpAny_pure q | exact wpAny_rule q
      · intro h' sb r; dsimp only; exact wpAny_pure (hQ _ h' sb r)
theorem SetQ.at {h h' : Heap} (R : SetQ P w h a L) (k : ∀ o, h.get? a = some o → h'.get? a = some o) : SetQ P w h' a L := by
  obtain ⟨o, es, ep, t, ho, r⟩ := R
  exact ⟨o, es, ep, t, k o ho, r⟩
theorem setQ_fresh {h : Heap} (ho : h.get? a = some { cls := .type "set", dict := none, data := .set #[] 0 (.fresh 0 0 (!w.params.followText "set-order")) }) : SetQ P w h a [] := by
  refine ⟨_, #[], 0, _, ho, ⟨rfl, rfl, rfl⟩, rfl, fun e he => by simp at he, by simp, by simp, by decide, by rfl, ?_, ?_⟩
  · exact List.Pairwise.nil
  · cases hb : w.params.followText "set-order" with
    | true => exact .inl rfl
    | false => exact .inr rfl
theorem set_update_keys {I : Addr} {fp wr : List Addr} {G : Array GenState → Array GenState → Prop} {n : Nat} {Pv : Nat → Value → Prop} {St : Nat → Shared → Prop} {R : Result → Shared → Prop}
    (W : WalksS P w A.in1 I fp wr G n Pv St) (S : Addr) (hSf : S ∉ fp) (ks : List Key) (hn : n = ks.length) (hfew : ks.length + 1 < scanBound) (hval : ∀ i v, Pv i v → ∃ k, ks[i]? = some k ∧ RelV (kV k) v)
    (h0 : Heap) (hS0 : h0.get? S = none) (hw0 : ∀ b ∈ wr, h0.get? b = none) :
    ∀ (k i : Nat) (s : Shared), n - i = k → i ≤ n → St i s → (∀ b o, h0.get? b = some o → s.heap.get? b = some o) → SetQ P w s.heap S (uniq (ks.take i)) →
      (∀ s', Moved (S :: wr) G s s' → SetQ P w s'.heap S (uniq ks) → (∀ b o, h0.get? b = some o → s'.heap.get? b = some o) → R (.ok (.ret .none)) s') →
      codeAny (model P w) A (.builtin "set.update.loop" ⟨[.ref S, .ref I], []⟩) R s := by
  have hSw : S ∉ wr := fun h => hSf (W.sub _ h)
  have hsub : ∀ b ∈ wr, b ∈ S :: wr := fun b hb => List.mem_cons_of_mem _ hb
  have keepM : ∀ {s s' : Shared}, Moved wr G s s' → (∀ b o, h0.get? b = some o → s.heap.get? b = some o) → ∀ b o, h0.get? b = some o → s'.heap.get? b = some o := fun hm hkp b o e =>
    hm.heap b o (fun hb => by rw [hw0 b hb] at e; cases e) (hkp b o e)
  intro k
  induction k with
  | zero =>
    intro i s hk' hi hst hkp hS hR
    have hin : i = n := by omega
    subst hin
    refine codeAny_builtin F.entry_set_update_loop ?_
    rw [Around.under_plainId F.plain_set_update_loop _]
    show wpAny _ A.in1 (pyNext (.ref I) >>= _) _ _ s
    refine wpAny_bind (W.done s _ _ hst fun s' hm => ?_)
    show wpAny _ A.in1 (ret Value.none) _ _ s'
    have hkp' := keepM hm hkp
    rw [hn, List.take_length] at hS
    exact wpAny_pure (hR s' (hm.mono hsub) (hS.at fun o e => hm.heap S o hSw e) hkp')
  | succ k ih =>
    intro i s hk' hi hst hkp hS hR
    have hlt : i < n := by omega
    refine codeAny_builtin F.entry_set_update_loop ?_
    rw [Around.under_plainId F.plain_set_update_loop _]
    show wpAny _ A.in1 (pyNext (.ref I) >>= _) _ _ s
    refine wpAny_bind (W.item i s _ _ hlt hst fun v s' hP hst' hm => ?_)
    obtain ⟨kk, hp, rv⟩ := hval i v hP
    have hkp' := keepM hm hkp
    have hS' : SetQ P w s'.heap S (uniq (ks.take i)) := hS.at fun o e => hm.heap S o hSw e
    show wpAny _ A.in1 (holding [v] (setAdd S v) >>= _) _ _ s'
    refine wpAny_bind (wpAny_holding ?_)
    unfold setAdd
    refine wpAny_holding ?_
    refine wpAny_bind ((mixKind P w).pyHash (kV_is rv) ?_)
    have hlen : (uniq (ks.take i)).length ≤ ks.length := Nat.le_trans (uniq_len _) (by rw [List.length_take]; omega)
    refine setQ_add (s := { s' with toks := s'.toks + 1 }) hS' rv (by omega) fun b h' hsb hS2 => ?_
    have hkp2 : ∀ b o, h0.get? b = some o → h'.get? b = some o := fun b o e => (hsb.2 b (fun z => by rw [z, hS0] at e; cases e)).trans (hkp' b o e)
    refine wpAny_pure ⟨plainId_quiet F.plain_set_update_loop _, ih (i + 1) _ (by omega) hlt (W.frame _ s' _ _ hst' (Nat.le_add_right _ _) fun b hb o e => ?_) hkp2 (by rw [uniq_next hp]; exact hS2) fun s'' hm'' hS'' hkp'' => ?_⟩
    · rw [hsb.2 b (fun h : b = S => hSf (by rw [← h]; exact hb))]; exact e
    · refine hR s'' (Moved.trans W.gtrans ((hm.mono hsub).then_heap (Nat.le_add_right _ _) fun b o hb e => ?_) hm'') hS'' hkp''
      rw [hsb.2 b (fun h : b = S => hb (by rw [h]; exact List.mem_cons_self))]; exact e

/-- set(xs) of a list -/
theorem call_setQL {l : Addr} {items : Array Value} (ks : List Key) {Q : Value → Shared → Prop} (hh : A.handled = none) (hl : s.heap.IsList l items) (hit : Vals (ks.map kV) items.toList) (hfew : ks.length + 1 < scanBound)
    (h : ∀ (h' : Heap) (tk : Nat), SetQ P w h' s.heap.objs.size (uniq ks) → (∀ b o, s.heap.get? b = some o → h'.get? b = some o) → Q (.ref s.heap.objs.size) { s with heap := h', toks := tk }) :
    wpAny (model P w) A (call (.type "set") [.ref l]) Q E s := by
  have hisz : items.size = ks.length := by
    have q := hit.length
    simp only [List.length_map, Array.length_toList] at q
    exact q.symm
  obtain ⟨c, tl, hmro⟩ := PySem.F.called_set.mro
  have hmade := PySem.F.called_set.made
  have hsub := PySem.F.called_set.sub
  refine wpAny_call (codeAny_of_tree ?_)
  show wpAny _ _ (callAny (.type "set") _) _ _ _
  refine wpAny_pure ⟨Code.quiet_builtin _ (by decide +kernel), codeAny_builtin PySem.F.entry_type_call ?_⟩
  rw [Around.under_plain (weight_type_call_type "set" [.ref l] []) rfl]
  have h1 := PySem.F.called_set.notType
  have h2 := PySem.F.called_set.canCreate
  have hct := PySem.F.typeCall_set_1 (.ref l)
  repeat (any_goals (first | assumption | wp_step))

  refine codeAny_mono (code_set_led1 (.ref l) (E := E) (Q₁ := fun obj s₁ => obj = .ref s.heap.objs.size ∧ s₁ = { s with heap := s.heap.push { cls := .type "set", dict := none, data := .set #[] 0 (.fresh 0 0 (!w.params.followText "set-order")) } }) ⟨rfl, rfl⟩) fun r s₁ hr => ?_
  cases r with
  | error e => exact hr
  | ok fl =>
    cases fl with
    | ret obj =>
      obtain ⟨rfl, rfl⟩ := hr
      have hS : (s.heap.push { cls := .type "set", dict := none, data := .set #[] 0 (.fresh 0 0 (!w.params.followText "set-order")) }).get? s.heap.objs.size = some { cls := .type "set", dict := none, data := .set #[] 0 (.fresh 0 0 (!w.params.followText "set-order")) } := Heap.get?_push_size _ rfl
      have hT : Shared.TypeIs { s with heap := s.heap.push { cls := .type "set", dict := none, data := .set #[] 0 (.fresh 0 0 (!w.params.followText "set-order")) } } (.ref s.heap.objs.size) "set" := ⟨_, hS, rfl⟩
      have hli := PySem.F.called_set.init.lookup
      have hbi := PySem.F.called_set.init.bind (.ref s.heap.objs.size)
      repeat (any_goals (first | assumption | wp_step))

      refine codeAny_mono (codeAny_call_builtin (R := wants (fun r s₂ => r = .none ∧ ∃ h' tk, s₂ = { s with heap := h', toks := tk } ∧ SetQ P w h' s.heap.objs.size (uniq ks) ∧
          (∀ b o, s.heap.get? b = some o → h'.get? b = some o)) E) PySem.F.called_set.init.plain PySem.F.entry_set_init (check_set_init_1 hT ?_)) fun r₂ s₂ hr₂ => ?_
      · obtain ⟨ol, hol, hcl, nl, hdl⟩ := hl
        obtain ⟨ocls, odict, odata, oslots⟩ := ol
        simp only at hcl hdl
        subst hcl; subst hdl
        have hol' : (s.heap.push { cls := .type "set", dict := none, data := .set #[] 0 (.fresh 0 0 (!w.params.followText "set-order")) }).get? l = some { cls := .type "list", dict := odict, data := .seq items nl, slots := oslots } := Heap.get?_push_of_some _ hol
        have hsls := PySem.F.sub_list_set
        have hslf := PySem.F.sub_list_frozenset
        have hne : (Value.type "list" == Value.type "dict") = false := by decide
        have hl1 : (s.heap.push { cls := .type "set", dict := none, data := .set #[] 0 (.fresh 0 0 (!w.params.followText "set-order")) }).IsList l items := ⟨_, hol', rfl, nl, rfl⟩
        unfold Builtin.«set.__init__» noKeywords Builtin.Frozenset.updateFrom
        generalize hPI : pyIter = PI
        wp_walk
        subst hPI

        refine wpAny_pyIter_list hl1 ?_
        refine wpAny_bind (wpAny_runValue ?_)
        have hlS : l < s.heap.objs.size := Heap.lt_size hol
        have hh3 : A.in1.in1.in1.handled = none := by simp [hh]
        have hneI : l ≠ (s.heap.push { cls := .type "set", dict := none, data := .set #[] 0 (.fresh 0 0 (!w.params.followText "set-order")) }).objs.size := by
          rw [Heap.size_push]; exact Nat.ne_of_lt (Nat.lt_succ_of_lt hlS)
        have hSf : s.heap.objs.size ∉ [(s.heap.push { cls := .type "set", dict := none, data := .set #[] 0 (.fresh 0 0 (!w.params.followText "set-order")) }).objs.size, l] := by
          rw [Heap.size_push]; simp only [List.mem_cons, List.mem_singleton, List.not_mem_nil, or_false, not_or]
          exact ⟨Nat.ne_of_lt (Nat.lt_succ_self _), Nat.ne_of_gt hlS⟩
        have hval : ∀ (i : Nat) (v : Value), items[i]? = some v → ∃ k, ks[i]? = some k ∧ RelV (kV k) v := fun i v hv => by
          have hi : i < items.size := (Array.getElem?_eq_some_iff.mp hv).1
          have hk : ks[i]? = some ks[i] := List.getElem?_eq_getElem (by rw [← hisz]; exact hi)
          obtain ⟨u, hu, ru⟩ := hit.get (i := i) (x := kV ks[i]) (by rw [List.getElem?_map, hk]; rfl)
          rw [Array.getElem?_toList, hv] at hu
          cases hu
          exact ⟨_, hk, ru⟩
        have none_of : ∀ b, s.heap.objs.size ≤ b → s.heap.get? b = none := fun b hb => by
          cases q : s.heap.get? b with
          | none => rfl
          | some o => exact absurd (Nat.lt_of_lt_of_le (Heap.lt_size q) hb) (Nat.lt_irrefl _)
        refine set_update_keys ((Walks.list hh3 _ l hneI items).toS) s.heap.objs.size
          hSf ks hisz hfew hval s.heap (none_of _ (Nat.le_refl _)) (fun b hb => none_of b (by
            rw [List.mem_singleton.mp hb, Heap.size_push]
            exact Nat.le_succ _)) (items.size - 0) 0 _ (by omega) (Nat.zero_le _)
          ⟨⟨_, Heap.get?_push_size _ rfl, rfl, rfl⟩, (hl1.push _)⟩ (fun b o e => Heap.get?_push_of_some _ (Heap.get?_push_of_some _ e)) ?hS0 ?hR
        case hS0 =>
          have hget : ((s.heap.push { cls := .type "set", dict := none, data := .set #[] 0 (.fresh 0 0 (!w.params.followText "set-order")) }).push { cls := .type "list_iterator", data := .fields #[.ref l, .int 0 0] }).get? s.heap.objs.size
              = some { cls := .type "set", dict := none, data := .set #[] 0 (.fresh 0 0 (!w.params.followText "set-order")) } := Heap.get?_push_of_some _ hS
          exact setQ_fresh hget
        case hR =>
          intro s' hm hS' hkp
          obtain ⟨h', g2, d', tk', os'⟩ := s'
          have eg : g2 = s.gens := hm.gens
          have ed : d' = s.drawn := hm.drawn
          have eo : os' = s.os := hm.os
          subst eg; subst ed; subst eo
          show wpAny _ _ _ _ _ _
          refine wpAny_pure ?_
          show wpAny _ _ (ret Value.none) _ _ _
          exact wpAny_pure ⟨rfl, h', tk', rfl, hS', hkp⟩

      · cases r₂ with
        | error e => exact hr₂
        | ok fl₂ =>
          cases fl₂ with
          | ret r =>
            obtain ⟨rfl, h', tk, rfl, hS', hk'⟩ := hr₂
            repeat (any_goals (first | assumption | wp_step))
            exact h _ _ hS' hk'
          | _ => exact hr₂.elim
    | _ => exact hr.elim

/-- set(xs) of a tuple -/
theorem call_setQT {l : Addr} {items : Array Value} (ks : List Key) {Q : Value → Shared → Prop} (hh : A.handled = none) (hl : s.heap.IsTuple l items) (hit : Vals (ks.map kV) items.toList) (hfew : ks.length + 1 < scanBound)
    (h : ∀ (h' : Heap) (tk : Nat), SetQ P w h' s.heap.objs.size (uniq ks) → (∀ b o, s.heap.get? b = some o → h'.get? b = some o) → Q (.ref s.heap.objs.size) { s with heap := h', toks := tk }) :
    wpAny (model P w) A (call (.type "set") [.ref l]) Q E s := by
  have hisz : items.size = ks.length := by
    have q := hit.length
    simp only [List.length_map, Array.length_toList] at q
    exact q.symm
  obtain ⟨c, tl, hmro⟩ := PySem.F.called_set.mro
  have hmade := PySem.F.called_set.made
  have hsub := PySem.F.called_set.sub
  refine wpAny_call (codeAny_of_tree ?_)
  show wpAny _ _ (callAny (.type "set") _) _ _ _
  refine wpAny_pure ⟨Code.quiet_builtin _ (by decide +kernel), codeAny_builtin PySem.F.entry_type_call ?_⟩
  rw [Around.under_plain (weight_type_call_type "set" [.ref l] []) rfl]
  have h1 := PySem.F.called_set.notType
  have h2 := PySem.F.called_set.canCreate
  have hct := PySem.F.typeCall_set_1 (.ref l)
  repeat (any_goals (first | assumption | wp_step))

  refine codeAny_mono (code_set_led1 (.ref l) (E := E) (Q₁ := fun obj s₁ => obj = .ref s.heap.objs.size ∧ s₁ = { s with heap := s.heap.push { cls := .type "set", dict := none, data := .set #[] 0 (.fresh 0 0 (!w.params.followText "set-order")) } }) ⟨rfl, rfl⟩) fun r s₁ hr => ?_
  cases r with
  | error e => exact hr
  | ok fl =>
    cases fl with
    | ret obj =>
      obtain ⟨rfl, rfl⟩ := hr
      have hS : (s.heap.push { cls := .type "set", dict := none, data := .set #[] 0 (.fresh 0 0 (!w.params.followText "set-order")) }).get? s.heap.objs.size = some { cls := .type "set", dict := none, data := .set #[] 0 (.fresh 0 0 (!w.params.followText "set-order")) } := Heap.get?_push_size _ rfl
      have hT : Shared.TypeIs { s with heap := s.heap.push { cls := .type "set", dict := none, data := .set #[] 0 (.fresh 0 0 (!w.params.followText "set-order")) } } (.ref s.heap.objs.size) "set" := ⟨_, hS, rfl⟩
      have hli := PySem.F.called_set.init.lookup
      have hbi := PySem.F.called_set.init.bind (.ref s.heap.objs.size)
      repeat (any_goals (first | assumption | wp_step))

      refine codeAny_mono (codeAny_call_builtin (R := wants (fun r s₂ => r = .none ∧ ∃ h' tk, s₂ = { s with heap := h', toks := tk } ∧ SetQ P w h' s.heap.objs.size (uniq ks) ∧
          (∀ b o, s.heap.get? b = some o → h'.get? b = some o)) E) PySem.F.called_set.init.plain PySem.F.entry_set_init (check_set_init_1 hT ?_)) fun r₂ s₂ hr₂ => ?_
      · obtain ⟨ol, hol, hcl, nl, hdl⟩ := hl
        obtain ⟨ocls, odict, odata, oslots⟩ := ol
        simp only at hcl hdl
        subst hcl; subst hdl
        have hol' : (s.heap.push { cls := .type "set", dict := none, data := .set #[] 0 (.fresh 0 0 (!w.params.followText "set-order")) }).get? l = some { cls := .type "tuple", dict := odict, data := .seq items nl, slots := oslots } := Heap.get?_push_of_some _ hol
        have hsls := PySem.F.sub_tuple_set
        have hslf := PySem.F.sub_tuple_frozenset
        have hne : (Value.type "tuple" == Value.type "dict") = false := by decide
        have hl1 : (s.heap.push { cls := .type "set", dict := none, data := .set #[] 0 (.fresh 0 0 (!w.params.followText "set-order")) }).IsTuple l items := ⟨_, hol', rfl, nl, rfl⟩
        unfold Builtin.«set.__init__» noKeywords Builtin.Frozenset.updateFrom
        generalize hPI : pyIter = PI
        wp_walk
        subst hPI

        refine wpAny_pyIter_tuple hl1 ?_
        refine wpAny_bind (wpAny_runValue ?_)
        have hlS : l < s.heap.objs.size := Heap.lt_size hol
        have hh3 : A.in1.in1.in1.handled = none := by simp [hh]
        have hneI : l ≠ (s.heap.push { cls := .type "set", dict := none, data := .set #[] 0 (.fresh 0 0 (!w.params.followText "set-order")) }).objs.size := by
          rw [Heap.size_push]; exact Nat.ne_of_lt (Nat.lt_succ_of_lt hlS)
        have hSf : s.heap.objs.size ∉ [(s.heap.push { cls := .type "set", dict := none, data := .set #[] 0 (.fresh 0 0 (!w.params.followText "set-order")) }).objs.size, l] := by
          rw [Heap.size_push]; simp only [List.mem_cons, List.mem_singleton, List.not_mem_nil, or_false, not_or]
          exact ⟨Nat.ne_of_lt (Nat.lt_succ_self _), Nat.ne_of_gt hlS⟩
        have hval : ∀ (i : Nat) (v : Value), items[i]? = some v → ∃ k, ks[i]? = some k ∧ RelV (kV k) v := fun i v hv => by
          have hi : i < items.size := (Array.getElem?_eq_some_iff.mp hv).1
          have hk : ks[i]? = some ks[i] := List.getElem?_eq_getElem (by rw [← hisz]; exact hi)
          obtain ⟨u, hu, ru⟩ := hit.get (i := i) (x := kV ks[i]) (by rw [List.getElem?_map, hk]; rfl)
          rw [Array.getElem?_toList, hv] at hu
          cases hu
          exact ⟨_, hk, ru⟩
        have none_of : ∀ b, s.heap.objs.size ≤ b → s.heap.get? b = none := fun b hb => by
          cases q : s.heap.get? b with
          | none => rfl
          | some o => exact absurd (Nat.lt_of_lt_of_le (Heap.lt_size q) hb) (Nat.lt_irrefl _)
        refine set_update_keys ((Walks.tuple hh3 _ l hneI items).toS) s.heap.objs.size
          hSf ks hisz hfew hval s.heap (none_of _ (Nat.le_refl _)) (fun b hb => none_of b (by
            rw [List.mem_singleton.mp hb, Heap.size_push]
            exact Nat.le_succ _)) (items.size - 0) 0 _ (by omega) (Nat.zero_le _)
          ⟨⟨_, Heap.get?_push_size _ rfl, rfl, rfl⟩, (hl1.push _)⟩ (fun b o e => Heap.get?_push_of_some _ (Heap.get?_push_of_some _ e)) ?hS0 ?hR
        case hS0 =>
          have hget : ((s.heap.push { cls := .type "set", dict := none, data := .set #[] 0 (.fresh 0 0 (!w.params.followText "set-order")) }).push { cls := .type "tuple_iterator", data := .fields #[.ref l, .int 0 0] }).get? s.heap.objs.size
              = some { cls := .type "set", dict := none, data := .set #[] 0 (.fresh 0 0 (!w.params.followText "set-order")) } := Heap.get?_push_of_some _ hS
          exact setQ_fresh hget
        case hR =>
          intro s' hm hS' hkp
          obtain ⟨h', g2, d', tk', os'⟩ := s'
          have eg : g2 = s.gens := hm.gens
          have ed : d' = s.drawn := hm.drawn
          have eo : os' = s.os := hm.os
          subst eg; subst ed; subst eo
          show wpAny _ _ _ _ _ _
          refine wpAny_pure ?_
          show wpAny _ _ (ret Value.none) _ _ _
          exact wpAny_pure ⟨rfl, h', tk', rfl, hS', hkp⟩

      · cases r₂ with
        | error e => exact hr₂
        | ok fl₂ =>
          cases fl₂ with
          | ret r =>
            obtain ⟨rfl, h', tk, rfl, hS', hk'⟩ := hr₂
            repeat (any_goals (first | assumption | wp_step))
            exact h _ _ hS' hk'
          | _ => exact hr₂.elim
    | _ => exact hr.elim

/-! ### sorted of it -/
def getI : Key → Int
  | .inl i => i
  | .inr _ => 0
def getS : Key → Str
  | .inr x => x
  | .inl _ => Str.empty
theorem keyIs_int {e : Int × Value} {n : Int} (g : GoodQ P w e) (h : kOf e.2 = .inl n) : ∃ t, e.2 = .int n t := by
  obtain ⟨k, h1, _, h3, _⟩ := g
  rw [h] at h3
  subst h3
  rcases keyIs_shape (show L2.keyIs (Sum.inl n) e.2 = true from h1) with ⟨i, t, e1, e2⟩ | ⟨x, t, e1, e2⟩
  · cases e1
    exact ⟨t, e2⟩
  · cases e1
theorem keyIs_str {e : Int × Value} {n : Str} (g : GoodQ P w e) (h : kOf e.2 = .inr n) : ∃ t, e.2 = .str n t := by
  obtain ⟨k, h1, _, h3, _⟩ := g
  rw [h] at h3
  subst h3
  rcases keyIs_shape (show L2.keyIs (Sum.inr n) e.2 = true from h1) with ⟨i, t, e1, e2⟩ | ⟨x, t, e1, e2⟩
  · cases e1
  · cases e1
    exact ⟨t, e2⟩
theorem ints_have : ∀ (l : List Value), (∀ v ∈ l, ∃ k tk, v = Value.int k tk) → IntsAre l (l.map fun v => getI (kOf v))
  | [], _ => .nil
  | v :: l, h => by
    obtain ⟨k, tk, rfl⟩ := h v List.mem_cons_self
    exact .cons k tk (ints_have l fun u hu => h u (List.mem_cons_of_mem _ hu))
theorem strs_have : ∀ (l : List Value), (∀ v ∈ l, ∃ k tk, v = Value.str k tk) → StrsAre l (l.map fun v => getS (kOf v))
  | [], _ => .nil
  | v :: l, h => by
    obtain ⟨k, tk, rfl⟩ := h v List.mem_cons_self
    exact .cons k tk (strs_have l fun u hu => h u (List.mem_cons_of_mem _ hu))
theorem sortedQ_ints {ns : List Int} {Q : Value → Shared → Prop} (R : SetQ P w s.heap a (ns.map Sum.inl)) (hh : A.handled = none) (hz : ns.length ≤ sizeLine)
    (hQ : ∀ s' p (out : Array Value) (c : Nat) (ns' : List Int), (∀ b o, s.heap.get? b = some o → s'.heap.get? b = some o) → s'.gens = s.gens → s'.os = s.os → s.heap.objs.size ≤ p →
      s'.heap.get? p = some (seqObj "list" out c) → IntsAre out.toList ns' → ns'.Perm ns → ns'.Pairwise (· ≤ ·) → Q (.ref p) s') :
    wpAny (model P w) A (call (.builtin "sorted") [.ref a]) Q E s := by
  obtain ⟨o, es, ep, t, ho, hex, hd, g, nd, hm, hb, hf, hr, hl⟩ := R
  refine Calls.call_function_entry kind_sorted plain_sorted entry_sorted (args_sorted1 _) ?_
  unfold Builtin.«sorted»
  refine wpAny_bind (m := checkCount "sorted" 1 1 _) (wpAny_pure ?_)
  refine wpAny_bind (collect_set (A := A.in1) hh ⟨o, ho, hex.1, hd⟩ hf hb hr hl fun s1 vs k1 hz1 g1 o1 pm => ?_)
  have hall : ∀ v ∈ vs, ∃ k tk, v = Value.int k tk := fun v hv => by
    obtain ⟨e, he, q⟩ := List.mem_map.mp (pm.mem_iff.mp hv)
    obtain ⟨n, hn, e2⟩ := List.mem_map.mp (hm.mem_iff.mp (List.mem_map.mpr ⟨e, he, rfl⟩))
    obtain ⟨t, e3⟩ := keyIs_int (g e he) e2.symm
    exact ⟨n, t, q.symm.trans e3⟩
  have hI := ints_have vs hall
  have pk : (vs.map fun v => getI (kOf v)).Perm ns := by
    have q := pm.map fun v => getI (kOf v)
    rw [List.map_map] at q
    have q2 := hm.map getI
    rw [List.map_map, List.map_map] at q2
    have e : ns.map (getI ∘ Sum.inl) = ns := by
      rw [show (getI ∘ Sum.inl) = id from rfl, List.map_id]
    rw [e] at q2
    exact q.trans q2
  have hvl : vs.length ≤ sizeLine := by
    have := pk.length_eq
    rw [List.length_map] at this
    omega
  refine wpAny_bind (wpAny_newList ?_ hvl)
  have hoL : (s1.heap.push (seqObj "list" vs.toArray 0)).get? s1.heap.objs.size = some (seqObj "list" vs.toArray 0) := Heap.get?_push_size _ rfl
  refine wpAny_bind (wpAny_holding (wpAny_call_entry slot_list_sort ⟨_, hoL, rfl⟩ entry_list_sort (list_sort_treeAny hoL hI hvl fun out ns' a1 a2 a3 => ⟨_, rfl, ?_⟩) (args_list_sort _)))
  obtain ⟨c, hc⟩ := sortedHeap_at (vs := vs) (out := out) hoL
  refine wpAny_pure ⟨_, rfl, hQ _ s1.heap.objs.size out c ns' (fun b u e => ?_) g1 o1 hz1 hc a1 (a2.trans pk) a3⟩
  have q := k1 b u e
  have hlt := Heap.lt_size q
  show (sortedHeap (s1.heap.push (seqObj "list" vs.toArray 0)) s1.heap.objs.size vs out).get? b = some u
  rw [sortedHeap_old (Nat.ne_of_lt hlt) (by rw [size_push']; exact Nat.lt_succ_of_lt hlt)]
  exact Heap.get?_push_of_some _ q
theorem sortedQ_strs {ns : List Str} {Q : Value → Shared → Prop} (R : SetQ P w s.heap a (ns.map Sum.inr)) (hh : A.handled = none) (hz : ns.length ≤ sizeLine)
    (hQ : ∀ s' p (out : Array Value) (c : Nat) (ns' : List Str), (∀ b o, s.heap.get? b = some o → s'.heap.get? b = some o) → s'.gens = s.gens → s'.os = s.os → s.heap.objs.size ≤ p →
      s'.heap.get? p = some (seqObj "list" out c) → StrsAre out.toList ns' → ns'.Perm ns → sortedS ns' = true → Q (.ref p) s') :
    wpAny (model P w) A (call (.builtin "sorted") [.ref a]) Q E s := by
  obtain ⟨o, es, ep, t, ho, hex, hd, g, nd, hm, hb, hf, hr, hl⟩ := R
  refine Calls.call_function_entry kind_sorted plain_sorted entry_sorted (args_sorted1 _) ?_
  unfold Builtin.«sorted»
  refine wpAny_bind (m := checkCount "sorted" 1 1 _) (wpAny_pure ?_)
  refine wpAny_bind (collect_set (A := A.in1) hh ⟨o, ho, hex.1, hd⟩ hf hb hr hl fun s1 vs k1 hz1 g1 o1 pm => ?_)
  have hall : ∀ v ∈ vs, ∃ k tk, v = Value.str k tk := fun v hv => by
    obtain ⟨e, he, q⟩ := List.mem_map.mp (pm.mem_iff.mp hv)
    obtain ⟨n, hn, e2⟩ := List.mem_map.mp (hm.mem_iff.mp (List.mem_map.mpr ⟨e, he, rfl⟩))
    obtain ⟨t, e3⟩ := keyIs_str (g e he) e2.symm
    exact ⟨n, t, q.symm.trans e3⟩
  have hI := strs_have vs hall
  have pk : (vs.map fun v => getS (kOf v)).Perm ns := by
    have q := pm.map fun v => getS (kOf v)
    rw [List.map_map] at q
    have q2 := hm.map getS
    rw [List.map_map, List.map_map] at q2
    have e : ns.map (getS ∘ Sum.inr) = ns := by
      rw [show (getS ∘ Sum.inr) = id from rfl, List.map_id]
    rw [e] at q2
    exact q.trans q2
  have hvl : vs.length ≤ sizeLine := by
    have := pk.length_eq
    rw [List.length_map] at this
    omega
  refine wpAny_bind (wpAny_newList ?_ hvl)
  have hoL : (s1.heap.push (seqObj "list" vs.toArray 0)).get? s1.heap.objs.size = some (seqObj "list" vs.toArray 0) := Heap.get?_push_size _ rfl
  refine wpAny_bind (wpAny_holding (wpAny_call_entry slot_list_sort ⟨_, hoL, rfl⟩ entry_list_sort (list_sort_treeKAny PyProof.Rows.strKind_oneLt hoL hI.keysOf (fun v₁ v₂ rest e => keyKind_strs (by rw [← e]; exact hI)) hvl fun st' hp hs => ⟨_, rfl, ?_⟩) (args_list_sort _)))
  obtain ⟨ns', a1, a2, a3⟩ := sorted_out_str hI hp hs
  obtain ⟨c, hc⟩ := sortedHeap_at (vs := vs) (out := (arrOf st').map (·.2)) hoL
  refine wpAny_pure ⟨_, rfl, hQ _ s1.heap.objs.size _ c ns' (fun b u e => ?_) g1 o1 hz1 hc a1 (a2.trans pk) a3⟩
  have q := k1 b u e
  have hlt := Heap.lt_size q
  show (sortedHeap (s1.heap.push (seqObj "list" vs.toArray 0)) s1.heap.objs.size vs ((arrOf st').map (·.2))).get? b = some u
  rw [sortedHeap_old (Nat.ne_of_lt hlt) (by rw [size_push']; exact Nat.lt_succ_of_lt hlt)]
  exact Heap.get?_push_of_some _ q
end
/-! ### the rule -/
def sortedSet (d : D) (S : Sto) : Option (List D) := match itemsOf S d with
  | some xs => match intsOf xs with
    | some is => if is.length < 1000 then some (((uniq is).mergeSort leI).map .int) else none
    | none => match strsOf xs with
      | some ys => if ys.length < 1000 then some (((uniq ys).mergeSort leS).map .str) else none
      | none => none
  | none => none
def mSortedSet (ma : MV) : MV := fun e S => (ma e S).bind fun d S1 => match sortedSet d S1 with
  | some xs => .ok (.loc S1.length) (S1 ++ [.lst true xs])
  | none => .stuck
section
variable {X : Cx} {W : WX} {a : Expr} {ma : MV} {p p2 q pos : Pos}
theorem vals_ints_key {ns : List Int} {us : List Value} (r : Vals (ns.map V.int) us) : Vals ((ns.map Sum.inl).map kV) us := by
  rw [List.map_map]
  exact r
theorem vals_strs_key {ns : List Str} {us : List Value} (r : Vals (ns.map V.str) us) : Vals ((ns.map Sum.inr).map kV) us := by
  rw [List.map_map]
  exact r
/-- set(a) with the items' values told -/
theorem set_any_call {pins : List (Addr × Obj)} {σ : St} {H : Hp} {s : Shared} {l : Addr} {ks : List Key} {xs : List V} {Q : Value → Shared → Prop} {E : Value → Shared → Prop} {A : Around} (I : Inv X pins σ H s) (hh : A.handled = none)
    (hq : SqL X.K H l xs ∨ SqT X.K H l xs) (hx : xs = ks.map kV) (hz : ks.length < 1000) (h : ∀ s', Inv X pins σ H s' → SetQ X.prog X.w s'.heap s.heap.objs.size (uniq ks) → Q (.ref s.heap.objs.size) s') : wpAny (model X.prog X.w) A (call (.type "set") [.ref l]) Q E s := by
  subst hx
  have hb : ks.length + 1 < scanBound := by unfold scanBound; omega
  rcases hq with hq | hq
  · obtain ⟨its, r, pl, _⟩ := I.list hq
    exact call_setQL ks hh pl.isList (by simpa using r) hb fun h' tk hS hk => h _ (I.kept (t' := tk) hk) hS
  · obtain ⟨its, r, pl, _⟩ := I.tuple hq
    exact call_setQT ks hh (show s.heap.IsTuple l its.toArray from pl) (by simpa using r) hb fun h' tk hS hk => h _ (I.kept (t' := tk) hk) hS
theorem me_sortedSet (hc : X.calm = true) (hg : Gl X "sorted") (hm : X.mg "sorted" = none) (hg2 : Gl X "set") (hm2 : X.mg "set" = none) (ha : PE X a (tM X.K X.mg W ma))
    (na : starEach [a] X.env = (false, eval a X.env) :: starEach [] X.env := by rfl) : PE X (.Call (.Name "sorted" p) [.Call (.Name "set" p2) [a] [] q] [] pos) (tM X.K X.mg W (mSortedSet ma)) := by
  refine ⟨fun pins s σ H Q I ⟨ρ, e, S, re, rs, g⟩ => ?_⟩
  refine Call_ (ld_blt I hg hm boot_sorted ?_)
  refine PyProof.Rows.callWith_builtin1 (PyProof.Rows.args_cons ?_ rfl) rfl rfl
  refine Call_ (ld_blt I hg2 hm2 boot_set ?_)
  refine PyProof.Rows.callWith_type1 (PyProof.Rows.args_cons (thn (ha.run pins s σ H (fun v H1 => ∃ (l : Addr) (xs : List V) (ρ1 : List Addr) (S1 : Sto), v = .ref l ∧ (SqL X.K H1 l xs ∨ SqT X.K H1 l xs) ∧ RS X.K X.mg ρ1 H1 S1 ∧
      ((∃ is : List Int, xs = is.map V.int ∧ is.length < 1000 ∧ Fin X.K X.mg ρ1 H1 (.loc S1.length) (S1 ++ [.lst true (((uniq is).mergeSort leI).map .int)]) Q) ∨
        ∃ ys : List Str, xs = ys.map V.str ∧ ys.length < 1000 ∧ Fin X.K X.mg ρ1 H1 (.loc S1.length) (S1 ++ [.lst true (((uniq ys).mergeSort leS).map .str)]) Q)) I ⟨ρ, e, S, re, rs, GoodG.bind g fun d S1 v H1 ρ1 _ p1 k1 rs1 r1 g1 => ?_⟩) fun v s1 ⟨x, H1, I1, r1, l, xs, ρ1, S1, ex, hq, rs1, h1⟩ => PyProof.Rows.args_nil ?_) na) na rfl
  · try dsimp only at g1
    split at g1
    · rename_i xs hs
      unfold sortedSet at hs
      split at hs
      · rename_i xs' hi
        obtain ⟨l, vs, rfl, hq, hv⟩ := items_seq rs1 r1 hi
        split at hs
        · rename_i is he
          split at hs
          · rename_i hz; cases hs
            exact ⟨l, vs, ρ1, S1, rfl, hq, rs1, .inl ⟨is, rvs_ints hv he, hz, fun v H' ρ' p k s r => g1 v H' ρ' p k s r⟩⟩
          · cases hs
        · split at hs
          · rename_i ys he
            split at hs
            · rename_i hz; cases hs
              exact ⟨l, vs, ρ1, S1, rfl, hq, rs1, .inr ⟨ys, rvs_strs hv he, hz, fun v H' ρ' p k s r => g1 v H' ρ' p k s r⟩⟩
            · cases hs
          · cases hs
      · cases hs
    · exact g1.elim
  · subst ex
    cases r1
    have hd := I1.ok.hd hc
    rcases h1 with ⟨is, e1, hz, fq⟩ | ⟨ys, e1, hz, fq⟩
    · refine set_any_call (ks := is.map Sum.inl) I1 hd hq (by rw [e1, List.map_map]; rfl) (by rw [List.length_map]; exact hz) fun s2 I2 hS => PyProof.Rows.args_nil ?_
      rw [uniq_map _ (fun a b h => Sum.inl.inj h)] at hS
      have hz2 : (uniq is).length ≤ sizeLine := Nat.le_trans (uniq_len is) (by rw [sizeLine_eq]; omega)
      refine sortedQ_ints hS hd hz2 fun s' pp out c ns' k1 g1 o1 hp ho hI pm pw => ?_
      have hlen : (ns'.map V.int).length ≤ sizeLine := by rw [List.length_map, pm.length_eq]; exact hz2
      have e2 := sortI_unique pm pw
      subst e2
      have hn : H1 pp = none := I2.hok.fresh hp
      have J : Inv X pins σ (upd H1 pp (.lst (((uniq is).mergeSort leI).map V.int))) { s2 with heap := s'.heap, gens := s'.gens, drawn := s'.drawn, toks := s'.toks } :=
        I2.call (ch := []) (Un.laid k1 hp hn) (I2.hok.laid k1 hp ⟨hlen, out.toList, c, vals_of_ints hI, ho⟩) (by rw [g1]; exact I2.bare) (fun _ z => nomatch z)
      have e : s' = { s2 with heap := s'.heap, gens := s'.gens, drawn := s'.drawn, toks := s'.toks } := by
        cases s'
        cases s2
        cases o1
        rfl
      rw [e]
      exact ⟨.ref pp, _, J, rfl, fq.lnew rs1 (ints_rvs _) hn⟩
    · refine set_any_call (ks := ys.map Sum.inr) I1 hd hq (by rw [e1, List.map_map]; rfl) (by rw [List.length_map]; exact hz) fun s2 I2 hS => PyProof.Rows.args_nil ?_
      rw [uniq_map _ (fun a b h => Sum.inr.inj h)] at hS
      have hz2 : (uniq ys).length ≤ sizeLine := Nat.le_trans (uniq_len ys) (by rw [sizeLine_eq]; omega)
      refine sortedQ_strs hS hd hz2 fun s' pp out c ns' k1 g1 o1 hp ho hI pm pw => ?_
      have hlen : (ns'.map V.str).length ≤ sizeLine := by rw [List.length_map, pm.length_eq]; exact hz2
      have e2 := sortS_unique pm pw
      subst e2
      have hn : H1 pp = none := I2.hok.fresh hp
      have J : Inv X pins σ (upd H1 pp (.lst (((uniq ys).mergeSort leS).map V.str))) { s2 with heap := s'.heap, gens := s'.gens, drawn := s'.drawn, toks := s'.toks } :=
        I2.call (ch := []) (Un.laid k1 hp hn) (I2.hok.laid k1 hp ⟨hlen, out.toList, c, vals_of_strs hI, ho⟩) (by rw [g1]; exact I2.bare) (fun _ z => nomatch z)
      have e : s' = { s2 with heap := s'.heap, gens := s'.gens, drawn := s'.drawn, toks := s'.toks } := by
        cases s'
        cases s2
        cases o1
        rfl
      rw [e]
      exact ⟨.ref pp, _, J, rfl, fq.lnew rs1 (strs_rvs _) hn⟩
end
end M2
end

section
set_option Elab.async false
set_option linter.all false
set_option maxRecDepth 100000
/-! M2: a module's dict, read with get; in of dicts. -/
namespace M2
open PySem PySem.Spec PyProof.Rows L2
set_option autoImplicit false
def KEnt (K : PySem.W.Frag) (mg : Str → Option Value) : List DictEntry → List (Str × D) → Prop
  | [], [] => True
  | e :: es, t :: ts => (∃ tk, e.key = .str t.1 tk) ∧ (∃ v, RelV v e.val ∧ ∀ ρ H, RV K mg ρ H t.2 v) ∧ KEnt K mg es ts
  | _, _ => False
structure KTab (K : PySem.W.Frag) (w : World) (mg : Str → Option Value) (x : Str) (tb : List (Str × D)) : Prop where
  ex : ∃ (p : Addr) (es : Array DictEntry) (n : Nat), mg x = some (.ref p) ∧ KDict K w p es n ∧ KEnt K mg es.toList tb
def getT (tb : List (Str × D)) (z : Str) : Option D := (tb.find? fun t => decide (t.1 = z)).map (·.2)
theorem isStrOf_str {x z : Str} {tk : Tok} : Value.isStrOf z (.str x tk) = decide (x = z) := by
  by_cases h : x = z
  · subst h
    rw [decide_eq_true rfl]
    simp [Value.isStrOf]
  · rw [decide_eq_false h]
    simp [Value.isStrOf, h]
theorem kent_get {K : PySem.W.Frag} {mg : Str → Option Value} (z : Str) : ∀ {es : List DictEntry} {tb : List (Str × D)}, KEnt K mg es tb → match getT tb z with
    | some d => ∃ u v, (es.find? fun e => Value.isStrOf z e.key).map (·.val) = some u ∧ RelV v u ∧ ∀ ρ H, RV K mg ρ H d v
    | none => (es.find? fun e => Value.isStrOf z e.key).map (·.val) = none
  | [], [], _ => rfl
  | e :: es, t :: ts, h => by
    obtain ⟨⟨tk, hk⟩, ⟨v, rv, hr⟩, h2⟩ := h
    have ih := kent_get z h2
    by_cases e1 : t.1 = z
    · have e2 : getT (t :: ts) z = some t.2 := by simp [getT, List.find?_cons, e1]
      rw [e2]
      refine ⟨e.val, v, ?_, rv, hr⟩
      rw [List.find?_cons, hk, isStrOf_str, decide_eq_true e1]
      rfl
    · have e2 : getT (t :: ts) z = getT ts z := by simp [getT, List.find?_cons, e1]
      have e3 : ((e :: es).find? fun e => Value.isStrOf z e.key) = es.find? fun e => Value.isStrOf z e.key := by
        rw [List.find?_cons, hk, isStrOf_str, decide_eq_false e1]
      rw [e2, e3]
      exact ih
def mKget (tb : List (Str × D)) (ma : MV) : MV := fun e S => (ma e S).bind fun d S1 => match d with
  | .str z => .ok ((getT tb z).getD .non) S1
  | _ => .stuck
section
variable {X : Cx} {W : WX} {e : Expr} {ma : MV} {p apos cpos pos : Pos} {x : Str} {tb : List (Str × D)}
theorem me_kget {j : Nat} (T : KTab X.K X.w X.mg x tb) (hg : Gl X x) (he : PE X e (tM X.K X.mg W ma)) (hdb : (x == ("__debug__" : Str)) = false := by decide)
    (hbase : attributeBase (.Name x p) "get" X.env (eval (.Name x p) X.env) = eval (.Name x p) X.env := by rfl)
    (hfew : ((backTo cpos (starEach [e, .Constant .none j pos] X.env)).all (fun x => !x.1) && (backToKw cpos (keywordEach [] X.env)).all (fun x => x.1.isSome)
      && decide (([e, .Constant .none j pos] : List Expr).length + ([] : List Keyword).length + (if ([] : List Keyword).isEmpty then 0 else 1) < 30)) = true := by rfl)
    (hline : (apos.endLine == cpos.line) = true := by rfl) (ht : backTo cpos (starEach [e, .Constant .none j pos] X.env) = [(false, eval e X.env), (false, eval (.Constant .none j pos) X.env)] := by rfl) :
    PE X (.Call (.Attribute (.Name x p) "get" apos) [e, .Constant .none j pos] [] cpos) (tM X.K X.mg W (mKget tb ma)) := by
  obtain ⟨dd, es, n, hm, D, hE⟩ := T.ex
  refine ⟨fun pins s σ H Q I ⟨ρ, en, S, re, rs, g⟩ => ?_⟩
  refine wpAny_Call_method hbase hfew hline PySem.F.plainAttrs_dict PySem.F.slot_dict_get PySem.F.type_dict_get (ld_glob I hg hm ?_ hdb)
  have hm' := PySem.W.mapOf_K (prog := X.prog) (w := X.w) I.kIn D.at_ D.lit
  refine ⟨hm'.typeIs, fun b q => ?_, ?_⟩
  · cases q
    exact ⟨_, I.kIn _ _ D.at_, rfl⟩
  rw [ht]
  refine Calls.callWith_builtin rfl (Calls.evalArgs_plain (Calls.spliced_cons (thn (he.run pins s σ H (fun v H' => ∃ z, v = .str z ∧ ∃ v, (match getT tb z with
      | some d => ∃ u, (es.toList.find? fun e => Value.isStrOf z e.key).map (·.val) = some u ∧ RelV v u
      | none => (es.toList.find? fun e => Value.isStrOf z e.key).map (·.val) = none ∧ v = .non) ∧ Q v H') I ⟨ρ, en, S, re, rs, GoodG.bind g fun d S1 v H1 ρ1 _ p1 k1 rs1 r1 g1 => ?_⟩) fun iv s2 ⟨y, H2, I2, ry, z, ey, v, hz, q⟩ =>
    Calls.spliced_cons (thn (pe_non.run pins s2 σ H2 (fun v H' => v = .non ∧ H' = H2) I2 ⟨rfl, rfl⟩) fun fv s3 ⟨z3, H3, I3, rz, ez, eH⟩ => Calls.spliced_nil ?_))))
  · try dsimp only at g1
    split at g1
    · rename_i z hz0
      cases r1
      have hz := kent_get z hE
      cases hg : getT tb z with
      | some d =>
        rw [hg] at hz g1
        obtain ⟨u, v, e1, rv, hr⟩ := hz
        exact ⟨z, rfl, v, by rw [hg]; exact ⟨u, e1, rv⟩, GoodG.ok g1 rs1 (hr ρ1 H1)⟩
      | none =>
        rw [hg] at hz g1
        exact ⟨z, rfl, .non, by rw [hg]; exact ⟨hz, rfl⟩, GoodG.ok g1 rs1 rfl⟩
    · exact g1.elim
  · subst ey; subst ez; subst eH
    cases rz
    obtain ⟨t, rfl⟩ := ry
    have hm3 := PySem.W.mapOf_K (prog := X.prog) (w := X.w) I3.kIn D.at_ D.lit
    have hf : findBy Value.isStrOf es z = (es.toList.find? fun e => Value.isStrOf z e.key).map (·.val) := by
      unfold findBy
      obtain ⟨l⟩ := es
      rw [List.find?_toArray]
    refine call_meetsIn PySem.F.slot_dict_get hm3.typeIs PySem.F.entry_dict_get (PySem.F.args_dict_get_3 _ _ _) (meets_dict_get_default (strKind X.prog X.w) dd (strKind_is X.prog X.w z t) D.low .none) ⟨_, hm3, ?_⟩
    show EP X pins σ Q ((findBy Value.isStrOf es z).getD .none) _
    rw [hf]
    cases hg : getT tb z with
    | some d =>
      rw [hg] at hz
      obtain ⟨u, e1, rv⟩ := hz
      rw [e1]
      exact ⟨v, H3, I3.tok _, rv, q⟩
    | none =>
      rw [hg] at hz
      obtain ⟨e1, rfl⟩ := hz
      rw [e1]
      exact ⟨.non, H3, I3.tok _, rfl, q⟩
end
/-! ### in, not in, of dicts as well -/
def inD2 (S : Sto) (a b : D) : Option Bool := match b with
  | .loc n => match S[n]? with
    | some (.dic kvs) => (keyD a).map fun k => (getD' kvs k).isSome
    | _ => inD S a b
  | _ => inD S a b
def oIn2 : Op2 := fun a b S => (inD2 S a b).map fun k => (.bl k, S)
def oNotIn2 : Op2 := fun a b S => (inD2 S a b).map fun k => (.bl !k, S)
section
variable {X : Cx}
theorem in2_case {a b : D} {S : Sto} {k : Bool} (h : inD2 S a b = some k) : inD S a b = some k ∨ ∃ n kvs key, b = .loc n ∧ S[n]? = some (.dic kvs) ∧ keyD a = some key ∧ k = (getD' kvs key).isSome := by
  unfold inD2 at h
  split at h
  · split at h
    · rename_i kvs e0
      obtain ⟨key, e1, e2⟩ := map_some h
      exact .inr ⟨_, kvs, key, rfl, e0, e1, e2.symm⟩
    · exact .inl h
  · exact .inl h
theorem rks_is {K : PySem.W.Frag} {mg : Str → Option Value} {ρ : List Addr} {H : Hp} {kvs : List (Key × D)} {xs : List (Key × V)} (k : Key) (h : RKs K mg ρ H kvs xs) : (valV xs k).isSome = (getD' kvs k).isSome := by
  have g := rks_get k h
  split at g
  · rename_i d e
    obtain ⟨v, e2, _⟩ := g
    rw [e, e2]; rfl
  · rename_i e
    rw [e, g]
    rfl
theorem om_in2 (hu : X.A.units + 65 < cLine) : OpR X (compareOp .In) (rM2 X.K X.mg oIn2) := by
  intro pins s σ H x y v u Q I rx ry ⟨ρ, S, d1, d2, d3, S3, rs, r1, r2, e, q⟩
  obtain ⟨k, e0, e3⟩ := map_some e
  rcases in2_case e0 with e1 | ⟨n, kvs, key, eb, e1, e2, ek⟩
  · exact om_in hu pins s σ H x y v u Q I rx ry ⟨ρ, S, d1, d2, d3, S3, rs, r1, r2, by unfold oIn; rw [e1]; exact congrArg some e3, q⟩
  · subst eb
    obtain ⟨a, rfl, pa⟩ := r2
    obtain ⟨xs, hx, hv⟩ := rs.at_ _ _ _ pa e1
    cases ry
    have ey := keyD_V r1 e2
    subst ey
    cases e3
    refine d_in (by omega) I (DGet.k (k := key) hx) rx fun s3 I3 => ⟨.bl (valV xs key).isSome, H, I3, rfl, ?_⟩
    rw [rks_is key hv, ← ek]
    exact q.now rs rfl
theorem om_notIn2 (hu : X.A.units + 65 < cLine) : OpR X (compareOp .NotIn) (rM2 X.K X.mg oNotIn2) := by
  intro pins s σ H x y v u Q I rx ry ⟨ρ, S, d1, d2, d3, S3, rs, r1, r2, e, q⟩
  obtain ⟨k, e0, e3⟩ := map_some e
  rcases in2_case e0 with e1 | ⟨n, kvs, key, eb, e1, e2, ek⟩
  · exact om_notIn hu pins s σ H x y v u Q I rx ry ⟨ρ, S, d1, d2, d3, S3, rs, r1, r2, by unfold oNotIn; rw [e1]; exact congrArg some e3, q⟩
  · subst eb
    obtain ⟨a, rfl, pa⟩ := r2
    obtain ⟨xs, hx, hv⟩ := rs.at_ _ _ _ pa e1
    cases ry
    have ey := keyD_V r1 e2
    subst ey
    cases e3
    refine d_notIn (by omega) I (DGet.k (k := key) hx) rx fun s3 I3 => ⟨.bl (!(valV xs key).isSome), H, I3, rfl, ?_⟩
    rw [rks_is key hv, ← ek]
    exact q.now rs rfl
end
end M2
end

section
set_option Elab.async false
set_option linter.all false
set_option maxRecDepth 100000
/-! M2: the head and the end. -/
namespace M2
open PySem PySem.Spec PyProof.Rows L2
set_option autoImplicit false
section
variable {K : PySem.W.Frag} {mg : Str → Option Value} {h : Heap}
theorem hasF_mk {x qual : Str} {st : Stmt} {ps : List Str} {f : Addr} {oc : Value} {od an : Option Addr} {osl : Array (Option Value)} {kV doc pm cdv ct : Value} (X : K.In h) (G : h.Ns mainGlobals mg)
    (b : ∀ (kV doc pm : Value) (an : Option Addr) (cdv ct : Value) (us : List Value), us.length = ps.length → bindArgs (PySem.W.fnOf x qual (defArgs st) (defBody st) (defScope st) .none kV doc pm an cdv ct) ⟨us, []⟩ = pure (ps.zip us))
    (a : PySem.W.nsIn K mainGlobals x = some (some (.ref f))) (l : K.lookup f = some ⟨oc, od, .func (PySem.W.fnOf x qual (defArgs st) (defBody st) (defScope st) .none kV doc pm an cdv ct), osl⟩)
    (c : PySem.W.codeIn K cdv qual = true) (k : PySem.W.keepIn K (.ref f) = true) : HasF K mg x qual st ps := by
  have F := fun_mk (st := st) l c k
  exact ⟨f, _, F, PySem.W.mg_of X G a, F.binds (ps := ps) b⟩
theorem gstr_mk {x z : Str} {v : Value} (X : K.In h) (G : h.Ns mainGlobals mg) (a : PySem.W.nsIn K mainGlobals x = some (some v)) (e : ∃ t, v = .str z t) : ∃ t, mg x = some (.str z t) := by
  obtain ⟨t, rfl⟩ := e
  exact ⟨t, PySem.W.mg_of X G a⟩
theorem gint_mk {x : Str} {z : Int} {v : Value} (X : K.In h) (G : h.Ns mainGlobals mg) (a : PySem.W.nsIn K mainGlobals x = some (some v)) (e : ∃ t, v = .int z t) : ∃ t, mg x = some (.int z t) := by
  obtain ⟨t, rfl⟩ := e
  exact ⟨t, PySem.W.mg_of X G a⟩
/-- a module's tuple of plain things -/
theorem gtup_mk {x : Str} {a : Addr} {o : Obj} {its : Array Value} {n : Nat} {ds : List D} {vs : List V} (X : K.In h) (G : h.Ns mainGlobals mg) (e : PySem.W.nsIn K mainGlobals x = some (some (.ref a))) (l : K.lookup a = some o) (hc : o.cls = .type "tuple") (hd : o.data = .seq its n)
    (hz : its.size ≤ sizeLine) (hv : Vals vs its.toList) (hr : ∀ ρ H, RVs K mg ρ H ds vs) : ∃ a, mg x = some (.ref a) ∧ ∀ ρ H, RV K mg ρ H (.tup ds) (.ref a) :=
  ⟨a, PySem.W.mg_of X G e, fun ρ H => ⟨a, vs, rfl, .inr ⟨o, its, n, l, hc, hd, hz, hv⟩, hr ρ H⟩⟩
end
theorem ktab_mk {K : PySem.W.Frag} {mg : Str → Option Value} {h : Heap} {w : World} {x : Str} {p : Addr} {es : Array DictEntry} {n : Nat} {tb : List (Str × D)} (X : K.In h) (G : h.Ns mainGlobals mg) (e : PySem.W.nsIn K mainGlobals x = some (some (.ref p)))
    (l : K.lookup p = some ⟨.type "dict", none, .dict es n, #[]⟩) (lit : PySem.W.KeysLit w.params es.toList) (low : (p == sysModules) = false) (ent : KEnt K mg es.toList tb) : KTab K w mg x tb := ⟨p, es, n, PySem.W.mg_of X G e, ⟨l, lit, low⟩, ent⟩
/-- a written tuple -/
theorem ktup_mk {K : PySem.W.Frag} {mg : Str → Option Value} {a : Addr} {o : Obj} {its : Array Value} {n : Nat} {ds : List D} {vs : List V} (l : K.lookup a = some o) (hc : o.cls = .type "tuple") (hd : o.data = .seq its n)
    (hz : its.size ≤ sizeLine) (hv : Vals vs its.toList) (hr : ∀ ρ H, RVs K mg ρ H ds vs) : ∃ v, RelV v (.ref a) ∧ ∀ ρ H, RV K mg ρ H (.tup ds) v :=
  ⟨.ref a, rfl, fun ρ H => ⟨a, vs, rfl, .inr ⟨o, its, n, l, hc, hd, hz, hv⟩, hr ρ H⟩⟩
/-- the law's def, by the function that it keeps -/
def LawOk (mf : MF) : Prop := ∀ ns : List Int, ns.length ≤ 63 → (∀ z ∈ ns, Builtin.Int.intBits z ≤ 1048576) → ∃ S, mf [.loc 0] [.lst false (ns.map .int)] = .ok (.bl true) S
def spL (K : PySem.W.Frag) : Sp := fun vs H Q _ => ∃ (a : Addr) (ns : List Int), vs = [.ref a] ∧ ns.length ≤ 63 ∧ (∀ z ∈ ns, Builtin.Int.intBits z ≤ 1048576) ∧ Only H ∧ SqL K H a (ns.map V.int) ∧ ∀ H', Q (.bl true) H'
theorem spL_spM {K : PySem.W.Frag} {mg : Str → Option Value} {mf : MF} (L : LawOk mf) (vs : List V) (H : Hp) (Q : VK) (E : XK) (h : spL K vs H Q E) : spM K mg mf vs H Q E := by
  obtain ⟨a, ns, rfl, hl, hb, hO, hS, q⟩ := h
  obtain ⟨S, e⟩ := L ns hl hb
  have hd : RdL K H a (ns.map V.int) := by
    rcases hS with (z | z) | z
    · rcases hO a with o | ⟨o, xs, o'⟩
      · rw [o] at z; cases z
      · rw [o'] at z; cases z
    · exact .inl z
    · exact .inr z
  refine ⟨[a], [.lst false (ns.map .int)], [.loc 0], ⟨rfl, fun n b o e1 e2 => ?_, fun n m b o o' e1 e2 e3 e4 w1 w2 => ?_⟩, ⟨.ref a, [], rfl, ⟨a, rfl, rfl⟩, rfl⟩, ?_⟩
  · cases n with
    | zero =>
      cases e1; cases e2
      exact ⟨_, hd, ints_rvs ns⟩
    | succ n => cases e1
  · cases n with
    | zero =>
      cases e3
      cases w1
    | succ n => cases e3
  · show Good K mg (E2W E) [] [a] H (mf [.loc 0] [.lst false (ns.map .int)]) Q
    rw [e]
    exact fun v H' ρ' _ _ _ r => by
      cases r
      exact q H'
theorem walkM {l : PySem.W.OpenLaw} {k : Nat} {q : Program} {loose : List Str} {XP : (Str → Option Value) → Heap → Prop} {YP : World → Heap → Prop} {d : DefRec} {K : Params → PySem.W.Frag} {mf : MF} {qual : Str} {st : Stmt}
    (hn : l.most = some 63) (hdf : d.params.defaults = []) (hr : Room k callerA) (hY : ∀ (w : World) (h : Heap), YP w h → (K w.params).In h) (L : LawOk mf)
    (hb : ∀ (s : Shared) (u kV doc pm : Value) (an : Option Addr) (cdv ct : Value), BindsTo s (PySem.W.fnOf "law" qual (defArgs st) (defBody st) (defScope st) .none kV doc pm an cdv ct) ⟨[u], []⟩ [("script", u)])
    (F : ∀ (w : World) (mg : Str → Option Value) (fa : Addr) (h : Heap), (K w.params).In h → h.Ns mainGlobals mg → mg d.name = some (.ref fa) →
      ∃ fd : FuncData, Fun (K w.params) "law" qual st fa fd ∧ ∀ base : Heap, FnOk l.prog w (K w.params) mg base (L2N.CX l.prog w) k fa fd ["script"] (spM (K w.params) mg mf)) :
    PySem.W.WalkO q loose XP YP l.row.toRowW d [] (fun f vs => PySem.call f vs) := by
  refine walk_ofB (n := 63) (k := k) (x := "script") (CX := fun w => L2N.CX l.prog w) (sp := fun w => spL (K w.params)) hn (by decide) hdf hr hY (fun w mg fa h X G hmg => ?_) (fun w H a ns h1 h2 h3 h4 => ⟨a, ns, rfl, h1, h2, h3, h4, fun _ => rfl⟩) fun w H s e s' z => ?_
  · obtain ⟨fd, T, f⟩ := F w mg fa h X G hmg
    refine ⟨fd, fun s u => ?_, fun base _ _ => (f base).imp fun vs H Q E h => spL_spM L vs H Q E h⟩
    obtain ⟨oc, od, kV, doc, pm, an, cdv, ct, osl, rfl, lk, hcd⟩ := T.ex
    exact hb s u kV doc pm an cdv ct
  · obtain ⟨_, _, _, _, _, _, _, _, _, _, _, _, z⟩ := z
    exact z.elim
/-- the rule for a def, its promise with the address -/
theorem FnM.okOf {P : Program} {w : World} {K : PySem.W.Frag} {mg : Str → Option Value} {base : Heap} {x qual : Str} {st : Stmt} {f : Addr} {fd : FuncData} {N ps : List Str} {k : Nat} {body : MS} (F : Fun K x qual st f fd) (S : FnScope N ps (defScope st))
    (h : ∀ (cdv : Value) (A : Around) (outer : List Env) (s : Shared) (H : Hp) (E : XK), MX (cxOf (L2N.CX P w) P w K mg base N qual (defScope st) f cdv A outer s H E) (E2W E) k →
      PSs (cxOf (L2N.CX P w) P w K mg base N qual (defScope st) f cdv A outer s H E) (defBody st) (tMS K mg (E2W E) body)) : FnOk P w K mg base (L2N.CX P w) (k + 1) f fd ps (spM K mg (mDef N.length ps.length body)) := by
  obtain ⟨oc, od, kV, doc, pm, an, cdv, ct, osl, rfl, lk, hcd⟩ := F.ex
  refine fn_of lk hcd S (fun vs H Q E hsp => ?_) fun A outer s H vs Q E hr hsp => ?_
  · obtain ⟨ρ, S', ds, rs, rv, g⟩ := hsp
    rw [← rv.length]
    unfold mDef at g
    split at g
    · assumption
    · exact g.elim
  · refine ⟨_, h cdv A outer s H E ⟨rfl, S.nd, L2N.takes_of rfl rfl rfl rfl, passes_of rfl, hr.units, un65 hr, hr⟩, ?_⟩
    obtain ⟨ρ, S', ds, rs, rv, g⟩ := hsp
    refine ⟨ρ, startE N.length ds, S', re_start rv, rs, ?_⟩
    unfold mDef at g
    split at g
    · cases hb' : body (startE N.length ds) S' with
      | nx e S1 =>
        rw [hb'] at g
        exact fun σ' H' ρ' p kk rs' re' => g .non H' ρ' p kk rs' rfl
      | rt d S1 =>
        rw [hb'] at g
        exact fun v H' ρ' p kk rs' r' => g v H' ρ' p kk rs' r'
      | exc c fs e S1 =>
        rw [hb'] at g
        exact fun C dd σ' H' ρ' vs' hm p kk rs' re' hd hf => g C dd H' ρ' vs' hm p kk rs' hd hf
      | bk e S1 => rw [hb'] at g; exact g.elim
      | ct e S1 => rw [hb'] at g; exact g.elim
      | stuck => rw [hb'] at g; exact g.elim
    · exact g.elim
end M2
end

section
set_option Elab.async false
set_option linter.all false
set_option maxRecDepth 100000
/-! P0: plain lemmas on the functions that all laws share. -/
namespace P0
open PySem PySem.Spec M2
set_option autoImplicit false
abbrev d_draw : MF := mDef 3 2 (sSeq (sAsg (mBin oIx (mVar 0) (mC (.int 1))) (tgN 2)) (sSeq (sPut (mBin oAdd (mVar 2) (mC (.int 1))) (mVar 0) (mC (.int 1))) (sSeq (sIf (tBl (mBin oLt (mVar 2) (mL oLen (aCons (mBin oIx (mVar 0) (mC (.int 0))) aNil)))) (sRet (mBin oMod (mL oInt (aCons (mBin oIx (mBin oIx (mVar 0) (mC (.int 0))) (mVar 2)) aNil)) (mVar 1))) sNx) (sRet (mBin oMod (mL oInt (aCons (mBin oMul (mVar 2) (mC (.int 7))) aNil)) (mVar 1))))))
def drawV (ds : List Int) (k : Nat) (many : Int) : Int := (match ds[k]? with
  | some d => d
  | none => (k : Int) * 7) % many
theorem ixN_nat {n k : Nat} (h : k < n) : L2.ixN n (k : Int) = some k := by
  unfold L2.ixN
  rw [if_pos (Int.natCast_nonneg k), if_pos (by omega)]
  rfl

/-! ### operators at known places -/
theorem ix_lst {S : Sto} {n k : Nat} {w : Bool} {ds : List D} {d : D} (h : S[n]? = some (.lst w ds)) (hd : ds[k]? = some d) : oIx (.loc n) (.int (k : Int)) S = some (d, S) := by
  have hk : k < ds.length := (List.getElem?_eq_some_iff.mp hd).1
  unfold oIx
  simp only [h, L2.atI, ixN_nat hk, Option.bind_some, hd, Option.map_some]
theorem put_lst {S : Sto} {n k : Nat} {ds : List D} {d : D} (h : S[n]? = some (.lst true ds)) (hk : k < ds.length) : oPut (.loc n) (.int (k : Int)) d S = some (S.set n (.lst true (ds.set k d))) := by
  unfold oPut
  simp only [h, ixN_nat hk, Option.map_some]
theorem len_lst {S : Sto} {n : Nat} {w : Bool} {ds : List D} (h : S[n]? = some (.lst w ds)) : oLen [.loc n] S = some (.int ds.length, S) := by
  unfold oLen itemsOf
  simp only [h, Option.map_some]
theorem mul_ii {S : Sto} {i j : Int} (h : i.natAbs.log2 + j.natAbs.log2 < 4000000) : oMul (.int i) (.int j) S = some (.int (i * j), S) := by
  show (if i.natAbs.log2 + j.natAbs.log2 < 4000000 then some (D.int (i * j), S) else none) = _
  rw [if_pos h]
theorem log2_le {k n : Nat} (h : k < 2 ^ n) : k.log2 ≤ n := by
  by_cases h0 : k = 0
  · rw [h0]; exact Nat.zero_le _
  · exact Nat.le_of_lt ((Nat.log2_lt h0).mpr h)
theorem int_i {S : Sto} {i : Int} : oInt [.int i] S = some (.int i, S) := rfl
theorem add_ii {S : Sto} {i j : Int} : oAdd (.int i) (.int j) S = some (.int (i + j), S) := rfl
theorem sub_ii {S : Sto} {i j : Int} : oSub (.int i) (.int j) S = some (.int (i - j), S) := rfl
theorem lt_ii {S : Sto} {i j : Int} : oLt (.int i) (.int j) S = some (.bl (decide (i < j)), S) := rfl
theorem gt_ii {S : Sto} {i j : Int} : oGt (.int i) (.int j) S = some (.bl (decide (j < i)), S) := rfl
theorem ge_ii {S : Sto} {i j : Int} : oGe (.int i) (.int j) S = some (.bl (decide (j ≤ i)), S) := rfl
theorem le_ii {S : Sto} {i j : Int} : oLe (.int i) (.int j) S = some (.bl (decide (i ≤ j)), S) := rfl
theorem draw_eq {S : Sto} {b dl k : Nat} {ds : List Int} {many : Int} (hb : S[b]? = some (.lst true [.loc dl, .int k])) (hd : S[dl]? = some (.lst true (ds.map .int))) (hne : dl ≠ b) (hk : k < 2 ^ 200) (hm : 0 < many) :
    d_draw [.loc b, .int many] S = .ok (.int (drawV ds k many)) (S.set b (.lst true [.loc dl, .int (k + 1 : Nat)])) := by
  have hbl : b < S.length := (List.getElem?_eq_some_iff.mp hb).1
  have f1 : oIx (.loc b) (.int 1) S = some (.int k, S) := ix_lst (k := 1) hb rfl
  have f2 : oPut (.loc b) (.int 1) (.int (k + 1 : Nat)) S = some (S.set b (.lst true [.loc dl, .int (k + 1 : Nat)])) := put_lst (k := 1) hb (by simp)
  generalize hS' : S.set b (.lst true [.loc dl, .int (k + 1 : Nat)]) = S' at f2 ⊢
  have hb' : S'[b]? = some (.lst true [.loc dl, .int (k + 1 : Nat)]) := by rw [← hS', List.getElem?_set_self hbl]
  have hd' : S'[dl]? = some (.lst true (ds.map .int)) := by rw [← hS', List.getElem?_set_ne (Ne.symm hne), hd]
  have f3 : oIx (.loc b) (.int 0) S' = some (.loc dl, S') := ix_lst (k := 0) hb' rfl
  have f4 : oLen [.loc dl] S' = some (.int ds.length, S') := by rw [len_lst hd', List.length_map]
  have f0 : oAdd (.int (k : Int)) (.int 1) S = some (.int ((k + 1 : Nat) : Int), S) := rfl
  have f5 : oLt (.int (k : Int)) (.int (ds.length : Int)) S' = some (.bl (decide ((k : Int) < ds.length)), S') := rfl
  have f6 : ∀ i : Int, oInt [.int i] S' = some (.int i, S') := fun _ => rfl
  have f7 : ∀ i : Int, oMod (.int i) (.int many) S' = some (.int (i % many), S') := fun i => by unfold oMod; simp only [if_pos hm]
  unfold d_draw
  by_cases hlt : k < ds.length
  · have e1 : ds[k]? = some ds[k] := List.getElem?_eq_getElem hlt
    have f8 : oIx (.loc dl) (.int (k : Int)) S' = some (.int ds[k], S') := ix_lst hd' (by rw [List.getElem?_map, e1]; rfl)
    have hv : drawV ds k many = ds[k] % many := by unfold drawV; rw [e1]
    have hdec : decide ((k : Int) < (ds.length : Int)) = true := decide_eq_true (by omega)
    simp only [mDef, sRet, sSeq, sIf, sExpr, sAsg, sNx, sBk, sCt, sPut, tgN, mBin, mUn, mMeth, mL, mM, mC, mVar, aNil, aCons, mTup, mLst, mIf, mSl, mChain, mAnd2, mOr2, mNot, tBl, tVal, tAnd2, tOr2, tNot2, startE, Rs.bind, Rs.bindS, lift, mCall, mCallC, mCall0, Rs.cold, List.length_cons, List.length_nil, List.map_cons, List.map_nil, List.replicate, List.append_eq, List.cons_append, List.nil_append, List.getElem?_cons_zero, List.getElem?_cons_succ, List.getElem?_nil, List.set_cons_zero, List.set_cons_succ, Nat.sub_self, Nat.reduceSub, Nat.reduceAdd, if_true, if_false, decide_true, decide_false, Option.map_some, Option.map_none, ite_true, ite_false, reduceIte, beq_self_eq_true, Bool.false_eq_true, Nat.zero_add, int_i, add_ii, sub_ii, lt_ii, gt_ii, ge_ii, le_ii, f1, f0, f2, f3, f4, f5, hdec, f8, f6, f7, hv]
  · have e1 : ds[k]? = none := List.getElem?_eq_none_iff.mpr (by omega)
    have hv : drawV ds k many = ((k : Int) * 7) % many := by unfold drawV; rw [e1]
    have hdec : decide ((k : Int) < (ds.length : Int)) = false := decide_eq_false (by omega)
    have f8 : oMul (.int (k : Int)) (.int 7) S' = some (.int ((k : Int) * 7), S') := by
      refine mul_ii ?_
      have h1 := log2_le hk
      have h2 : (Int.natAbs 7).log2 = 2 := by decide
      rw [Int.natAbs_natCast]
      omega
    simp only [mDef, sRet, sSeq, sIf, sExpr, sAsg, sNx, sBk, sCt, sPut, tgN, mBin, mUn, mMeth, mL, mM, mC, mVar, aNil, aCons, mTup, mLst, mIf, mSl, mChain, mAnd2, mOr2, mNot, tBl, tVal, tAnd2, tOr2, tNot2, startE, Rs.bind, Rs.bindS, lift, mCall, mCallC, mCall0, Rs.cold, List.length_cons, List.length_nil, List.map_cons, List.map_nil, List.replicate, List.append_eq, List.cons_append, List.nil_append, List.getElem?_cons_zero, List.getElem?_cons_succ, List.getElem?_nil, List.set_cons_zero, List.set_cons_succ, Nat.sub_self, Nat.reduceSub, Nat.reduceAdd, if_true, if_false, decide_true, decide_false, Option.map_some, Option.map_none, ite_true, ite_false, reduceIte, beq_self_eq_true, Bool.false_eq_true, Nat.zero_add, int_i, add_ii, sub_ii, lt_ii, gt_ii, ge_ii, le_ii, f1, f0, f2, f3, f4, f5, hdec, f8, f6, f7, hv]

/-! ### loops over a range -/
theorem loop_r {lo : Int} {n j : Nat} {body : MS} {Post : SRes → Prop} (I : Nat → Nv → Sto → Prop)
    (hs : ∀ (i : Nat) (e : Nv) (S : Sto), i < n → I i e S → match body (e.set j (some (.int (lo + i)))) S with
      | .nx e2 S2 => I (i + 1) e2 S2
      | .ct e2 S2 => I (i + 1) e2 S2
      | .bk e2 S2 => Post (.nx e2 S2)
      | r => Post r) (he : ∀ e S, I n e S → Post (.nx e S)) (e : Nv) (S : Sto) (h0 : I 0 e S) : Post (loopM (itR lo 1 n) (tgN j) body n 0 e S) := by
  have key : ∀ (m i : Nat) (e : Nv) (S : Sto), i + m = n → I i e S → Post (loopM (itR lo 1 n) (tgN j) body m i e S) := by
    intro m
    induction m with
    | zero =>
      intro i e S hi h
      have e1 : i = n := by omega
      subst e1
      unfold loopM itR
      simp only [Nat.lt_irrefl, if_false]
      exact he e S h
    | succ m ih =>
      intro i e S hi h
      have hlt : i < n := by omega
      have q := hs i e S hlt h
      unfold loopM
      have e1 : (itR lo 1 n).at_ i S = some (some (.int (lo + i))) := by
        show (if i < n then some (some (D.int (lo + (i : Int) * 1))) else some none) = _
        rw [if_pos hlt, Int.mul_one]
      simp only [e1, tgN]
      cases hb : body (e.set j (some (.int (lo + i)))) S with
      | nx e2 S2 => rw [hb] at q; exact ih (i + 1) e2 S2 (by omega) q
      | ct e2 S2 => rw [hb] at q; exact ih (i + 1) e2 S2 (by omega) q
      | bk e2 S2 => rw [hb] at q; exact q
      | rt d S2 => rw [hb] at q; exact q
      | exc c fs e2 S2 => rw [hb] at q; exact q
      | stuck => rw [hb] at q; exact q
  exact key n 0 e S (by omega) h0
/-- the store with a new list of numbers at its end -/
def SD (S0 : Sto) (ds : List Int) : Sto := S0 ++ [.lst true (ds.map .int)]
theorem SD_get (S0 : Sto) (ds : List Int) : (SD S0 ds)[S0.length]? = some (.lst true (ds.map .int)) := by unfold SD; simp
theorem SD_set (S0 : Sto) (ds es : List Int) : (SD S0 ds).set S0.length (.lst true (es.map .int)) = SD S0 es := by unfold SD; simp
theorem SD_old {S0 : Sto} {ds : List Int} {n : Nat} {o : SO} (h : S0[n]? = some o) : (SD S0 ds)[n]? = some o := by
  unfold SD
  rw [List.getElem?_append_left (List.getElem?_eq_some_iff.mp h).1]
  exact h
theorem append_SD {S0 : Sto} {ds : List Int} {d : Int} (h : ds.length < 100000) : oAppend (.loc S0.length) [.int d] (SD S0 ds) = some (.non, SD S0 (ds ++ [d])) := by
  unfold oAppend
  simp only [SD_get]
  have hz : (ds.map D.int).length < sizeLine := by rw [List.length_map, sizeLine_eq]; omega
  rw [if_pos hz, ← SD_set S0 ds (ds ++ [d]), List.map_append]
  rfl
theorem rcv_SD {S0 : Sto} {ds : List Int} : rcvD (SD S0 ds) (.loc S0.length) "list" = true := by
  unfold rcvD
  simp only [SD_get]
  rfl
theorem len_SD {S0 : Sto} {ds : List Int} : oLen [.loc S0.length] (SD S0 ds) = some (.int ds.length, SD S0 ds) := by rw [len_lst (SD_get S0 ds), List.length_map]
theorem mod_ii {S : Sto} {i j : Int} (h : 0 < j) : oMod (.int i) (.int j) S = some (.int (i % j), S) := by unfold oMod; simp only [if_pos h]
theorem fdiv_ii {S : Sto} {i j : Int} (h : 0 < j) (h2 : j < 10 ^ 30) : oFdiv (.int i) (.int j) S = some (.int (i / j), S) := by
  show (if 0 < j ∧ j.natAbs.log2 < 9000 then some (D.int (i / j), S) else none) = _
  have h3 : j.natAbs < 2 ^ 200 := by
    have e : (10 : Int) ^ 30 = 1000000000000000000000000000000 := by decide
    have e2 : (1000000000000000000000000000000 : Nat) ≤ 2 ^ 100 := by decide
    have e3 : (2 : Nat) ^ 100 ≤ 2 ^ 200 := Nat.pow_le_pow_right (by decide) (by decide)
    omega
  have := log2_le h3
  rw [if_pos ⟨h, by omega⟩]
theorem mul_small {S : Sto} {i j : Int} (h1 : i.natAbs < 2 ^ 200) (h2 : j.natAbs < 2 ^ 200) : oMul (.int i) (.int j) S = some (.int (i * j), S) := mul_ii (by have := log2_le h1; have := log2_le h2; omega)
theorem ten18 {S : Sto} : oPow (.int 10) (.int 18) S = some (.int 1000000000000000000, S) := by rfl
abbrev bA : MS := (sIf (tBl (mBin oGt (mVar 5) (mC (.int 0)))) (sSeq (sExpr (mMeth "list" oAppend (mVar 3) (aCons (mBin oMod (mL oInt (aCons (mVar 5) aNil)) (mC (.int 1000))) aNil))) (sAsg (mBin oFdiv (mVar 5) (mC (.int 1000))) (tgN 5))) sNx)
theorem bA_eq {S0 : Sto} {ds : List Int} {c : Int} {x0 x1 x2 x4 x6 x7 : Option D} (h : ds.length < 100000) :
    bA [x0, x1, x2, some (.loc S0.length), x4, some (.int c), x6, x7] (SD S0 ds) = if 0 < c then .nx [x0, x1, x2, some (.loc S0.length), x4, some (.int (c / 1000)), x6, x7] (SD S0 (ds ++ [c % 1000]))
      else .nx [x0, x1, x2, some (.loc S0.length), x4, some (.int c), x6, x7] (SD S0 ds) := by
  unfold bA
  by_cases hc : 0 < c
  · simp only [mDef, sRet, sSeq, sIf, sExpr, sAsg, sNx, sBk, sCt, sPut, tgN, mBin, mUn, mMeth, mL, mM, mC, mVar, aNil, aCons, mTup, mLst, mIf, mSl, mChain, mAnd2, mOr2, mNot, tBl, tVal, tAnd2, tOr2, tNot2, startE, Rs.bind, Rs.bindS, lift, mCall, mCallC, mCall0, Rs.cold, List.length_cons, List.length_nil, List.map_cons, List.map_nil, List.replicate, List.append_eq, List.cons_append, List.nil_append, List.getElem?_cons_zero, List.getElem?_cons_succ, List.getElem?_nil, List.set_cons_zero, List.set_cons_succ, Nat.sub_self, Nat.reduceSub, Nat.reduceAdd, if_true, if_false, decide_true, decide_false, Option.map_some, Option.map_none, ite_true, ite_false, reduceIte, beq_self_eq_true, Bool.false_eq_true, Nat.zero_add, int_i, add_ii, sub_ii, lt_ii, gt_ii, ge_ii, le_ii, decide_eq_true hc, if_true, rcv_SD, int_i, mod_ii (show (0 : Int) < 1000 by decide), append_SD h, fdiv_ii (show (0 : Int) < 1000 by decide) (show (1000 : Int) < 10 ^ 30 by decide), if_pos hc, List.set_cons_succ, List.set_cons_zero]
  · simp only [mDef, sRet, sSeq, sIf, sExpr, sAsg, sNx, sBk, sCt, sPut, tgN, mBin, mUn, mMeth, mL, mM, mC, mVar, aNil, aCons, mTup, mLst, mIf, mSl, mChain, mAnd2, mOr2, mNot, tBl, tVal, tAnd2, tOr2, tNot2, startE, Rs.bind, Rs.bindS, lift, mCall, mCallC, mCall0, Rs.cold, List.length_cons, List.length_nil, List.map_cons, List.map_nil, List.replicate, List.append_eq, List.cons_append, List.nil_append, List.getElem?_cons_zero, List.getElem?_cons_succ, List.getElem?_nil, List.set_cons_zero, List.set_cons_succ, Nat.sub_self, Nat.reduceSub, Nat.reduceAdd, if_true, if_false, decide_true, decide_false, Option.map_some, Option.map_none, ite_true, ite_false, reduceIte, beq_self_eq_true, Bool.false_eq_true, Nat.zero_add, int_i, add_ii, sub_ii, lt_ii, gt_ii, ge_ii, le_ii, decide_eq_false hc, Bool.false_eq_true, if_false, if_neg hc]
abbrev bB : MS := (sSeq (sAsg (mBin oMod (mL oInt (aCons (mBin oAdd (mBin oAdd (mBin oMul (mVar 7) (mC (.int 16807))) (mBin oMul (mC (.int 7)) (mVar 6))) (mC (.int 1))) aNil)) (mC (.int 2147483647))) (tgN 7)) (sExpr (mMeth "list" oAppend (mVar 3) (aCons (mBin oMod (mL oInt (aCons (mBin oFdiv (mVar 7) (mC (.int 997))) aNil)) (mC (.int 1000))) aNil))))
theorem small_abs {z : Int} (h : 0 ≤ z) (h2 : z < 10 ^ 20) : z.natAbs < 2 ^ 200 := by
  have e : (10 : Int) ^ 20 = 100000000000000000000 := by decide
  have e2 : (100000000000000000000 : Nat) ≤ 2 ^ 100 := by decide
  have e3 : (2 : Nat) ^ 100 ≤ 2 ^ 200 := Nat.pow_le_pow_right (by decide) (by decide)
  omega
theorem bB_eq {S0 : Sto} {ds : List Int} {z t : Int} {x0 x1 x2 x4 x5 : Option D} (h : ds.length < 100000) (hz : 0 ≤ z ∧ z < 10 ^ 20) (ht : 0 ≤ t ∧ t < 10 ^ 20) :
    ∃ z' d, 0 ≤ z' ∧ z' < 10 ^ 20 ∧ 0 ≤ d ∧ d < 1000 ∧ bB [x0, x1, x2, some (.loc S0.length), x4, x5, some (.int t), some (.int z)] (SD S0 ds) = .nx [x0, x1, x2, some (.loc S0.length), x4, x5, some (.int t), some (.int z')] (SD S0 (ds ++ [d])) := by
  have m1 : ∀ S : Sto, oMul (.int z) (.int 16807) S = some (.int (z * 16807), S) := fun S => mul_small (small_abs hz.1 hz.2) (small_abs (by decide) (by decide))
  have m2 : ∀ S : Sto, oMul (.int 7) (.int t) S = some (.int (7 * t), S) := fun S => mul_small (small_abs (by decide) (by decide)) (small_abs ht.1 ht.2)
  have e : (10 : Int) ^ 20 = 100000000000000000000 := by decide
  refine ⟨(z * 16807 + 7 * t + 1) % 2147483647, ((z * 16807 + 7 * t + 1) % 2147483647 / 997) % 1000, by omega, by omega, by omega, by omega, ?_⟩
  unfold bB
  simp only [mDef, sRet, sSeq, sIf, sExpr, sAsg, sNx, sBk, sCt, sPut, tgN, mBin, mUn, mMeth, mL, mM, mC, mVar, aNil, aCons, mTup, mLst, mIf, mSl, mChain, mAnd2, mOr2, mNot, tBl, tVal, tAnd2, tOr2, tNot2, startE, Rs.bind, Rs.bindS, lift, mCall, mCallC, mCall0, Rs.cold, List.length_cons, List.length_nil, List.map_cons, List.map_nil, List.replicate, List.append_eq, List.cons_append, List.nil_append, List.getElem?_cons_zero, List.getElem?_cons_succ, List.getElem?_nil, List.set_cons_zero, List.set_cons_succ, Nat.sub_self, Nat.reduceSub, Nat.reduceAdd, if_true, if_false, decide_true, decide_false, Option.map_some, Option.map_none, ite_true, ite_false, reduceIte, beq_self_eq_true, Bool.false_eq_true, Nat.zero_add, int_i, add_ii, sub_ii, lt_ii, gt_ii, ge_ii, le_ii, m1, m2, add_ii, int_i, mod_ii (show (0 : Int) < 2147483647 by decide), rcv_SD, fdiv_ii (show (0 : Int) < 997 by decide) (show (997 : Int) < 10 ^ 30 by decide), mod_ii (show (0 : Int) < 1000 by decide), append_SD h, if_true, List.set_cons_succ, List.set_cons_zero, List.getElem?_cons_zero, List.getElem?_cons_succ]

theorem for_60 {tg : Tg} {body : MS} {e : Nv} {S : Sto} : sFor (iRg1 (aCons (mC (.int 60)) aNil)) tg body e S = loopM (itR 0 1 60) tg body 60 0 e S := by rfl
theorem for_12 {tg : Tg} {body : MS} {e : Nv} {S : Sto} : sFor (iRg1 (aCons (mC (.int 12)) aNil)) tg body e S = loopM (itR 0 1 12) tg body 12 0 e S := by rfl
abbrev d_cell : MF := mDef 2 2 (sSeq (sIf (tBl (mBin oLt (mVar 1) (mL oLen (aCons (mVar 0) aNil)))) (sRet (mBin oIx (mVar 0) (mVar 1))) sNx) (sRet (mC (.int 0))))
theorem cell_eq {S : Sto} {s k : Nat} {w : Bool} {ns : List Int} (h : S[s]? = some (.lst w (ns.map .int))) : d_cell [.loc s, .int (k : Int)] S = .ok (.int (ns[k]?.getD 0)) S := by
  have f1 : oLen [.loc s] S = some (.int ns.length, S) := by rw [len_lst h, List.length_map]
  unfold d_cell
  by_cases hk : k < ns.length
  · have e1 : ns[k]? = some ns[k] := List.getElem?_eq_getElem hk
    have f2 : oIx (.loc s) (.int (k : Int)) S = some (.int ns[k], S) := ix_lst h (by rw [List.getElem?_map, e1]; rfl)
    have f3 : decide ((k : Int) < (ns.length : Int)) = true := decide_eq_true (by omega)
    simp only [mDef, sRet, sSeq, sIf, sExpr, sAsg, sNx, sBk, sCt, sPut, tgN, mBin, mUn, mMeth, mL, mM, mC, mVar, aNil, aCons, mTup, mLst, mIf, mSl, mChain, mAnd2, mOr2, mNot, tBl, tVal, tAnd2, tOr2, tNot2, startE, Rs.bind, Rs.bindS, lift, mCall, mCallC, mCall0, Rs.cold, List.length_cons, List.length_nil, List.map_cons, List.map_nil, List.replicate, List.append_eq, List.cons_append, List.nil_append, List.getElem?_cons_zero, List.getElem?_cons_succ, List.getElem?_nil, List.set_cons_zero, List.set_cons_succ, Nat.sub_self, Nat.reduceSub, Nat.reduceAdd, if_true, if_false, decide_true, decide_false, Option.map_some, Option.map_none, ite_true, ite_false, reduceIte, beq_self_eq_true, Bool.false_eq_true, Nat.zero_add, int_i, add_ii, sub_ii, lt_ii, gt_ii, ge_ii, le_ii, f1, f2, f3, e1, Option.getD_some]
  · have e1 : ns[k]? = none := List.getElem?_eq_none_iff.mpr (by omega)
    have f3 : decide ((k : Int) < (ns.length : Int)) = false := decide_eq_false (by omega)
    simp only [mDef, sRet, sSeq, sIf, sExpr, sAsg, sNx, sBk, sCt, sPut, tgN, mBin, mUn, mMeth, mL, mM, mC, mVar, aNil, aCons, mTup, mLst, mIf, mSl, mChain, mAnd2, mOr2, mNot, tBl, tVal, tAnd2, tOr2, tNot2, startE, Rs.bind, Rs.bindS, lift, mCall, mCallC, mCall0, Rs.cold, List.length_cons, List.length_nil, List.map_cons, List.map_nil, List.replicate, List.append_eq, List.cons_append, List.nil_append, List.getElem?_cons_zero, List.getElem?_cons_succ, List.getElem?_nil, List.set_cons_zero, List.set_cons_succ, Nat.sub_self, Nat.reduceSub, Nat.reduceAdd, if_true, if_false, decide_true, decide_false, Option.map_some, Option.map_none, ite_true, ite_false, reduceIte, beq_self_eq_true, Bool.false_eq_true, Nat.zero_add, int_i, add_ii, sub_ii, lt_ii, gt_ii, ge_ii, le_ii, f1, f3, e1, Option.getD_none]
def Dig (ds : List Int) : Prop := ∀ d ∈ ds, 0 ≤ d ∧ d < 1000
theorem Dig.app {ds : List Int} {d : Int} (h : Dig ds) (h0 : 0 ≤ d) (h1 : d < 1000) : Dig (ds ++ [d]) := fun x hx => by
  rcases List.mem_append.mp hx with q | q
  · exact h x q
  · rw [List.mem_singleton.mp q]; exact ⟨h0, h1⟩
/-- how a stretch of the digits' loop ends -/
def DEnd (S0 : Sto) (s : Nat) (L : Nat) (r : SRes) : Prop := ∃ ds x1 x2 x4 x5 x6 x7, r = .nx [some (.loc s), x1, x2, some (.loc S0.length), x4, x5, x6, x7] (SD S0 ds) ∧ Dig ds ∧ ds.length ≤ L
theorem loopA {S0 : Sto} {s : Nat} {ds : List Int} {c : Int} {x1 x2 x4 x6 x7 : Option D} (hd : Dig ds) (hl : ds.length ≤ 1500) :
    DEnd S0 s 1560 (sFor (iRg1 (aCons (mC (.int 60)) aNil)) (tgN 6) bA [some (.loc s), x1, x2, some (.loc S0.length), x4, some (.int c), x6, x7] (SD S0 ds)) := by
  rw [for_60]
  refine loop_r (fun i e S => ∃ ds c x6, e = [some (.loc s), x1, x2, some (.loc S0.length), x4, some (.int c), x6, x7] ∧ S = SD S0 ds ∧ Dig ds ∧ ds.length ≤ 1500 + i) ?_ ?_ _ _ ⟨ds, c, x6, rfl, rfl, hd, hl⟩
  · rintro i e S hi ⟨ds, c, x6, rfl, rfl, hd, hl⟩
    simp only [List.set_cons_succ, List.set_cons_zero]
    rw [bA_eq (by omega)]
    by_cases hc : 0 < c
    · rw [if_pos hc]
      exact ⟨_, _, _, rfl, rfl, hd.app (by omega) (by omega), by rw [List.length_append, List.length_singleton]; omega⟩
    · rw [if_neg hc]
      exact ⟨_, _, _, rfl, rfl, hd, by omega⟩
  · rintro e S ⟨ds, c, x6, rfl, rfl, hd, hl⟩
    exact ⟨ds, _, _, _, _, _, _, rfl, hd, by omega⟩
theorem loopB {S0 : Sto} {s : Nat} {ds : List Int} {z : Int} {x1 x2 x4 x5 x6 : Option D} (hd : Dig ds) (hl : ds.length ≤ 1500) (hz : 0 ≤ z ∧ z < 10 ^ 20) :
    DEnd S0 s 1560 (sFor (iRg1 (aCons (mC (.int 12)) aNil)) (tgN 6) bB [some (.loc s), x1, x2, some (.loc S0.length), x4, x5, x6, some (.int z)] (SD S0 ds)) := by
  rw [for_12]
  refine loop_r (fun i e S => ∃ ds z x6, e = [some (.loc s), x1, x2, some (.loc S0.length), x4, x5, x6, some (.int z)] ∧ S = SD S0 ds ∧ Dig ds ∧ ds.length ≤ 1500 + i ∧ 0 ≤ z ∧ z < 10 ^ 20) ?_ ?_ _ _ ⟨ds, z, x6, rfl, rfl, hd, hl, hz⟩
  · rintro i e S hi ⟨ds, z, x6, rfl, rfl, hd, hl, hz⟩
    simp only [List.set_cons_succ, List.set_cons_zero]
    have e20 : (10 : Int) ^ 20 = 100000000000000000000 := by decide
    obtain ⟨z', d, h1, h2, h3, h4, h5⟩ := bB_eq (S0 := S0) (x0 := some (.loc s)) (x1 := x1) (x2 := x2) (x4 := x4) (x5 := x5) (ds := ds) (t := 0 + (i : Int)) (by omega) hz (by omega)
    rw [h5]
    exact ⟨_, _, _, rfl, rfl, hd.app h3 h4, by rw [List.length_append, List.length_singleton]; omega, h1, h2⟩
  · rintro e S ⟨ds, c, x6, rfl, rfl, hd, hl, hz⟩
    exact ⟨ds, _, _, _, _, _, _, rfl, hd, by omega⟩
abbrev bC : MS := (sIf (tBl (mBin oGe (mVar 5) (mBin oPow (mC (.int 10)) (mC (.int 18))))) (sFor (iRg1 (aCons (mC (.int 60)) aNil)) (tgN 6) bA) (sSeq (sAsg (mBin oMod (mL oInt (aCons (mBin oAdd (mBin oAdd (mBin oMul (mVar 5) (mC (.int 48271))) (mBin oMul (mVar 4) (mC (.int 69621)))) (mC (.int 11))) aNil)) (mC (.int 2147483647))) (tgN 7)) (sFor (iRg1 (aCons (mC (.int 12)) aNil)) (tgN 6) bB)))
theorem bC_ok {S0 : Sto} {s k : Nat} {ds : List Int} {c : Int} {x1 x2 x6 x7 : Option D} (hd : Dig ds) (hl : ds.length ≤ 1500) (hc : 0 ≤ c) (hk : k < 1000000) :
    DEnd S0 s 1560 (bC [some (.loc s), x1, x2, some (.loc S0.length), some (.int (k : Int)), some (.int c), x6, x7] (SD S0 ds)) := by
  have e18 : (10 : Int) ^ 20 = 100000000000000000000 := by decide
  have hA := loopA (S0 := S0) (s := s) (c := c) (x1 := x1) (x2 := x2) (x4 := some (.int (k : Int))) (x6 := x6) (x7 := x7) hd hl
  have hB : ∀ z : Int, 0 ≤ z ∧ z < 10 ^ 20 → _ := fun z hz => loopB (S0 := S0) (s := s) (z := z) (x1 := x1) (x2 := x2) (x4 := some (.int (k : Int))) (x5 := some (.int c)) (x6 := x6) hd hl hz
  unfold bC
  generalize hfA : sFor (iRg1 (aCons (mC (.int 60)) aNil)) (tgN 6) bA = fA at hA ⊢
  generalize hfB : sFor (iRg1 (aCons (mC (.int 12)) aNil)) (tgN 6) bB = fB at hB ⊢
  by_cases hg : (1000000000000000000 : Int) ≤ c
  · simp only [mDef, sRet, sSeq, sIf, sExpr, sAsg, sNx, sBk, sCt, sPut, tgN, mBin, mUn, mMeth, mL, mM, mC, mVar, aNil, aCons, mTup, mLst, mIf, mSl, mChain, mAnd2, mOr2, mNot, tBl, tVal, tAnd2, tOr2, tNot2, startE, Rs.bind, Rs.bindS, lift, mCall, mCallC, mCall0, Rs.cold, List.length_cons, List.length_nil, List.map_cons, List.map_nil, List.replicate, List.append_eq, List.cons_append, List.nil_append, List.getElem?_cons_zero, List.getElem?_cons_succ, List.getElem?_nil, List.set_cons_zero, List.set_cons_succ, Nat.sub_self, Nat.reduceSub, Nat.reduceAdd, if_true, if_false, decide_true, decide_false, Option.map_some, Option.map_none, ite_true, ite_false, reduceIte, beq_self_eq_true, Bool.false_eq_true, Nat.zero_add, int_i, add_ii, sub_ii, lt_ii, gt_ii, ge_ii, le_ii, ten18, decide_eq_true hg]
    exact hA
  · have m1 : oMul (.int c) (.int 48271) (SD S0 ds) = some (.int (c * 48271), SD S0 ds) := mul_small (small_abs hc (by omega)) (small_abs (by decide) (by decide))
    have m2 : oMul (.int (k : Int)) (.int 69621) (SD S0 ds) = some (.int (k * 69621), SD S0 ds) := mul_small (small_abs (by omega) (by omega)) (small_abs (by decide) (by decide))
    simp only [mDef, sRet, sSeq, sIf, sExpr, sAsg, sNx, sBk, sCt, sPut, tgN, mBin, mUn, mMeth, mL, mM, mC, mVar, aNil, aCons, mTup, mLst, mIf, mSl, mChain, mAnd2, mOr2, mNot, tBl, tVal, tAnd2, tOr2, tNot2, startE, Rs.bind, Rs.bindS, lift, mCall, mCallC, mCall0, Rs.cold, List.length_cons, List.length_nil, List.map_cons, List.map_nil, List.replicate, List.append_eq, List.cons_append, List.nil_append, List.getElem?_cons_zero, List.getElem?_cons_succ, List.getElem?_nil, List.set_cons_zero, List.set_cons_succ, Nat.sub_self, Nat.reduceSub, Nat.reduceAdd, if_true, if_false, decide_true, decide_false, Option.map_some, Option.map_none, ite_true, ite_false, reduceIte, beq_self_eq_true, Bool.false_eq_true, Nat.zero_add, int_i, add_ii, sub_ii, lt_ii, gt_ii, ge_ii, le_ii, ten18, decide_eq_false hg, m1, m2, mod_ii (show (0 : Int) < 2147483647 by decide)]
    exact hB _ (by omega)
abbrev bD : MS := (sSeq (sIf (tBl (mBin oGt (mL oLen (aCons (mVar 3) aNil)) (mC (.int 1500)))) sBk sNx) (sSeq (sAsg (mCall d_cell (aCons (mVar 0) (aCons (mVar 4) aNil))) (tgN 5)) (sSeq (sIf (tBl (mBin oLt (mVar 5) (mC (.int 0)))) (sAsg (mBin oSub (mC (.int 1)) (mBin oMul (mC (.int 2)) (mVar 5))) (tgN 5)) sNx) bC)))
theorem intBits_log {z : Int} (h : Builtin.Int.intBits z ≤ 1048576) : z.natAbs.log2 ≤ 1048576 := by
  unfold Builtin.Int.intBits at h
  split at h
  · rename_i h0
    have : z = 0 := by simpa using h0
    rw [this]; decide
  · omega
theorem bD_ok {S0 : Sto} {s k : Nat} {w : Bool} {ns ds : List Int} {x1 x2 x5 x6 x7 : Option D} (hs : S0[s]? = some (.lst w (ns.map .int))) (hb : ∀ z ∈ ns, Builtin.Int.intBits z ≤ 1048576) (hd : Dig ds) (hl : ds.length ≤ 1560) (hk : k < 1000000) :
    match bD [some (.loc s), x1, x2, some (.loc S0.length), some (.int (k : Int)), x5, x6, x7] (SD S0 ds) with
      | .nx e2 S2 => DEnd S0 s 1560 (.nx e2 S2)
      | .ct e2 S2 => DEnd S0 s 1560 (.nx e2 S2)
      | .bk e2 S2 => DEnd S0 s 1560 (.nx e2 S2)
      | r => False := by
  unfold bD
  by_cases hg : (1500 : Int) < ds.length
  · simp only [mDef, sRet, sSeq, sIf, sExpr, sAsg, sNx, sBk, sCt, sPut, tgN, mBin, mUn, mMeth, mL, mM, mC, mVar, aNil, aCons, mTup, mLst, mIf, mSl, mChain, mAnd2, mOr2, mNot, tBl, tVal, tAnd2, tOr2, tNot2, startE, Rs.bind, Rs.bindS, lift, mCall, mCallC, mCall0, Rs.cold, List.length_cons, List.length_nil, List.map_cons, List.map_nil, List.replicate, List.append_eq, List.cons_append, List.nil_append, List.getElem?_cons_zero, List.getElem?_cons_succ, List.getElem?_nil, List.set_cons_zero, List.set_cons_succ, Nat.sub_self, Nat.reduceSub, Nat.reduceAdd, if_true, if_false, decide_true, decide_false, Option.map_some, Option.map_none, ite_true, ite_false, reduceIte, beq_self_eq_true, Bool.false_eq_true, Nat.zero_add, int_i, add_ii, sub_ii, lt_ii, gt_ii, ge_ii, le_ii, len_SD, decide_eq_true hg]
    exact ⟨ds, _, _, _, _, _, _, rfl, hd, hl⟩
  · have f1 : d_cell [.loc s, .int (k : Int)] (SD S0 ds) = .ok (.int (ns[k]?.getD 0)) (SD S0 ds) := cell_eq (SD_old hs)
    have hc1 : (ns[k]?.getD 0).natAbs.log2 ≤ 1048576 := by
      cases e : ns[k]? with
      | none => rw [Option.getD_none]; decide
      | some z => rw [Option.getD_some]; exact intBits_log (hb z (List.mem_of_getElem? e))
    generalize ns[k]?.getD 0 = c at f1 hc1
    have hfin : ∀ (c : Int) (x5 : Option D), 0 ≤ c → match bC [some (.loc s), x1, x2, some (.loc S0.length), some (.int (k : Int)), some (.int c), x6, x7] (SD S0 ds) with
        | .nx e2 S2 => DEnd S0 s 1560 (.nx e2 S2)
        | .ct e2 S2 => DEnd S0 s 1560 (.nx e2 S2)
        | .bk e2 S2 => DEnd S0 s 1560 (.nx e2 S2)
        | r => False := fun c x5 hc => by
      have q := bC_ok (S0 := S0) (s := s) (k := k) (c := c) (x1 := x1) (x2 := x2) (x6 := x6) (x7 := x7) hd (by omega) hc hk
      obtain ⟨ds', a1, a2, a4, a5, a6, a7, e, r⟩ := q
      rw [e]
      exact ⟨ds', a1, a2, a4, a5, a6, a7, rfl, r⟩
    generalize hfC : bC = fC at hfin ⊢
    by_cases hn : c < 0
    · have m1 : oMul (.int 2) (.int c) (SD S0 ds) = some (.int (2 * c), SD S0 ds) := mul_ii (by have h2 : (Int.natAbs 2).log2 = 1 := by decide
                                                                                                omega)
      simp only [mDef, sRet, sSeq, sIf, sExpr, sAsg, sNx, sBk, sCt, sPut, tgN, mBin, mUn, mMeth, mL, mM, mC, mVar, aNil, aCons, mTup, mLst, mIf, mSl, mChain, mAnd2, mOr2, mNot, tBl, tVal, tAnd2, tOr2, tNot2, startE, Rs.bind, Rs.bindS, lift, mCall, mCallC, mCall0, Rs.cold, List.length_cons, List.length_nil, List.map_cons, List.map_nil, List.replicate, List.append_eq, List.cons_append, List.nil_append, List.getElem?_cons_zero, List.getElem?_cons_succ, List.getElem?_nil, List.set_cons_zero, List.set_cons_succ, Nat.sub_self, Nat.reduceSub, Nat.reduceAdd, if_true, if_false, decide_true, decide_false, Option.map_some, Option.map_none, ite_true, ite_false, reduceIte, beq_self_eq_true, Bool.false_eq_true, Nat.zero_add, int_i, add_ii, sub_ii, lt_ii, gt_ii, ge_ii, le_ii, len_SD, decide_eq_false hg, f1, decide_eq_true hn, m1]
      exact hfin (1 - 2 * c) x5 (by omega)
    · simp only [mDef, sRet, sSeq, sIf, sExpr, sAsg, sNx, sBk, sCt, sPut, tgN, mBin, mUn, mMeth, mL, mM, mC, mVar, aNil, aCons, mTup, mLst, mIf, mSl, mChain, mAnd2, mOr2, mNot, tBl, tVal, tAnd2, tOr2, tNot2, startE, Rs.bind, Rs.bindS, lift, mCall, mCallC, mCall0, Rs.cold, List.length_cons, List.length_nil, List.map_cons, List.map_nil, List.replicate, List.append_eq, List.cons_append, List.nil_append, List.getElem?_cons_zero, List.getElem?_cons_succ, List.getElem?_nil, List.set_cons_zero, List.set_cons_succ, Nat.sub_self, Nat.reduceSub, Nat.reduceAdd, if_true, if_false, decide_true, decide_false, Option.map_some, Option.map_none, ite_true, ite_false, reduceIte, beq_self_eq_true, Bool.false_eq_true, Nat.zero_add, int_i, add_ii, sub_ii, lt_ii, gt_ii, ge_ii, le_ii, len_SD, decide_eq_false hg, f1, decide_eq_false hn]
      exact hfin c x5 (by omega)

abbrev d_digits : MF := mDef 8 3 (sSeq (sAsg (mLst aNil) (tgN 3)) (sSeq (sFor (iRg2 (aCons (mVar 1) (aCons (mVar 2) aNil))) (tgN 4) bD) (sRet (mVar 3))))
theorem for_r2 {lo hi : Int} {tg : Tg} {body : MS} {e : Nv} {S : Sto} {i j : Nat} (h1 : e[i]? = some (some (.int lo))) (h2 : e[j]? = some (some (.int hi))) (b1 : -1000000000000 ≤ lo ∧ lo < 1000000000000 ∧ -1000000000000 ≤ hi ∧ hi < 1000000000000) :
    sFor (iRg2 (aCons (mVar i) (aCons (mVar j) aNil))) tg body e S = loopM (itR lo 1 (hi - lo).toNat) tg body (hi - lo).toNat 0 e S := by
  have f : (iRg2 (aCons (mVar i) (aCons (mVar j) aNil))) e S = .ok (itR lo 1 (hi - lo).toNat) S := by
    simp only [iRg2, aCons, aNil, mVar, Rs.bind, h1, h2]
    rw [if_pos b1]
  unfold sFor
  rw [f]
  rfl
theorem digits_ok {S0 : Sto} {s : Nat} {w : Bool} {ns : List Int} (hs : S0[s]? = some (.lst w (ns.map .int))) (hb : ∀ z ∈ ns, Builtin.Int.intBits z ≤ 1048576) :
    ∃ ds, Dig ds ∧ ds.length ≤ 1560 ∧ d_digits [.loc s, .int 0, .int 63] S0 = .ok (.loc S0.length) (SD S0 ds) := by
  have hloop : DEnd S0 s 1560 (sFor (iRg2 (aCons (mVar 1) (aCons (mVar 2) aNil))) (tgN 4) bD [some (.loc s), some (.int 0), some (.int 63), some (.loc S0.length), none, none, none, none] (SD S0 [])) := by
    rw [for_r2 (lo := 0) (hi := 63) rfl rfl (by decide)]
    refine loop_r (fun i e S => ∃ ds x1 x2 x4 x5 x6 x7, e = [some (.loc s), x1, x2, some (.loc S0.length), x4, x5, x6, x7] ∧ S = SD S0 ds ∧ Dig ds ∧ ds.length ≤ 1560) ?_ ?_ _ _ ⟨[], _, _, _, _, _, _, rfl, rfl, fun d hd => (by cases hd), Nat.zero_le _⟩
    · rintro i e S hi ⟨ds, x1, x2, x4, x5, x6, x7, rfl, rfl, hd, hl⟩
      simp only [List.set_cons_succ, List.set_cons_zero]
      have hi' : i < 63 := hi
      have q := bD_ok (S0 := S0) (s := s) (k := i) (x1 := x1) (x2 := x2) (x5 := x5) (x6 := x6) (x7 := x7) hs hb hd hl (by omega)
      rw [show (0 : Int) + (i : Int) = (i : Int) by omega]
      generalize bD _ _ = r at q ⊢
      cases r with
      | nx e2 S2 =>
        obtain ⟨ds', a1, a2, a4, a5, a6, a7, e, r1, r2⟩ := q
        cases e
        exact ⟨ds', _, _, _, _, _, _, rfl, rfl, r1, r2⟩
      | ct e2 S2 =>
        obtain ⟨ds', a1, a2, a4, a5, a6, a7, e, r1, r2⟩ := q
        cases e
        exact ⟨ds', _, _, _, _, _, _, rfl, rfl, r1, r2⟩
      | bk e2 S2 => exact q
      | rt d S2 => exact q.elim
      | exc c fs e2 S2 => exact q.elim
      | stuck => exact q.elim
    · rintro e S ⟨ds, x1, x2, x4, x5, x6, x7, rfl, rfl, hd, hl⟩
      exact ⟨ds, _, _, _, _, _, _, rfl, hd, hl⟩
  obtain ⟨ds, x1, x2, x4, x5, x6, x7, e, hd, hl⟩ := hloop
  refine ⟨ds, hd, hl, ?_⟩
  have f0 : (0 : Nat) ≤ sizeLine := Nat.zero_le _
  have fS : S0 ++ [SO.lst true []] = SD S0 [] := rfl
  unfold d_digits
  generalize hfF : sFor (iRg2 (aCons (mVar 1) (aCons (mVar 2) aNil))) (tgN 4) bD = fF at e ⊢
  simp only [mDef, sRet, sSeq, sIf, sExpr, sAsg, sNx, sBk, sCt, sPut, tgN, mBin, mUn, mMeth, mL, mM, mC, mVar, aNil, aCons, mTup, mLst, mIf, mSl, mChain, mAnd2, mOr2, mNot, tBl, tVal, tAnd2, tOr2, tNot2, startE, Rs.bind, Rs.bindS, lift, mCall, mCallC, mCall0, Rs.cold, List.length_cons, List.length_nil, List.map_cons, List.map_nil, List.replicate, List.append_eq, List.cons_append, List.nil_append, List.getElem?_cons_zero, List.getElem?_cons_succ, List.getElem?_nil, List.set_cons_zero, List.set_cons_succ, Nat.sub_self, Nat.reduceSub, Nat.reduceAdd, if_true, if_false, decide_true, decide_false, Option.map_some, Option.map_none, ite_true, ite_false, reduceIte, beq_self_eq_true, Bool.false_eq_true, Nat.zero_add, int_i, add_ii, sub_ii, lt_ii, gt_ii, ge_ii, le_ii, f0, fS, e]
/-! ### the box that is drawn from -/
def Box (S : Sto) (b k : Nat) : Prop := ∃ dl ds, S[b]? = some (.lst true [.loc dl, .int (k : Int)]) ∧ S[dl]? = some (.lst true (ds.map .int)) ∧ dl ≠ b ∧ Dig ds
def Ext (b : Nat) (S S' : Sto) : Prop := S.length ≤ S'.length ∧ ∀ n, n < S.length → n ≠ b → S'[n]? = S[n]?
theorem Ext.refl (b : Nat) (S : Sto) : Ext b S S := ⟨Nat.le_refl _, fun _ _ _ => rfl⟩
theorem Ext.trans {b : Nat} {S S1 S2 : Sto} (h : Ext b S S1) (k : Ext b S1 S2) : Ext b S S2 := ⟨Nat.le_trans h.1 k.1, fun n h1 h2 => (k.2 n (Nat.lt_of_lt_of_le h1 h.1) h2).trans (h.2 n h1 h2)⟩
theorem Ext.get {b n : Nat} {S S' : Sto} {o : SO} (h : Ext b S S') (e : S[n]? = some o) (hn : n ≠ b) : S'[n]? = some o := (h.2 n (List.getElem?_eq_some_iff.mp e).1 hn).trans e
theorem Ext.app (b : Nat) (S : Sto) (o : SO) : Ext b S (S ++ [o]) := ⟨by simp, fun n h _ => List.getElem?_append_left h⟩
theorem Ext.set {b : Nat} {S : Sto} {o : SO} : Ext b S (S.set b o) := ⟨by simp, fun n _ h2 => List.getElem?_set_ne (Ne.symm h2)⟩
/-- a place behind the old store may change -/
theorem Ext.set_new {b n : Nat} {S S' : Sto} {o : SO} (h : Ext b S S') (hn : S.length ≤ n) : Ext b S (S'.set n o) := ⟨by rw [List.length_set]; exact h.1, fun m h1 h2 => by
  rw [List.getElem?_set_ne (by omega)]; exact h.2 m h1 h2⟩
theorem Box.app {S : Sto} {b k : Nat} (h : Box S b k) (o : SO) : Box (S ++ [o]) b k := by
  obtain ⟨dl, ds, h1, h2, h3, h4⟩ := h
  exact ⟨dl, ds, by rw [List.getElem?_append_left (List.getElem?_eq_some_iff.mp h1).1]; exact h1, by rw [List.getElem?_append_left (List.getElem?_eq_some_iff.mp h2).1]; exact h2, h3, h4⟩
theorem Box.lt {S : Sto} {b k : Nat} (h : Box S b k) : b < S.length := by
  obtain ⟨dl, ds, h1, _⟩ := h
  exact (List.getElem?_eq_some_iff.mp h1).1
/-- a change at another place that holds no box and no digits of it: told by Ext and the box's own place -/
theorem Box.keep {S S' : Sto} {b k : Nat} (h : Box S b k) (e : ∀ n, n < S.length → S'[n]? = S[n]?) : Box S' b k := by
  obtain ⟨dl, ds, h1, h2, h3, h4⟩ := h
  exact ⟨dl, ds, by rw [e _ (List.getElem?_eq_some_iff.mp h1).1]; exact h1, by rw [e _ (List.getElem?_eq_some_iff.mp h2).1]; exact h2, h3, h4⟩
theorem drawV_range {ds : List Int} {k : Nat} {many : Int} (hm : 0 < many) : 0 ≤ drawV ds k many ∧ drawV ds k many < many := by
  unfold drawV
  exact ⟨Int.emod_nonneg _ (by omega), Int.emod_lt_of_pos _ hm⟩
theorem draw_ok {S : Sto} {b k : Nat} {many : Int} (B : Box S b k) (hk : k < 2 ^ 200) (hm : 0 < many) :
    ∃ r S', 0 ≤ r ∧ r < many ∧ d_draw [.loc b, .int many] S = .ok (.int r) S' ∧ Ext b S S' ∧ Box S' b (k + 1) ∧ S'.length = S.length := by
  obtain ⟨dl, ds, h1, h2, h3, h4⟩ := B
  obtain ⟨r1, r2⟩ := drawV_range (ds := ds) (k := k) hm
  refine ⟨_, _, r1, r2, draw_eq h1 h2 h3 hk hm, Ext.set, ⟨dl, ds, ?_, ?_, h3, h4⟩, by simp⟩
  · rw [List.getElem?_set_self (List.getElem?_eq_some_iff.mp h1).1]
  · rw [List.getElem?_set_ne (Ne.symm h3)]; exact h2
/-! ### comprehensions -/
/-- over a range, every item kept; the elements may draw -/
theorem lc_range {lo : Int} {cnt n j : Nat} {me : MV} {e : Nv} {P : D → Prop} (I : Nat → Sto → Prop) (hI : ∀ i S ys, I i S → I i (S.set n (.lst true ys)))
    (hs : ∀ i S, i < cnt → I i S → ∃ y S', me (e.set j (some (.int (lo + i)))) S = .ok y S' ∧ P y ∧ I (i + 1) S' ∧ S'[n]? = S[n]?) (hz : cnt ≤ sizeLine) (S : Sto) (h0 : I 0 S) (hn : S[n]? = some (.lst true [])) :
    ∃ ys S', loopC (itR lo 1 cnt) (tgN j) tOk me n e cnt 0 S = .ok (.loc n) S' ∧ S'[n]? = some (.lst true ys) ∧ ys.length = cnt ∧ (∀ y ∈ ys, P y) ∧ I cnt S' := by
  have key : ∀ (m i : Nat) (S : Sto) (acc : List D), i + m = cnt → I i S → S[n]? = some (.lst true acc) → acc.length = i → (∀ y ∈ acc, P y) →
      ∃ ys S', loopC (itR lo 1 cnt) (tgN j) tOk me n e m i S = .ok (.loc n) S' ∧ S'[n]? = some (.lst true ys) ∧ ys.length = cnt ∧ (∀ y ∈ ys, P y) ∧ I cnt S' := by
    intro m
    induction m with
    | zero =>
      intro i S acc hi h1 h2 h3 h4
      have e1 : i = cnt := by omega
      subst e1
      refine ⟨acc, S, ?_, h2, h3, h4, h1⟩
      unfold loopC itR
      simp only [Nat.lt_irrefl, if_false]
    | succ m ih =>
      intro i S acc hi h1 h2 h3 h4
      have hlt : i < cnt := by omega
      obtain ⟨y, S1, q1, q2, q3, q4⟩ := hs i S hlt h1
      have e1 : (itR lo 1 cnt).at_ i S = some (some (.int (lo + i))) := by
        show (if i < cnt then some (some (D.int (lo + (i : Int) * 1))) else some none) = _
        rw [if_pos hlt, Int.mul_one]
      have hnl : n < S1.length := by rw [h2] at q4; exact (List.getElem?_eq_some_iff.mp q4).1
      obtain ⟨ys, S', r1, r2⟩ := ih (i + 1) (S1.set n (.lst true (acc ++ [y]))) (acc ++ [y]) (by omega) (hI _ _ _ q3) (List.getElem?_set_self hnl) (by simp [h3]) (fun z hz => by
        rcases List.mem_append.mp hz with q | q
        · exact h4 z q
        · rw [List.mem_singleton.mp q]; exact q2)
      refine ⟨ys, S', ?_, r2⟩
      rw [← r1]
      have hz2 : acc.length < sizeLine := by omega
      rw [loopC]
      simp only [e1, tgN, tOk, Rs.bind, if_true, q1, q4, h2, if_pos hz2]
  exact key cnt 0 S [] (by omega) h0 hn rfl (fun y hy => by cases hy)
/-- over fixed items, nothing drawn: a filter -/
theorem lc_pure {it : ItM} {cnt n : Nat} {tg : Tg} {tt : MT} {me : MV} {e : Nv} {xs : List D} (t : D → Bool) (g : D → D) (hit : ∀ i S, it.at_ i S = some xs[i]?) (hc : cnt = xs.length) (hz : xs.length ≤ sizeLine) (S0 : Sto)
    (hs : ∀ x ∈ xs, ∀ acc, ∃ e1, tg x e = some e1 ∧ tt e1 (S0 ++ [.lst true acc]) = .ok (t x) (S0 ++ [.lst true acc]) ∧ (t x = true → me e1 (S0 ++ [.lst true acc]) = .ok (g x) (S0 ++ [.lst true acc]))) (hn : n = S0.length) :
    loopC it tg tt me n e cnt 0 (S0 ++ [.lst true []]) = .ok (.loc n) (S0 ++ [.lst true ((xs.filter t).map g)]) := by
  have key : ∀ (m i : Nat) (acc : List D), i + m = cnt → acc = ((xs.take i).filter t).map g → loopC it tg tt me n e m i (S0 ++ [.lst true acc]) = .ok (.loc n) (S0 ++ [.lst true ((xs.filter t).map g)]) := by
    intro m
    induction m with
    | zero =>
      intro i acc hi ha
      have e1 : i = xs.length := by omega
      have e2 : xs[i]? = none := List.getElem?_eq_none_iff.mpr (by omega)
      rw [loopC]
      simp only [hit, e2]
      rw [ha, e1, List.take_length]
    | succ m ih =>
      intro i acc hi ha
      have hlt : i < xs.length := by omega
      have e1 : xs[i]? = some xs[i] := List.getElem?_eq_getElem hlt
      obtain ⟨e2, h1, h2, h3⟩ := hs xs[i] (List.getElem_mem hlt) acc
      have tk : xs.take (i + 1) = xs.take i ++ [xs[i]] := by rw [List.take_add_one, e1]; rfl
      rw [loopC]
      simp only [hit, e1, h1, h2, Rs.bind]
      cases ht : t xs[i] with
      | false =>
        simp only [Bool.false_eq_true, if_false]
        refine ih (i + 1) acc (by omega) ?_
        rw [ha, tk, List.filter_append, List.filter_cons_of_neg (by simp [ht]), List.filter_nil, List.append_nil]
      | true =>
        have hl : acc.length < sizeLine := by
          have : acc.length ≤ i := by
            rw [ha, List.length_map]
            exact Nat.le_trans (List.length_filter_le _ _) (by rw [List.length_take]; omega)
          omega
        have e3 : (S0 ++ [SO.lst true acc])[n]? = some (.lst true acc) := by rw [hn]; simp
        have e4 : ∀ acc', (S0 ++ [SO.lst true acc]).set n (.lst true acc') = S0 ++ [.lst true acc'] := fun acc' => by rw [hn]; simp
        simp only [if_true, h3 ht, e3, if_pos hl, e4]
        refine ih (i + 1) _ (by omega) ?_
        rw [ha, tk, List.filter_append, List.filter_cons_of_pos ht, List.filter_nil, List.map_append]
        rfl
  exact key cnt 0 [] (by omega) rfl
end P0
end

section
set_option Elab.async false
set_option linter.all false
set_option maxRecDepth 100000
/-! P1: texts, plainly. -/
namespace P0
open PySem PySem.Spec M2 PyProof.Rows PySem.Builtin PySem.Builtin.Str
set_option autoImplicit false
theorem getD_mem {x : Str} {k : Nat} (h : k < x.length) : x.cps.getD k 0 ∈ x.cps.toList := by
  have h' : k < x.cps.size := h
  simp [Array.getD, h']
theorem strip_nil (goes : Nat → Bool) (x : Str) : Txt.stripBy goes true true x = Str.empty ↔ ∀ c ∈ x.cps.toList, goes c = true := by
  obtain ⟨l1, l2, l3⟩ := lo_facts goes x
  obtain ⟨h1, h2, h3, h4⟩ := hi_facts goes x _ l1
  rw [stripBy_eq]
  generalize stripLo goes true x = lo at *
  generalize stripHi goes true x lo = hi at *
  have hsz : (strSub x lo hi).cps.size = hi - lo := by
    unfold strSub
    have h2' : hi ≤ x.cps.size := h2
    simp only [Array.size_extract]
    omega
  constructor
  · intro e c hc
    rw [e] at hsz
    have hz : hi - lo = 0 := by rw [← hsz]; rfl
    have hlen : lo = x.length := by
      rcases l3 with q | q
      · exact q
      · by_cases hl : lo < x.length
        · rw [h3 lo (by omega) hl] at q
          cases q
        · omega
    obtain ⟨k, hk, rfl⟩ := List.mem_iff_getElem.mp hc
    have hk' : k < x.cps.size := by simpa using hk
    have := l2 k (by rw [hlen]; exact hk')
    simpa [Array.getD, hk'] using this
  · intro h
    have hlen : lo = x.length := by
      rcases l3 with q | q
      · exact q
      · by_cases hl : lo < x.length
        · rw [h _ (getD_mem hl)] at q
          cases q
        · omega
    have : (strSub x lo hi).cps.size = 0 := by omega
    have e := Array.size_eq_zero_iff.mp this
    show strSub x lo hi = ⟨#[]⟩
    cases hs : strSub x lo hi with
    | mk cps => rw [hs] at e; simp at e; rw [e]
theorem stripChars_nil (x y : Str) : decide (Txt.stripChars x y = Str.empty) = x.cps.toList.all fun c => decide (c ∈ y.cps.toList) := by
  have e : (Txt.stripChars x y = Str.empty) ↔ ∀ c ∈ x.cps.toList, c ∈ y.cps.toList := by
    unfold Txt.stripChars
    rw [strip_nil]
    exact ⟨fun h c hc => by simpa using h c hc, fun h c hc => by simpa using h c hc⟩
  rw [Bool.eq_iff_iff, decide_eq_true_eq, e, List.all_eq_true]
  simp
theorem in_one {S : Sto} {c : Nat} {z : Str} : oIn2 (.str ⟨#[c]⟩) (.str z) S = some (.bl (decide (c ∈ z.cps.toList)), S) := by
  show (some (!(Builtin.Str.occurrences z ⟨#[c]⟩ 0 z.length 1).isEmpty)).map (fun k => (D.bl k, S)) = _
  rw [PySem.StrLaws.found_one]
  rfl
theorem notIn_one {S : Sto} {c : Nat} {z : Str} : oNotIn2 (.str ⟨#[c]⟩) (.str z) S = some (.bl (!decide (c ∈ z.cps.toList)), S) := by
  show (some (!(Builtin.Str.occurrences z ⟨#[c]⟩ 0 z.length 1).isEmpty)).map (fun k => (D.bl !k, S)) = _
  rw [PySem.StrLaws.found_one]
  rfl
theorem eq_ss {S : Sto} {x y : Str} : oEq (.str x) (.str y) S = some (.bl (decide (x = y)), S) := rfl
theorem ne_ss {S : Sto} {x y : Str} : oNe (.str x) (.str y) S = some (.bl (!decide (x = y)), S) := rfl
theorem eq_ii {S : Sto} {x y : Int} : oEq (.int x) (.int y) S = some (.bl (decide (x = y)), S) := rfl
theorem ne_ii {S : Sto} {x y : Int} : oNe (.int x) (.int y) S = some (.bl (!decide (x = y)), S) := rfl
/-- is every sign of x one of y -/
def allIn (x y : Str) : Bool := x.cps.toList.all fun c => decide (c ∈ y.cps.toList)
abbrev d_consists : MF := mDef 2 2 (sRet (mBin oEq (mMeth "str" oStrip1 (mVar 0) (aCons (mVar 1) aNil)) (mC (.str ""))))
theorem consists_eq {S : Sto} {x y : Str} (h : x.length ≤ sizeLine) : d_consists [.str x, .str y] S = .ok (.bl (allIn x y)) S := by
  have f1 : oStrip1 (.str x) [.str y] S = some (.str (Txt.stripChars x y), S) := by
    show (if okS x = true then some (D.str (Txt.stripChars x y), S) else none) = _
    rw [if_pos (show okS x = true from decide_eq_true h)]
  have f2 : rcvD S (.str x) "str" = true := rfl
  have f3 : oEq (.str (Txt.stripChars x y)) (.str "") S = some (.bl (allIn x y), S) := by
    rw [eq_ss]
    have : decide (Txt.stripChars x y = "") = allIn x y := stripChars_nil x y
    rw [this]
  unfold d_consists
  simp only [mDef, sRet, sSeq, sIf, sExpr, sAsg, sNx, sBk, sCt, sPut, tgN, mBin, mUn, mMeth, mL, mM, mC, mVar, aNil, aCons, mTup, mLst, mIf, mSl, mChain, mAnd2, mOr2, mNot, tBl, tVal, tAnd2, tOr2, tNot2, startE, Rs.bind, Rs.bindS, lift, mCall, mCallC, mCall0, Rs.cold, List.length_cons, List.length_nil, List.map_cons, List.map_nil, List.replicate, List.append_eq, List.cons_append, List.nil_append, List.getElem?_cons_zero, List.getElem?_cons_succ, List.getElem?_nil, List.set_cons_zero, List.set_cons_succ, Nat.sub_self, Nat.reduceSub, Nat.reduceAdd, if_true, if_false, decide_true, decide_false, Option.map_some, Option.map_none, ite_true, ite_false, reduceIte, beq_self_eq_true, Bool.false_eq_true, Nat.zero_add, int_i, add_ii, sub_ii, lt_ii, gt_ii, ge_ii, le_ii, f2, f1, f3]

/-- the store has only grown -/
def Gr (S S' : Sto) : Prop := ∃ T, S' = S ++ T
theorem Gr.refl (S : Sto) : Gr S S := ⟨[], by simp⟩
theorem Gr.trans {S S1 S2 : Sto} (h : Gr S S1) (k : Gr S1 S2) : Gr S S2 := by
  obtain ⟨T, rfl⟩ := h
  obtain ⟨U, rfl⟩ := k
  exact ⟨T ++ U, by simp⟩
theorem Gr.one (S : Sto) (o : SO) : Gr S (S ++ [o]) := ⟨[o], rfl⟩
theorem Gr.get {S S' : Sto} {n : Nat} {o : SO} (h : Gr S S') (e : S[n]? = some o) : S'[n]? = some o := by
  obtain ⟨T, rfl⟩ := h
  rw [List.getElem?_append_left (List.getElem?_eq_some_iff.mp e).1]
  exact e
theorem Gr.box {S S' : Sto} {b k : Nat} (h : Gr S S') (B : Box S b k) : Box S' b k := by
  obtain ⟨T, rfl⟩ := h
  exact B.keep fun n hn => List.getElem?_append_left hn
theorem Gr.ext {S S' : Sto} (b : Nat) (h : Gr S S') : Ext b S S' := by
  obtain ⟨T, rfl⟩ := h
  exact ⟨by simp, fun n hn _ => List.getElem?_append_left hn⟩
/-- what a thing is -/
def NotStr (S : Sto) (d : D) : Prop := ∃ t, tyD S d = some t ∧ t ≠ "str"
theorem type_of {S : Sto} {d : D} {t : String} (h : tyD S d = some t) : oType [d] S = some (.ty t, S) := by
  show (tyD S d).map (fun t => (D.ty t, S)) = _
  rw [h]; rfl
theorem is_ty {S : Sto} {a b : String} : oIs (.ty a) (.ty b) S = some (.bl (decide (a = b)), S) := by rfl
theorem isNot_ty {S : Sto} {a b : String} : oIsNot (.ty a) (.ty b) S = some (.bl (!decide (a = b)), S) := by rfl
def smallB (x : Str) (most : Int) : Bool := decide (1 ≤ (x.length : Int)) && (decide ((x.length : Int) ≤ most) && allIn x "abcdefghijklmnopqrstuvwxyz")
abbrev d_small : MF := mDef 2 2 (sRet (mAnd2 (mBin oIs (mL oType (aCons (mVar 0) aNil)) (mC (.ty "str"))) (mAnd2 (mChain oLe oLe (mC (.int 1)) (mL oLen (aCons (mVar 0) aNil)) (mVar 1)) (mCall d_consists (aCons (mVar 0) (aCons (mC (.str "abcdefghijklmnopqrstuvwxyz")) aNil))))))
theorem len_s {S : Sto} {x : Str} (h : x.length ≤ sizeLine) : oLen [.str x] S = some (.int x.length, S) := by
  show (if x.length ≤ sizeLine then some (D.int x.length, S) else none) = _
  rw [if_pos h]
theorem small_str {S : Sto} {x : Str} {most : Int} (h : x.length ≤ sizeLine) : d_small [.str x, .int most] S = .ok (.bl (smallB x most)) S := by
  have f1 : oType [.str x] S = some (.ty "str", S) := rfl
  have f2 : oIs (.ty "str") (.ty "str") S = some (.bl true, S) := rfl
  have f3 := consists_eq (S := S) (y := "abcdefghijklmnopqrstuvwxyz") h
  unfold d_small smallB
  generalize hc : d_consists = dc at f3 ⊢
  cases h1 : decide (1 ≤ (x.length : Int)) with
  | false =>
    simp only [mDef, sRet, sSeq, sIf, sExpr, sAsg, sNx, sBk, sCt, sPut, tgN, mBin, mUn, mMeth, mL, mM, mC, mVar, aNil, aCons, mTup, mLst, mIf, mSl, mChain, mAnd2, mOr2, mNot, tBl, tVal, tAnd2, tOr2, tNot2, startE, Rs.bind, Rs.bindS, lift, mCall, mCallC, mCall0, Rs.cold, List.length_cons, List.length_nil, List.map_cons, List.map_nil, List.replicate, List.append_eq, List.cons_append, List.nil_append, List.getElem?_cons_zero, List.getElem?_cons_succ, List.getElem?_nil, List.set_cons_zero, List.set_cons_succ, Nat.sub_self, Nat.reduceSub, Nat.reduceAdd, if_true, if_false, decide_true, decide_false, Option.map_some, Option.map_none, ite_true, ite_false, reduceIte, beq_self_eq_true, Bool.false_eq_true, Nat.zero_add, int_i, add_ii, sub_ii, lt_ii, gt_ii, ge_ii, le_ii, f1, f2, len_s h, h1, Bool.false_and]
  | true =>
    cases h2 : decide ((x.length : Int) ≤ most) with
    | false =>
      simp only [mDef, sRet, sSeq, sIf, sExpr, sAsg, sNx, sBk, sCt, sPut, tgN, mBin, mUn, mMeth, mL, mM, mC, mVar, aNil, aCons, mTup, mLst, mIf, mSl, mChain, mAnd2, mOr2, mNot, tBl, tVal, tAnd2, tOr2, tNot2, startE, Rs.bind, Rs.bindS, lift, mCall, mCallC, mCall0, Rs.cold, List.length_cons, List.length_nil, List.map_cons, List.map_nil, List.replicate, List.append_eq, List.cons_append, List.nil_append, List.getElem?_cons_zero, List.getElem?_cons_succ, List.getElem?_nil, List.set_cons_zero, List.set_cons_succ, Nat.sub_self, Nat.reduceSub, Nat.reduceAdd, if_true, if_false, decide_true, decide_false, Option.map_some, Option.map_none, ite_true, ite_false, reduceIte, beq_self_eq_true, Bool.false_eq_true, Nat.zero_add, int_i, add_ii, sub_ii, lt_ii, gt_ii, ge_ii, le_ii, f1, f2, len_s h, h1, h2, Bool.false_and, Bool.true_and]
    | true =>
      simp only [mDef, sRet, sSeq, sIf, sExpr, sAsg, sNx, sBk, sCt, sPut, tgN, mBin, mUn, mMeth, mL, mM, mC, mVar, aNil, aCons, mTup, mLst, mIf, mSl, mChain, mAnd2, mOr2, mNot, tBl, tVal, tAnd2, tOr2, tNot2, startE, Rs.bind, Rs.bindS, lift, mCall, mCallC, mCall0, Rs.cold, List.length_cons, List.length_nil, List.map_cons, List.map_nil, List.replicate, List.append_eq, List.cons_append, List.nil_append, List.getElem?_cons_zero, List.getElem?_cons_succ, List.getElem?_nil, List.set_cons_zero, List.set_cons_succ, Nat.sub_self, Nat.reduceSub, Nat.reduceAdd, if_true, if_false, decide_true, decide_false, Option.map_some, Option.map_none, ite_true, ite_false, reduceIte, beq_self_eq_true, Bool.false_eq_true, Nat.zero_add, int_i, add_ii, sub_ii, lt_ii, gt_ii, ge_ii, le_ii, f1, f2, len_s h, h1, h2, f3, Bool.true_and]
theorem small_not {S : Sto} {d : D} {most : Int} (h : NotStr S d) : d_small [d, .int most] S = .ok (.bl false) S := by
  obtain ⟨t, h1, h2⟩ := h
  have f1 := type_of h1
  have f2 : oIs (.ty t) (.ty "str") S = some (.bl false, S) := by rw [is_ty, decide_eq_false h2]
  unfold d_small
  generalize d_consists = dc
  simp only [mDef, sRet, sSeq, sIf, sExpr, sAsg, sNx, sBk, sCt, sPut, tgN, mBin, mUn, mMeth, mL, mM, mC, mVar, aNil, aCons, mTup, mLst, mIf, mSl, mChain, mAnd2, mOr2, mNot, tBl, tVal, tAnd2, tOr2, tNot2, startE, Rs.bind, Rs.bindS, lift, mCall, mCallC, mCall0, Rs.cold, List.length_cons, List.length_nil, List.map_cons, List.map_nil, List.replicate, List.append_eq, List.cons_append, List.nil_append, List.getElem?_cons_zero, List.getElem?_cons_succ, List.getElem?_nil, List.set_cons_zero, List.set_cons_succ, Nat.sub_self, Nat.reduceSub, Nat.reduceAdd, if_true, if_false, decide_true, decide_false, Option.map_some, Option.map_none, ite_true, ite_false, reduceIte, beq_self_eq_true, Bool.false_eq_true, Nat.zero_add, int_i, add_ii, sub_ii, lt_ii, gt_ii, ge_ii, le_ii, f1, f2]

/-! ### filters whose tests may lay new lists -/
theorem Gr.set_new {S0 S : Sto} {n : Nat} {o : SO} (h : Gr S0 S) (hn : S0.length ≤ n) : Gr S0 (S.set n o) := by
  obtain ⟨T, rfl⟩ := h
  refine ⟨T.set (n - S0.length) o, ?_⟩
  rw [List.set_append_right _ _ hn]
theorem lc_gr {it : ItM} {cnt n : Nat} {tg : Tg} {tt : MT} {me : MV} {e : Nv} {xs : List D} (t : D → Bool) (g : D → D) (S0 : Sto) (hit : ∀ i S, Gr S0 S → it.at_ i S = some xs[i]?) (hc : cnt = xs.length) (hz : xs.length ≤ sizeLine)
    (hs : ∀ x ∈ xs, ∀ S, Gr S0 S → ∃ e1 S1, tg x e = some e1 ∧ tt e1 S = .ok (t x) S1 ∧ Gr S S1 ∧ (t x = true → me e1 S1 = .ok (g x) S1)) (hn : n = S0.length) :
    ∃ S', loopC it tg tt me n e cnt 0 (S0 ++ [.lst true []]) = .ok (.loc n) S' ∧ Gr S0 S' ∧ S'[n]? = some (.lst true ((xs.filter t).map g)) ∧ n < S'.length := by
  have key : ∀ (m i : Nat) (acc : List D) (S : Sto), i + m = cnt → acc = ((xs.take i).filter t).map g → Gr S0 S → S[n]? = some (.lst true acc) →
      ∃ S', loopC it tg tt me n e m i S = .ok (.loc n) S' ∧ Gr S0 S' ∧ S'[n]? = some (.lst true ((xs.filter t).map g)) ∧ n < S'.length := by
    intro m
    induction m with
    | zero =>
      intro i acc S hi ha hg hS
      have e1 : i = xs.length := by omega
      have e2 : xs[i]? = none := List.getElem?_eq_none_iff.mpr (by omega)
      rw [loopC]
      simp only [hit i S hg, e2]
      refine ⟨S, rfl, hg, ?_, (List.getElem?_eq_some_iff.mp hS).1⟩
      rw [hS, ha, e1, List.take_length]
    | succ m ih =>
      intro i acc S hi ha hg hS
      have hlt : i < xs.length := by omega
      have e1 : xs[i]? = some xs[i] := List.getElem?_eq_getElem hlt
      obtain ⟨e2, S1, h1, h2, h3, h4⟩ := hs xs[i] (List.getElem_mem hlt) S hg
      have tk : xs.take (i + 1) = xs.take i ++ [xs[i]] := by rw [List.take_add_one, e1]; rfl
      rw [loopC]
      simp only [hit i S hg, e1, h1, h2, Rs.bind]
      have hS1 := h3.get hS
      cases ht : t xs[i] with
      | false =>
        simp only [Bool.false_eq_true, if_false]
        refine ih (i + 1) acc S1 (by omega) ?_ (hg.trans h3) hS1
        rw [ha, tk, List.filter_append, List.filter_cons_of_neg (by simp [ht]), List.filter_nil, List.append_nil]
      | true =>
        have hl : acc.length < sizeLine := by
          have : acc.length ≤ i := by
            rw [ha, List.length_map]
            exact Nat.le_trans (List.length_filter_le _ _) (by rw [List.length_take]; omega)
          omega
        simp only [if_true, h4 ht, hS1, if_pos hl]
        refine ih (i + 1) (acc ++ [g xs[i]]) _ (by omega) ?_ ((hg.trans h3).set_new (by omega)) (List.getElem?_set_self (List.getElem?_eq_some_iff.mp hS1).1)
        rw [ha, tk, List.filter_append, List.filter_cons_of_pos ht, List.filter_nil, List.map_append]
        rfl
  exact key cnt 0 [] (S0 ++ [.lst true []]) (by omega) rfl (Gr.one _ _) (by rw [hn]; simp)
/-- the signs of a text -/
def chars (x : Str) : List D := x.cps.toList.map fun c => .str ⟨#[c]⟩
theorem itS_at {x : Str} {i : Nat} {S : Sto} : (itS x).at_ i S = some (chars x)[i]? := by
  show some (x.cps[i]?.map fun c => D.str ⟨#[c]⟩) = _
  unfold chars
  rw [List.getElem?_map, Array.getElem?_toList]
/-- [sign for sign in x if sign not in z] -/
theorem comp_signs {e : Nv} {S : Sto} {x z : Str} {i j : Nat} {mz : MV} (hx : e[i]? = some (some (.str x))) (hj : j < e.length) (hij : i ≠ j) (hlen : x.length ≤ sizeLine) (hz : ∀ (d : D) (S1 : Sto), mz ((wipeE e [j]).set j (some d)) S1 = .ok (.str z) S1) :
    ∃ S', mLcC (iAny (mVar i)) (tgN j) (tBl (mBin oNotIn2 (mVar j) mz)) (mVar j) [j] e S = .ok (.loc S.length) S' ∧ Gr S S' ∧ S'[S.length]? = some (.lst true ((x.cps.toList.filter fun c => !decide (c ∈ z.cps.toList)).map fun c => .str ⟨#[c]⟩)) ∧ S.length < S'.length := by
  have hI : iAny (mVar i) e S = .ok (itS x) S := by
    simp only [iAny, mVar, hx, Rs.bind]
  have hjw : j < (wipeE e [j]).length := by simp [wipeE, hj]
  obtain ⟨S', h1, h2, h3, h4⟩ := lc_gr (it := itS x) (cnt := (itS x).cnt) (n := S.length) (tg := tgN j) (tt := tBl (mBin oNotIn2 (mVar j) mz)) (me := mVar j) (e := wipeE e [j]) (xs := chars x)
    (fun d => match d with | .str ⟨a⟩ => (match a.toList with | [c] => !decide (c ∈ z.cps.toList) | _ => false) | _ => false) id S (fun i S _ => itS_at) (by
      show x.cps.size = _
      unfold chars; simp) (by unfold chars; rw [List.length_map, Array.length_toList]; exact hlen) (fun d hd S1 hg => by
      obtain ⟨c, hc, rfl⟩ := List.mem_map.mp hd
      have e1 : ((wipeE e [j]).set j (some (.str ⟨#[c]⟩)))[j]? = some (some (.str ⟨#[c]⟩)) := List.getElem?_set_self hjw
      refine ⟨_, S1, rfl, ?_, Gr.refl _, fun _ => ?_⟩
      · have hz' := hz (.str ⟨#[c]⟩) S1
        simp only [tBl, mBin, mVar, e1, hz', Rs.bind, lift, notIn_one]
      · simp only [mVar, e1]
        rfl) rfl
  refine ⟨S', ?_, h2, ?_, h4⟩
  · unfold mLcC
    rw [hI]
    simp only [Rs.bind]
    rw [h1]
    rfl
  · rw [h3]
    congr 2
    unfold chars
    rw [List.filter_map, List.map_map]
    rfl

/-! ### plain data -/
def PD (S : Sto) (d : D) : Prop := ∃ p, toP 40 S d = some p ∧ p.canLay0 = true ∧ p.depth ≤ 40
theorem mapM_some_of {α β : Type} {f g : α → Option β} : ∀ {xs : List α} {ys : List β}, xs.mapM f = some ys → (∀ x y, x ∈ xs → f x = some y → g x = some y) → xs.mapM g = some ys
  | [], ys, h, _ => h
  | x :: xs, ys, h, k => by
    rw [List.mapM_cons] at h ⊢
    cases hx : f x with
    | none => rw [hx] at h; cases h
    | some y =>
      rw [hx] at h
      cases hr : xs.mapM f with
      | none => rw [hr] at h; cases h
      | some zs =>
        rw [hr] at h
        rw [k x y List.mem_cons_self hx, mapM_some_of hr fun a b ha hb => k a b (List.mem_cons_of_mem _ ha) hb]
        exact h
theorem toP_mono : ∀ {n : Nat} {S : Sto} {d : D} {p : PyData}, toP n S d = some p → ∀ {m : Nat} {S' : Sto}, n ≤ m → Gr S S' → toP m S' d = some p
  | 0, _, _, _, h, _, _, _, _ => by cases h
  | n + 1, S, d, p, h, 0, _, hm, _ => by omega
  | n + 1, S, d, p, h, m + 1, S', hm, hg => by
    cases d with
    | non => exact h
    | bl b => exact h
    | int i => exact h
    | str x => exact h
    | tup ds =>
      have h : (ds.mapM (toP n S)).map PyData.tuple = some p := h
      show (ds.mapM (toP m S')).map PyData.tuple = some p
      cases e : ds.mapM (toP n S) with
      | none => rw [e] at h; cases h
      | some ps =>
        rw [e] at h
        rw [mapM_some_of e fun x y _ hx => toP_mono hx (by omega) hg]
        exact h
    | loc k =>
      have h : (match S[k]? with
        | some (.lst _ ds) => (ds.mapM (toP n S)).map PyData.list
        | _ => none) = some p := h
      show (match S'[k]? with
        | some (.lst _ ds) => (ds.mapM (toP m S')).map PyData.list
        | _ => none) = some p
      cases e0 : S[k]? with
      | none => rw [e0] at h; cases h
      | some o =>
        cases o with
        | dic kvs => rw [e0] at h; cases h
        | lst w ds =>
          rw [hg.get e0]
          rw [e0] at h
          have h : (ds.mapM (toP n S)).map PyData.list = some p := h
          show (ds.mapM (toP m S')).map PyData.list = some p
          cases e : ds.mapM (toP n S) with
          | none => rw [e] at h; cases h
          | some ps =>
            rw [e] at h
            rw [mapM_some_of e fun x y _ hx => toP_mono hx (by omega) hg]
            exact h
    | fn x => cases h
    | ty x => cases h
theorem PD.gr {S S' : Sto} {d : D} (h : PD S d) (g : Gr S S') : PD S' d := by
  obtain ⟨p, h1, h2, h3⟩ := h
  exact ⟨p, toP_mono h1 (Nat.le_refl _) g, h2, h3⟩
theorem mapM_pd {S : Sto} {n : Nat} (hn : 40 ≤ n) : ∀ {ds : List D}, (∀ d ∈ ds, PD S d) → ∃ ps, ds.mapM (toP n S) = some ps ∧ PyData.canLayAll0 ps = true ∧ PyData.depthAll ps ≤ 40 ∧ ps.length = ds.length
  | [], _ => ⟨[], rfl, rfl, Nat.zero_le _, rfl⟩
  | d :: ds, h => by
    obtain ⟨p, h1, h2, h3⟩ := h d List.mem_cons_self
    obtain ⟨ps, k1, k2, k3, k4⟩ := mapM_pd hn fun x hx => h x (List.mem_cons_of_mem _ hx)
    refine ⟨p :: ps, ?_, ?_, ?_, by simp [k4]⟩
    · rw [List.mapM_cons, toP_mono h1 hn (Gr.refl _), k1]; rfl
    · show (PyData.canLay0 p && PyData.canLayAll0 ps) = true
      rw [h2, k2]; rfl
    · show max (PyData.depth p) (PyData.depthAll ps) ≤ 40
      omega
/-- is a list of plain things the empty list -/
theorem eq_nil {S : Sto} {a b : Nat} {w w' : Bool} {ds : List D} (ha : S[a]? = some (.lst w ds)) (hb : S[b]? = some (.lst w' [])) (h : ∀ d ∈ ds, PD S d) : eqD S (.loc a) (.loc b) = some ds.isEmpty := by
  obtain ⟨ps, k1, k2, k3, k4⟩ := mapM_pd (n := 64) (by decide) h
  have e1 : toP 65 S (.loc a) = some (.list ps) := by
    show (match S[a]? with
      | some (.lst _ ds) => (ds.mapM (toP 64 S)).map PyData.list
      | _ => none) = _
    rw [ha]
    show (ds.mapM (toP 64 S)).map PyData.list = _
    rw [k1]; rfl
  have e2 : toP 65 S (.loc b) = some (.list []) := by
    show (match S[b]? with
      | some (.lst _ ds) => (ds.mapM (toP 64 S)).map PyData.list
      | _ => none) = _
    rw [hb]; rfl
  have s1 : SeqAt.shaped (.list ps) = true := by
    show (PyData.canLayAll0 ps && decide (PyData.depthAll ps + 1 ≤ 64)) = true
    rw [k2, decide_eq_true (by omega)]; rfl
  show (match toP 65 S (.loc a), toP 65 S (.loc b) with
    | some p, some q => if (SeqAt.shaped p && SeqAt.shaped q) = true then some (PyData.eqv p q) else none
    | _, _ => none) = _
  rw [e1, e2]
  show (if (SeqAt.shaped (.list ps) && true) = true then some (PyData.eqv (.list ps) (.list [])) else none) = _
  rw [s1]
  cases ps with
  | nil =>
    cases ds with
    | nil => rfl
    | cons d ds => simp at k4
  | cons p ps =>
    cases ds with
    | nil => simp at k4
    | cons d ds => rfl
end P0
end

section
set_option Elab.async false
set_option linter.all false
set_option maxRecDepth 100000
/-! P3: rows that ascend, plainly. -/
namespace P0
open PySem PySem.Spec M2 L2 PyProof.Rows
set_option autoImplicit false
section
variable {α : Type} [DecidableEq α]
/-- does each stand before the next -/
def ascB (lt : α → α → Bool) : List α → Bool
  | a :: b :: r => lt a b && ascB lt (b :: r)
  | _ => true
theorem ascB_pw {lt : α → α → Bool} (tr : ∀ a b c, lt a b = true → lt b c = true → lt a c = true) : ∀ l : List α, ascB lt l = true ↔ l.Pairwise fun a b => lt a b = true
  | [] => by simp [ascB]
  | [a] => by simp [ascB]
  | a :: b :: r => by
    have ih := ascB_pw tr (b :: r)
    have e : ascB lt (a :: b :: r) = (lt a b && ascB lt (b :: r)) := rfl
    rw [e, Bool.and_eq_true, ih]
    constructor
    · rintro ⟨h1, h2⟩
      refine List.pairwise_cons.mpr ⟨fun c hc => ?_, h2⟩
      rcases List.mem_cons.mp hc with q | q
      · rw [q]; exact h1
      · exact tr _ _ _ h1 ((List.pairwise_cons.mp h2).1 c q)
    · intro h
      exact ⟨(List.pairwise_cons.mp h).1 b List.mem_cons_self, (List.pairwise_cons.mp h).2⟩
theorem addU_mem {L : List α} {x y : α} : y ∈ addU L x ↔ y ∈ L ∨ y = x := by
  unfold addU
  split
  · rename_i h
    exact ⟨.inl, fun z => z.elim id fun e => e ▸ h⟩
  · simp
theorem addU_nodup {L : List α} {x : α} (h : L.Nodup) : (addU L x).Nodup := by
  unfold addU
  split
  · exact h
  · rename_i hx
    rw [List.nodup_append]
    exact ⟨h, List.pairwise_singleton _ _, fun a ha b hb e => hx (by rw [List.mem_singleton.mp hb] at e; rw [← e]; exact ha)⟩
theorem uniq_nodup (xs : List α) : (uniq xs).Nodup := by
  have key : ∀ (xs L : List α), L.Nodup → (xs.foldl addU L).Nodup := by
    intro xs
    induction xs with
    | nil => intro L h; exact h
    | cons x xs ih => intro L h; exact ih _ (addU_nodup h)
  exact key xs [] List.Pairwise.nil
theorem uniq_self {xs : List α} (h : xs.Nodup) : uniq xs = xs := by
  have key : ∀ (xs L : List α), (L ++ xs).Nodup → xs.foldl addU L = L ++ xs := by
    intro xs
    induction xs with
    | nil => intro L h; simp
    | cons x xs ih =>
      intro L h
      have hx : x ∉ L := fun z => by
        have := (List.nodup_append.mp h).2.2 x z x List.mem_cons_self
        exact this rfl
      rw [List.foldl_cons]
      have e : addU L x = L ++ [x] := by unfold addU; rw [if_neg hx]
      rw [e, ih (L ++ [x]) (by simpa using h)]
      simp
  have q := key xs [] (by simpa using h)
  rw [List.nil_append] at q
  exact q
/-- a row is its own sorted set just if it ascends -/
theorem sorted_iff {lt le : α → α → Bool} (tr : ∀ a b c, lt a b = true → lt b c = true → lt a c = true) (letr : ∀ a b c, le a b = true → le b c = true → le a c = true) (letot : ∀ a b, (le a b || le b a) = true)
    (h1 : ∀ a b, lt a b = true → le a b = true ∧ a ≠ b) (h2 : ∀ a b, le a b = true → a ≠ b → lt a b = true) (l : List α) : l = (uniq l).mergeSort le ↔ ascB lt l = true := by
  rw [ascB_pw tr]
  constructor
  · intro e
    have p := List.mergeSort_perm (uniq l) le
    have nd : l.Nodup := by
      rw [e]
      exact p.nodup_iff.mpr (uniq_nodup l)
    have pw : l.Pairwise fun a b => le a b = true := by
      have q := List.pairwise_mergeSort (le := le) letr letot (uniq l)
      rw [← e] at q
      exact q
    exact (pw.and nd).imp fun ⟨a, b⟩ => h2 _ _ a b
  · intro pw
    have nd : l.Nodup := pw.imp fun h => (h1 _ _ h).2
    rw [uniq_self nd, List.mergeSort_of_pairwise (pw.imp fun h => (h1 _ _ h).1)]
end

def ltS (a b : Str) : Bool := decide (a.cps.toList < b.cps.toList)
def ltI (a b : Int) : Bool := decide (a < b)
theorem str_ext {a b : Str} (h : a.cps.toList = b.cps.toList) : a = b := by
  cases a; cases b
  simp only [Str.mk.injEq]
  exact Array.toList_inj.mp h
theorem leS_iff {a b : Str} : leS a b = true ↔ a.cps.toList ≤ b.cps.toList := by
  unfold leS
  rw [ltCps_eq]
  simp only [Bool.not_eq_true', decide_eq_false_iff_not, List.not_lt]
theorem ascS_iff (l : List Str) : (l = (uniq l).mergeSort leS) ↔ ascB ltS l = true := by
  refine sorted_iff (lt := ltS) (le := leS) (fun a b c h k => ?_) (fun a b c h k => leS_trans h k) (fun a b => leS_total a b) (fun a b h => ?_) (fun a b h hne => ?_) l
  · exact decide_eq_true (List.lt_trans (of_decide_eq_true h) (of_decide_eq_true k))
  · have h' := of_decide_eq_true h
    refine ⟨leS_iff.mpr (List.le_of_lt h'), fun e => ?_⟩
    rw [e] at h'
    exact List.lt_irrefl _ h'
  · have h' := leS_iff.mp h
    refine decide_eq_true ?_
    rcases List.le_iff_lt_or_eq.mp h' with q | q
    · exact q
    · exact absurd (str_ext q) hne
theorem ascI_iff (l : List Int) : (l = (uniq l).mergeSort leI) ↔ ascB ltI l = true := by
  refine sorted_iff (lt := ltI) (le := leI) (fun a b c h k => ?_) (fun a b c h k => ?_) (fun a b => ?_) (fun a b h => ?_) (fun a b h hne => ?_) l
  · have := of_decide_eq_true h; have := of_decide_eq_true k; exact decide_eq_true (by omega)
  · have := of_decide_eq_true h; have := of_decide_eq_true k; exact decide_eq_true (by omega)
  · unfold leI; simp only [Bool.or_eq_true, decide_eq_true_eq]; omega
  · have := of_decide_eq_true h
    exact ⟨decide_eq_true (by omega), by omega⟩
  · have := of_decide_eq_true h
    exact decide_eq_true (by omega)
/-! ### two rows alike -/
theorem mapM_emb {α : Type} {S : Sto} {n : Nat} (emb : α → D) (pe : α → PyData) (h : ∀ x, toP n S (emb x) = some (pe x)) : ∀ xs : List α, (xs.map emb).mapM (toP n S) = some (xs.map pe)
  | [] => rfl
  | x :: xs => by
    rw [List.map_cons, List.mapM_cons, h x, mapM_emb emb pe h xs]
    rfl
theorem eqvAll_emb {α : Type} [DecidableEq α] (pe : α → PyData) (h : ∀ x y, PyData.eqv (pe x) (pe y) = decide (x = y)) : ∀ xs ys : List α, PyData.eqvAll (xs.map pe) (ys.map pe) = decide (xs = ys)
  | [], [] => rfl
  | [], y :: ys => by simp [PyData.eqvAll]
  | x :: xs, [] => by simp [PyData.eqvAll]
  | x :: xs, y :: ys => by
    have e : PyData.eqvAll ((x :: xs).map pe) ((y :: ys).map pe) = (PyData.eqv (pe x) (pe y) && PyData.eqvAll (xs.map pe) (ys.map pe)) := rfl
    rw [e, h, eqvAll_emb pe h xs ys, Bool.eq_iff_iff, Bool.and_eq_true, decide_eq_true_eq, decide_eq_true_eq, decide_eq_true_eq, List.cons.injEq]
theorem lay_emb {α : Type} (pe : α → PyData) : ∀ xs : List α, (∀ x ∈ xs, (pe x).canLay0 = true ∧ (pe x).depth = 0) → PyData.canLayAll0 (xs.map pe) = true ∧ PyData.depthAll (xs.map pe) = 0
  | [], _ => ⟨rfl, rfl⟩
  | x :: xs, h => by
    obtain ⟨h1, h2⟩ := h x List.mem_cons_self
    obtain ⟨k1, k2⟩ := lay_emb pe xs fun y hy => h y (List.mem_cons_of_mem _ hy)
    constructor
    · show (PyData.canLay0 (pe x) && PyData.canLayAll0 (xs.map pe)) = true
      rw [h1, k1]; rfl
    · show max (PyData.depth (pe x)) (PyData.depthAll (xs.map pe)) = 0
      omega
theorem eq_rows {α : Type} [DecidableEq α] {S : Sto} {a b : Nat} {w w' : Bool} (emb : α → D) (pe : α → PyData) (h : ∀ x, toP 64 S (emb x) = some (pe x)) (he : ∀ x y, PyData.eqv (pe x) (pe y) = decide (x = y)) {xs ys : List α}
    (ha : S[a]? = some (.lst w (xs.map emb))) (hb : S[b]? = some (.lst w' (ys.map emb))) (hx : ∀ x ∈ xs, (pe x).canLay0 = true ∧ (pe x).depth = 0) (hy : ∀ x ∈ ys, (pe x).canLay0 = true ∧ (pe x).depth = 0) :
    eqD S (.loc a) (.loc b) = some (decide (xs = ys)) := by
  have e1 : toP 65 S (.loc a) = some (.list (xs.map pe)) := by
    show (match S[a]? with
      | some (.lst _ ds) => (ds.mapM (toP 64 S)).map PyData.list
      | _ => none) = _
    rw [ha]
    show ((xs.map emb).mapM (toP 64 S)).map PyData.list = _
    rw [mapM_emb emb pe h]; rfl
  have e2 : toP 65 S (.loc b) = some (.list (ys.map pe)) := by
    show (match S[b]? with
      | some (.lst _ ds) => (ds.mapM (toP 64 S)).map PyData.list
      | _ => none) = _
    rw [hb]
    show ((ys.map emb).mapM (toP 64 S)).map PyData.list = _
    rw [mapM_emb emb pe h]; rfl
  have sh : ∀ zs : List α, (∀ x ∈ zs, (pe x).canLay0 = true ∧ (pe x).depth = 0) → SeqAt.shaped (.list (zs.map pe)) = true := fun zs hz => by
    obtain ⟨k1, k2⟩ := lay_emb pe zs hz
    show (PyData.canLayAll0 (zs.map pe) && decide (PyData.depthAll (zs.map pe) + 1 ≤ 64)) = true
    rw [k1, k2]; rfl
  show (match toP 65 S (.loc a), toP 65 S (.loc b) with
    | some p, some q => if (SeqAt.shaped p && SeqAt.shaped q) = true then some (PyData.eqv p q) else none
    | _, _ => none) = _
  rw [e1, e2]
  show (if (SeqAt.shaped (.list (xs.map pe)) && SeqAt.shaped (.list (ys.map pe))) = true then some (PyData.eqvAll (xs.map pe) (ys.map pe)) else none) = _
  rw [sh xs hx, sh ys hy, eqvAll_emb pe he]
  rfl
theorem eq_strs {S : Sto} {a b : Nat} {w w' : Bool} {xs ys : List Str} (ha : S[a]? = some (.lst w (xs.map .str))) (hb : S[b]? = some (.lst w' (ys.map .str))) (hx : ∀ x ∈ xs, PyData.strOk x = true) (hy : ∀ x ∈ ys, PyData.strOk x = true) :
    eqD S (.loc a) (.loc b) = some (decide (xs = ys)) :=
  eq_rows D.str PyData.str (fun _ => rfl) (fun x y => by
    show (x == y) = _
    rw [Bool.eq_iff_iff, beq_iff_eq, decide_eq_true_eq]) ha hb (fun x h => ⟨hx x h, rfl⟩) fun x h => ⟨hy x h, rfl⟩
theorem eq_ints {S : Sto} {a b : Nat} {w w' : Bool} {xs ys : List Int} (ha : S[a]? = some (.lst w (xs.map .int))) (hb : S[b]? = some (.lst w' (ys.map .int))) : eqD S (.loc a) (.loc b) = some (decide (xs = ys)) :=
  eq_rows D.int PyData.int (fun _ => rfl) (fun x y => by
    show (x == y) = _
    rw [Bool.eq_iff_iff, beq_iff_eq, decide_eq_true_eq]) ha hb (fun x h => ⟨rfl, rfl⟩) fun x h => ⟨rfl, rfl⟩
theorem filter_true {α : Type} (xs : List α) : xs.filter (fun _ => true) = xs := List.filter_eq_self.mpr fun _ _ => rfl
theorem bols_map : ∀ bs : List Bool, M2.bolsOf (bs.map D.bl) = some bs
  | [] => rfl
  | b :: bs => by
    show (M2.bolsOf (bs.map D.bl)).map (b :: ·) = _
    rw [bols_map bs]; rfl
theorem zipAt_zip {xs ys : List D} {i : Nat} : zipAt xs ys i = ((List.zip xs ys).map fun p => D.tup [p.1, p.2])[i]? := by
  rw [List.getElem?_map]
  unfold zipAt
  cases h1 : xs[i]? with
  | none =>
    have : (List.zip xs ys)[i]? = none := by
      rw [List.getElem?_eq_none_iff, List.length_zip]
      have := List.getElem?_eq_none_iff.mp h1
      omega
    rw [this]; rfl
  | some x =>
    cases h2 : ys[i]? with
    | none =>
      have : (List.zip xs ys)[i]? = none := by
        rw [List.getElem?_eq_none_iff, List.length_zip]
        have := List.getElem?_eq_none_iff.mp h2
        omega
      rw [this]; rfl
    | some y =>
      have : (List.zip xs ys)[i]? = some (x, y) := List.getElem?_zip_eq_some.mpr ⟨h1, h2⟩
      rw [this]; rfl
theorem cut1 {d : D} {rest : List D} : M2.cutD (d :: rest) (some 1) none = rest := by
  unfold M2.cutD
  have h1 : HT.sIx (d :: rest).length 0 (some 1) = 1 := by
    have := HT.sIx_nat (d :: rest).length 0 1
    rw [show ((1 : Nat) : Int) = 1 from rfl] at this
    rw [this, List.length_cons]; omega
  have h2 : HT.sIx (d :: rest).length (d :: rest).length none = (d :: rest).length := rfl
  rw [h1, h2, List.drop_succ_cons, List.drop_zero, List.length_cons, Nat.add_sub_cancel, List.take_length]
theorem ascB_zip {α : Type} (lt : α → α → Bool) : ∀ xs : List α, ascB lt xs = (List.zip xs xs.tail).all fun p => lt p.1 p.2
  | [] => rfl
  | [a] => rfl
  | a :: b :: r => by
    have ih := ascB_zip lt (b :: r)
    show (lt a b && ascB lt (b :: r)) = _
    rw [ih]; rfl
abbrev d_asc : MF := mDef 3 1 (sRet (mL oAll (aCons (mLcC (iZip (aCons (mVar 0) (aCons (mSl (mVar 0) (pAt (mC (.int 1))) pNo) aNil))) (tgT [(tgN 1), (tgN 2)]) tOk (mBin oLt (mVar 1) (mVar 2)) [1, 2]) aNil)))
def ltD (d : D) : D := match d with
  | .tup [a, b] => (match oLt a b [] with
    | some (r, _) => r
    | none => .non)
  | _ => .non
theorem asc_eq {α : Type} {S : Sto} (emb : α → D) (lt : α → α → Bool) (h : ∀ a b (S : Sto), oLt (emb a) (emb b) S = some (.bl (lt a b), S)) (xs : List α) (hl : xs.length ≤ sizeLine) :
    ∃ S', d_asc [.tup (xs.map emb)] S = .ok (.bl (ascB lt xs)) S' ∧ Gr S S' := by
  have tl : oSl (.tup (xs.map emb)) (some 1) none S = some (.tup (xs.map emb).tail, S) := by
    show some (D.tup (M2.cutD (xs.map emb) (some 1) none), S) = _
    cases xs with
    | nil => rfl
    | cons x r => rw [List.map_cons, cut1]; rfl
  have hI : (iZip (aCons (mVar 0) (aCons (mSl (mVar 0) (pAt (mC (.int 1))) pNo) aNil))) [some (.tup (xs.map emb)), none, none] S = .ok (itZT (xs.map emb) (xs.map emb).tail) S := by
    have a1 : (aCons (mVar 0) (aCons (mSl (mVar 0) (pAt (mC (.int 1))) pNo) aNil)) [some (.tup (xs.map emb)), none, none] S = .ok [.tup (xs.map emb), .tup (xs.map emb).tail] S := by
      simp only [mDef, sRet, sSeq, sIf, sExpr, sAsg, sNx, sBk, sCt, sPut, tgN, mBin, mUn, mMeth, mL, mM, mC, mVar, aNil, aCons, mTup, mLst, mIf, mSl, mChain, mAnd2, mOr2, mNot, tBl, tVal, tAnd2, tOr2, tNot2, startE, Rs.bind, Rs.bindS, lift, mCall, mCallC, mCall0, Rs.cold, List.length_cons, List.length_nil, List.map_cons, List.map_nil, List.replicate, List.append_eq, List.cons_append, List.nil_append, List.getElem?_cons_zero, List.getElem?_cons_succ, List.getElem?_nil, List.set_cons_zero, List.set_cons_succ, Nat.sub_self, Nat.reduceSub, Nat.reduceAdd, if_true, if_false, decide_true, decide_false, Option.map_some, Option.map_none, ite_true, ite_false, reduceIte, beq_self_eq_true, Bool.false_eq_true, Nat.zero_add, int_i, add_ii, sub_ii, lt_ii, gt_ii, ge_ii, le_ii, pAt, pNo, tl]
    show ((aCons (mVar 0) (aCons (mSl (mVar 0) (pAt (mC (.int 1))) pNo) aNil)) [some (.tup (xs.map emb)), none, none] S).bind _ = _
    rw [a1]; rfl
  have hz : (List.zip (xs.map emb) (xs.map emb).tail).map (fun p => D.tup [p.1, p.2]) = (List.zip xs xs.tail).map fun p => D.tup [emb p.1, emb p.2] := by
    rw [← List.map_tail, List.zip_map, List.map_map]
    rfl
  obtain ⟨S', c1, c2, c3, c4⟩ := lc_gr (it := itZT (xs.map emb) (xs.map emb).tail) (cnt := (itZT (xs.map emb) (xs.map emb).tail).cnt) (n := S.length) (tg := tgT [(tgN 1), (tgN 2)]) (tt := tOk) (me := mBin oLt (mVar 1) (mVar 2)) (e := wipeE [some (.tup (xs.map emb)), none, none] [1, 2])
    (xs := (List.zip xs xs.tail).map fun p => D.tup [emb p.1, emb p.2]) (fun _ => true) ltD S (fun i S1 _ => by
      show some (zipAt (xs.map emb) (xs.map emb).tail i) = _
      rw [zipAt_zip, hz]) (by
      show min (xs.map emb).length (xs.map emb).tail.length = _
      simp only [List.length_map, List.length_zip, List.length_tail]) (by
      rw [List.length_map, List.length_zip]; omega) (fun d hd S1 hg => by
      obtain ⟨p, hp, rfl⟩ := List.mem_map.mp hd
      refine ⟨_, S1, rfl, rfl, Gr.refl _, fun _ => ?_⟩
      have e1 : ltD (.tup [emb p.1, emb p.2]) = .bl (lt p.1 p.2) := by
        show (match oLt (emb p.1) (emb p.2) [] with
          | some (r, _) => r
          | none => .non) = _
        rw [h]
      rw [e1]
      simp only [mDef, sRet, sSeq, sIf, sExpr, sAsg, sNx, sBk, sCt, sPut, tgN, mBin, mUn, mMeth, mL, mM, mC, mVar, aNil, aCons, mTup, mLst, mIf, mSl, mChain, mAnd2, mOr2, mNot, tBl, tVal, tAnd2, tOr2, tNot2, startE, Rs.bind, Rs.bindS, lift, mCall, mCallC, mCall0, Rs.cold, List.length_cons, List.length_nil, List.map_cons, List.map_nil, List.replicate, List.append_eq, List.cons_append, List.nil_append, List.getElem?_cons_zero, List.getElem?_cons_succ, List.getElem?_nil, List.set_cons_zero, List.set_cons_succ, Nat.sub_self, Nat.reduceSub, Nat.reduceAdd, if_true, if_false, decide_true, decide_false, Option.map_some, Option.map_none, ite_true, ite_false, reduceIte, beq_self_eq_true, Bool.false_eq_true, Nat.zero_add, int_i, add_ii, sub_ii, lt_ii, gt_ii, ge_ii, le_ii, wipeE, h]) rfl
  have e2 : (((List.zip xs xs.tail).map fun p => D.tup [emb p.1, emb p.2]).filter fun _ => true).map ltD = ((List.zip xs xs.tail).map fun p => lt p.1 p.2).map D.bl := by
    rw [filter_true, List.map_map, List.map_map]
    refine List.map_congr_left fun p _ => ?_
    show (match oLt (emb p.1) (emb p.2) [] with
      | some (r, _) => r
      | none => .non) = _
    rw [h]; rfl
  rw [e2] at c3
  have hA : oAll [.loc S.length] S' = some (.bl (ascB lt xs), S') := by
    show (match S'[S.length]? with
      | some (.lst _ xs) => (M2.bolsOf xs).map fun (ns : List Bool) => (D.bl (ns.all id), S')
      | _ => none) = _
    rw [c3]
    show (M2.bolsOf (((List.zip xs xs.tail).map fun p => lt p.1 p.2).map D.bl)).map (fun (ns : List Bool) => (D.bl (ns.all id), S')) = _
    rw [bols_map, ascB_zip]
    show some (D.bl (((List.zip xs xs.tail).map fun p => lt p.1 p.2).all id), S') = _
    rw [List.all_map]; rfl
  have hm : mLcC (iZip (aCons (mVar 0) (aCons (mSl (mVar 0) (pAt (mC (.int 1))) pNo) aNil))) (tgT [(tgN 1), (tgN 2)]) tOk (mBin oLt (mVar 1) (mVar 2)) [1, 2] [some (.tup (xs.map emb)), none, none] S = .ok (.loc S.length) S' := by
    unfold mLcC
    rw [hI]
    simp only [Rs.bind]
    rw [c1]; rfl
  refine ⟨S', ?_, c2⟩
  unfold d_asc
  generalize mLcC (iZip (aCons (mVar 0) (aCons (mSl (mVar 0) (pAt (mC (.int 1))) pNo) aNil))) (tgT [(tgN 1), (tgN 2)]) tOk (mBin oLt (mVar 1) (mVar 2)) [1, 2] = mm at hm ⊢
  simp only [mDef, sRet, sSeq, sIf, sExpr, sAsg, sNx, sBk, sCt, sPut, tgN, mBin, mUn, mMeth, mL, mM, mC, mVar, aNil, aCons, mTup, mLst, mIf, mSl, mChain, mAnd2, mOr2, mNot, tBl, tVal, tAnd2, tOr2, tNot2, startE, Rs.bind, Rs.bindS, lift, mCall, mCallC, mCall0, Rs.cold, List.length_cons, List.length_nil, List.map_cons, List.map_nil, List.replicate, List.append_eq, List.cons_append, List.nil_append, List.getElem?_cons_zero, List.getElem?_cons_succ, List.getElem?_nil, List.set_cons_zero, List.set_cons_succ, Nat.sub_self, Nat.reduceSub, Nat.reduceAdd, if_true, if_false, decide_true, decide_false, Option.map_some, Option.map_none, ite_true, ite_false, reduceIte, beq_self_eq_true, Bool.false_eq_true, Nat.zero_add, int_i, add_ii, sub_ii, lt_ii, gt_ii, ge_ii, le_ii, hm, hA]
end P0
end

section
set_option Elab.async false
set_option linter.all false
set_option maxRecDepth 100000
set_option maxHeartbeats 4000000
namespace K29
open PySem PySem.Spec PyProof.Rows L2 M2
set_option autoImplicit false
def top (i : Nat) : Stmt := PySem.Challenge.pw_oncemail_k29_names_and_deeds.main.body.getD i (.Pass ⟨0, 0, 0, 0⟩)
def fuelW : Nat := 100000
/-! ### the texts -/
abbrev s__law_cell : Stmt := top 29
theorem sc__law_cell : FnScope ["script", "k"] ["script", "k"] (defScope s__law_cell) := ⟨rfl, rfl, rfl, by decide +kernel, rfl, by decide +kernel, by decide +kernel⟩
abbrev s__law_digits : Stmt := top 30
theorem sc__law_digits : FnScope ["script", "first", "last", "digits", "k", "cell", "turn", "seed"] ["script", "first", "last"] (defScope s__law_digits) := ⟨rfl, rfl, rfl, by decide +kernel, rfl, by decide +kernel, by decide +kernel⟩
abbrev s__law_draw : Stmt := top 31
theorem sc__law_draw : FnScope ["box", "many", "at"] ["box", "many"] (defScope s__law_draw) := ⟨rfl, rfl, rfl, by decide +kernel, rfl, by decide +kernel, by decide +kernel⟩
abbrev s__law_word : Stmt := top 41
theorem sc__law_word : FnScope ["box", "signs", "many", "k"] ["box"] (defScope s__law_word) := ⟨rfl, rfl, rfl, by decide +kernel, rfl, by decide +kernel, by decide +kernel⟩
abbrev s__law_thing : Stmt := top 42
theorem sc__law_thing : FnScope ["box", "kind", "k"] ["box"] (defScope s__law_thing) := ⟨rfl, rfl, rfl, by decide +kernel, rfl, by decide +kernel, by decide +kernel⟩
abbrev s__law_deed_drawn : Stmt := top 43
theorem sc__law_deed_drawn : FnScope ["box", "deeds", "deed", "at"] ["box"] (defScope s__law_deed_drawn) := ⟨rfl, rfl, rfl, by decide +kernel, rfl, by decide +kernel, by decide +kernel⟩
abbrev s__law_small : Stmt := top 33
theorem sc__law_small : FnScope ["thing", "most", "sign"] ["thing", "most"] (defScope s__law_small) := ⟨rfl, rfl, rfl, by decide +kernel, rfl, by decide +kernel, by decide +kernel⟩
abbrev s__law_name : Stmt := top 34
theorem sc__law_name : FnScope ["thing", "signs", "sign"] ["thing"] (defScope s__law_name) := ⟨rfl, rfl, rfl, by decide +kernel, rfl, by decide +kernel, by decide +kernel⟩
abbrev s__law_flags : Stmt := top 36
theorem sc__law_flags : FnScope ["thing", "one"] ["thing"] (defScope s__law_flags) := ⟨rfl, rfl, rfl, by decide +kernel, rfl, by decide +kernel, by decide +kernel⟩
abbrev s__law_number : Stmt := top 35
theorem sc__law_number : FnScope ["thing", "least"] ["thing", "least"] (defScope s__law_number) := ⟨rfl, rfl, rfl, by decide +kernel, rfl, by decide +kernel, by decide +kernel⟩
abbrev s__law_uids : Stmt := top 37
theorem sc__law_uids : FnScope ["thing", "one"] ["thing"] (defScope s__law_uids) := ⟨rfl, rfl, rfl, by decide +kernel, rfl, by decide +kernel, by decide +kernel⟩
abbrev s__law_box : Stmt := top 38
theorem sc__law_box : FnScope ["thing"] ["thing"] (defScope s__law_box) := ⟨rfl, rfl, rfl, by decide +kernel, rfl, by decide +kernel, by decide +kernel⟩
abbrev s__law_letters : Stmt := top 39
theorem sc__law_letters : FnScope ["thing", "sign"] ["thing"] (defScope s__law_letters) := ⟨rfl, rfl, rfl, by decide +kernel, rfl, by decide +kernel, by decide +kernel⟩
abbrev s__law_deed : Stmt := top 40
theorem sc__law_deed : FnScope ["thing", "kinds", "k", "one", "sort", "good", "word"] ["thing"] (defScope s__law_deed) := ⟨rfl, rfl, rfl, by decide +kernel, rfl, by decide +kernel, by decide +kernel⟩
abbrev s_consists_of : Stmt := top 4
theorem sc_consists_of : FnScope ["text", "signs"] ["text", "signs"] (defScope s_consists_of) := ⟨rfl, rfl, rfl, by decide +kernel, rfl, by decide +kernel, by decide +kernel⟩
abbrev s_is_small_word : Stmt := top 15
theorem sc_is_small_word : FnScope ["thing", "most"] ["thing", "most"] (defScope s_is_small_word) := ⟨rfl, rfl, rfl, by decide +kernel, rfl, by decide +kernel, by decide +kernel⟩
abbrev s_is_house : Stmt := top 11
theorem sc_is_house : FnScope ["thing"] ["thing"] (defScope s_is_house) := ⟨rfl, rfl, rfl, by decide +kernel, rfl, by decide +kernel, by decide +kernel⟩
abbrev s_is_name : Stmt := top 12
theorem sc_is_name : FnScope ["thing"] ["thing"] (defScope s_is_name) := ⟨rfl, rfl, rfl, by decide +kernel, rfl, by decide +kernel, by decide +kernel⟩
abbrev s_is_device : Stmt := top 13
theorem sc_is_device : FnScope ["thing"] ["thing"] (defScope s_is_device) := ⟨rfl, rfl, rfl, by decide +kernel, rfl, by decide +kernel, by decide +kernel⟩
abbrev s_is_flag : Stmt := top 14
theorem sc_is_flag : FnScope ["thing"] ["thing"] (defScope s_is_flag) := ⟨rfl, rfl, rfl, by decide +kernel, rfl, by decide +kernel, by decide +kernel⟩
abbrev s_are_ascending : Stmt := top 7
theorem sc_are_ascending : FnScope ["row", "low", "high"] ["row"] (defScope s_are_ascending) := ⟨rfl, rfl, rfl, by decide +kernel, rfl, by decide +kernel, by decide +kernel⟩
abbrev s_are_flags : Stmt := top 16
theorem sc_are_flags : FnScope ["thing", "flag"] ["thing"] (defScope s_are_flags) := ⟨rfl, rfl, rfl, by decide +kernel, rfl, by decide +kernel, by decide +kernel⟩
abbrev s_is_integer : Stmt := top 5
theorem sc_is_integer : FnScope ["thing"] ["thing"] (defScope s_is_integer) := ⟨rfl, rfl, rfl, by decide +kernel, rfl, by decide +kernel, by decide +kernel⟩
abbrev s_are_uids : Stmt := top 17
theorem sc_are_uids : FnScope ["thing", "uid"] ["thing"] (defScope s_are_uids) := ⟨rfl, rfl, rfl, by decide +kernel, rfl, by decide +kernel, by decide +kernel⟩
abbrev s_is_box : Stmt := top 21
theorem sc_is_box : FnScope ["thing"] ["thing"] (defScope s_is_box) := ⟨rfl, rfl, rfl, by decide +kernel, rfl, by decide +kernel, by decide +kernel⟩
abbrev s_in_order : Stmt := top 20
theorem sc_in_order : FnScope ["letters", "letter"] ["letters"] (defScope s_in_order) := ⟨rfl, rfl, rfl, by decide +kernel, rfl, by decide +kernel, by decide +kernel⟩
abbrev s_are_rights : Stmt := top 19
theorem sc_are_rights : FnScope ["thing"] ["thing"] (defScope s_are_rights) := ⟨rfl, rfl, rfl, by decide +kernel, rfl, by decide +kernel, by decide +kernel⟩
abbrev s_is_text : Stmt := top 6
theorem sc_is_text : FnScope ["thing"] ["thing"] (defScope s_is_text) := ⟨rfl, rfl, rfl, by decide +kernel, rfl, by decide +kernel, by decide +kernel⟩
abbrev s_is_content : Stmt := top 22
theorem sc_is_content : FnScope ["thing"] ["thing"] (defScope s_is_content) := ⟨rfl, rfl, rfl, by decide +kernel, rfl, by decide +kernel, by decide +kernel⟩
abbrev s_is_mode : Stmt := top 23
theorem sc_is_mode : FnScope ["thing"] ["thing"] (defScope s_is_mode) := ⟨rfl, rfl, rfl, by decide +kernel, rfl, by decide +kernel, by decide +kernel⟩
abbrev s_are_texts : Stmt := top 25
theorem sc_are_texts : FnScope ["thing", "text"] ["thing"] (defScope s_are_texts) := ⟨rfl, rfl, rfl, by decide +kernel, rfl, by decide +kernel, by decide +kernel⟩
abbrev s_is_count : Stmt := top 24
theorem sc_is_count : FnScope ["thing"] ["thing"] (defScope s_is_count) := ⟨rfl, rfl, rfl, by decide +kernel, rfl, by decide +kernel, by decide +kernel⟩
abbrev s_is_deed : Stmt := top 27
theorem sc_is_deed : FnScope ["thing", "checks", "check", "part"] ["thing"] (defScope s_is_deed) := ⟨rfl, rfl, rfl, by decide +kernel, rfl, by decide +kernel, by decide +kernel⟩
abbrev s__law_same : Stmt := top 32
theorem sc__law_same : FnScope ["actual", "due", "k"] ["actual", "due"] (defScope s__law_same) := ⟨rfl, rfl, rfl, by decide +kernel, rfl, by decide +kernel, by decide +kernel⟩
abbrev s_completed : Stmt := top 18
theorem sc_completed : FnScope ["letters"] ["letters"] (defScope s_completed) := ⟨rfl, rfl, rfl, by decide +kernel, rfl, by decide +kernel, by decide +kernel⟩
abbrev s_law : Stmt := top 44
theorem sc_law : FnScope ["script", "box", "turn", "thing", "due", "told", "deed", "letters", "sign"] ["script"] (defScope s_law) := ⟨rfl, rfl, rfl, by decide +kernel, rfl, by decide +kernel, by decide +kernel⟩
/-! ### the functions -/
def c_MODES : D := (.tup [(.str "add"), (.str "drop"), (.str "set")])
def c_PARTS : List (Str × D) := [("make", (.tup [(.fn "is_name")])), ("unmake", (.tup [(.fn "is_box")])), ("rename", (.tup [(.fn "is_box"), (.fn "is_name")])), ("grant", (.tup [(.fn "is_box"), (.fn "is_name"), (.fn "are_rights")])), ("put", (.tup [(.fn "is_box"), (.fn "are_flags"), (.fn "is_content")])), ("flag", (.tup [(.fn "is_box"), (.fn "are_uids"), (.fn "is_mode"), (.fn "are_flags")])), ("copy", (.tup [(.fn "is_box"), (.fn "are_uids"), (.fn "is_box")])), ("move", (.tup [(.fn "is_box"), (.fn "are_uids"), (.fn "is_box")])), ("take", (.tup [(.fn "is_box"), (.fn "are_uids")])), ("leave", (.tup [(.fn "is_box")])), ("filter", (.tup [(.fn "is_content")])), ("send", (.tup [(.fn "are_texts"), (.fn "is_content")])), ("back", (.tup [(.fn "is_count"), (.fn "is_count")]))]
def b__law_cell : MS := (sSeq (sIf (tBl (mBin oLt (mVar 1) (mL oLen (aCons (mVar 0) aNil)))) (sRet (mBin oIx (mVar 0) (mVar 1))) sNx) (sRet (mC (.int 0))))
def m__law_cell : MF := mDef 2 2 b__law_cell
def b__law_digits : MS := (sSeq (sAsg (mLst aNil) (tgN 3)) (sSeq (sFor (iRg2 (aCons (mVar 1) (aCons (mVar 2) aNil))) (tgN 4) (sSeq (sIf (tBl (mBin oGt (mL oLen (aCons (mVar 3) aNil)) (mC (.int 1500)))) sBk sNx) (sSeq (sAsg (mCall m__law_cell (aCons (mVar 0) (aCons (mVar 4) aNil))) (tgN 5)) (sSeq (sIf (tBl (mBin oLt (mVar 5) (mC (.int 0)))) (sAsg (mBin oSub (mC (.int 1)) (mBin oMul (mC (.int 2)) (mVar 5))) (tgN 5)) sNx) (sIf (tBl (mBin oGe (mVar 5) (mBin oPow (mC (.int 10)) (mC (.int 18))))) (sFor (iRg1 (aCons (mC (.int 60)) aNil)) (tgN 6) (sIf (tBl (mBin oGt (mVar 5) (mC (.int 0)))) (sSeq (sExpr (mMeth "list" oAppend (mVar 3) (aCons (mBin oMod (mL oInt (aCons (mVar 5) aNil)) (mC (.int 1000))) aNil))) (sAsg (mBin oFdiv (mVar 5) (mC (.int 1000))) (tgN 5))) sNx)) (sSeq (sAsg (mBin oMod (mL oInt (aCons (mBin oAdd (mBin oAdd (mBin oMul (mVar 5) (mC (.int 48271))) (mBin oMul (mVar 4) (mC (.int 69621)))) (mC (.int 11))) aNil)) (mC (.int 2147483647))) (tgN 7)) (sFor (iRg1 (aCons (mC (.int 12)) aNil)) (tgN 6) (sSeq (sAsg (mBin oMod (mL oInt (aCons (mBin oAdd (mBin oAdd (mBin oMul (mVar 7) (mC (.int 16807))) (mBin oMul (mC (.int 7)) (mVar 6))) (mC (.int 1))) aNil)) (mC (.int 2147483647))) (tgN 7)) (sExpr (mMeth "list" oAppend (mVar 3) (aCons (mBin oMod (mL oInt (aCons (mBin oFdiv (mVar 7) (mC (.int 997))) aNil)) (mC (.int 1000))) aNil))))))))))) (sRet (mVar 3))))
def m__law_digits : MF := mDef 8 3 b__law_digits
def b__law_draw : MS := (sSeq (sAsg (mBin oIx (mVar 0) (mC (.int 1))) (tgN 2)) (sSeq (sPut (mBin oAdd (mVar 2) (mC (.int 1))) (mVar 0) (mC (.int 1))) (sSeq (sIf (tBl (mBin oLt (mVar 2) (mL oLen (aCons (mBin oIx (mVar 0) (mC (.int 0))) aNil)))) (sRet (mBin oMod (mL oInt (aCons (mBin oIx (mBin oIx (mVar 0) (mC (.int 0))) (mVar 2)) aNil)) (mVar 1))) sNx) (sRet (mBin oMod (mL oInt (aCons (mBin oMul (mVar 2) (mC (.int 7))) aNil)) (mVar 1))))))
def m__law_draw : MF := mDef 3 2 b__law_draw
def b__law_word : MS := (sSeq (sAsg (mBin oIx (mLst (aCons (mC (.str "abcdefghijklmnopqrstuvwxyz")) (aCons (mC (.str "az09")) (aCons (mC (.str "aZ-")) (aCons (mC (.str "a b_")) (aCons (mC (.str "ab")) aNil)))))) (mCall m__law_draw (aCons (mVar 0) (aCons (mC (.int 5)) aNil)))) (tgN 1)) (sSeq (sAsg (mBin oIx (mLst (aCons (mC (.int 1)) (aCons (mBin oAdd (mC (.int 1)) (mCall m__law_draw (aCons (mVar 0) (aCons (mC (.int 6)) aNil)))) (aCons (mC (.int 8)) (aCons (mC (.int 9)) (aCons (mC (.int 12)) (aCons (mC (.int 13)) aNil))))))) (mCall m__law_draw (aCons (mVar 0) (aCons (mC (.int 6)) aNil)))) (tgN 2)) (sRet (mMeth "str" oJoin (mC (.str "")) (aCons (mLcC (iRg1 (aCons (mVar 2) aNil)) (tgN 3) tOk (mBin oIx (mVar 1) (mBin oMod (mL oInt (aCons (mCallC m__law_draw (aCons (mVar 0) (aCons (mC (.int 900)) aNil))) aNil)) (mL oLen (aCons (mVar 1) aNil)))) [3]) aNil)))))
def m__law_word : MF := mDef 4 1 b__law_word
def b__law_thing : MS := (sSeq (sAsg (mCall m__law_draw (aCons (mVar 0) (aCons (mC (.int 9)) aNil))) (tgN 1)) (sSeq (sIf (tBl (mBin oLt (mVar 1) (mC (.int 4)))) (sRet (mCall m__law_word (aCons (mVar 0) aNil))) sNx) (sSeq (sIf (tBl (mBin oEq (mVar 1) (mC (.int 4)))) (sRet (mL oTuple (aCons (mL oSorted (aCons (mLcC (iRg1 (aCons (mCall m__law_draw (aCons (mVar 0) (aCons (mC (.int 4)) aNil))) aNil)) (tgN 2) tOk (mCallC m__law_word (aCons (mVar 0) aNil)) [2]) aNil)) aNil))) sNx) (sSeq (sIf (tBl (mBin oEq (mVar 1) (mC (.int 5)))) (sRet (mL oTuple (aCons (mLcC (iRg1 (aCons (mCall m__law_draw (aCons (mVar 0) (aCons (mC (.int 4)) aNil))) aNil)) (tgN 2) tOk (mBin oAdd (mBin oSub (mCallC m__law_draw (aCons (mVar 0) (aCons (mC (.int 9)) aNil))) (mC (.int 2))) (mBin oMul (mC (.int 3)) (mVar 2))) [2]) aNil))) sNx) (sRet (mBin oIx (mLst (aCons (mC .non) (aCons (mC (.bl true)) (aCons (mC (.int 0)) (aCons (mUn oNeg (mC (.int 3))) (aCons (mC (.int 7)) (aCons (mC (.str "")) (aCons (mLst aNil) (aCons (mTup (aCons (mC (.str "a")) (aCons (mC (.int 1)) aNil))) (aCons (mC (.str "lrsiea")) (aCons (mC (.str "ls")) (aCons (mC (.str "sl")) (aCons (mTup aNil) (aCons (mC (.str "add")) (aCons (mLst (aCons (mC (.int 1)) aNil)) (aCons (mLst (aCons (mC (.str "a")) aNil)) (aCons (mTup (aCons (mC (.bl true)) (aCons (mC (.int 2)) aNil))) (aCons (mTup (aCons (mC .non) aNil)) (aCons (mTup (aCons (mC (.int 1)) (aCons (mC (.str "a")) aNil))) aNil))))))))))))))))))) (mCall m__law_draw (aCons (mVar 0) (aCons (mC (.int 18)) aNil)))))))))
def m__law_thing : MF := mDef 3 1 b__law_thing
def b__law_deed_drawn : MS := (sSeq (sAsg (mLst (aCons (mTup (aCons (mC (.str "make")) (aCons (mC (.str "a")) aNil))) (aCons (mTup (aCons (mC (.str "unmake")) (aCons (mC (.int 3)) aNil))) (aCons (mTup (aCons (mC (.str "rename")) (aCons (mC (.int 4)) (aCons (mC (.str "b1")) aNil)))) (aCons (mTup (aCons (mC (.str "grant")) (aCons (mC (.int 3)) (aCons (mC (.str "bo")) (aCons (mC (.str "lr")) aNil))))) (aCons (mTup (aCons (mC (.str "put")) (aCons (mC (.int 0)) (aCons (mTup (aCons (mC (.str "a")) (aCons (mC (.str "b")) aNil))) (aCons (mC (.str "text")) aNil))))) (aCons (mTup (aCons (mC (.str "flag")) (aCons (mUn oNeg (mC (.int 1))) (aCons (mTup (aCons (mUn oNeg (mC (.int 2))) (aCons (mC (.int 5)) aNil))) (aCons (mC (.str "set")) (aCons (mTup aNil) aNil)))))) aNil))))))) (tgN 1)) (sSeq (sAsg (mBin oAdd (mVar 1) (mLst (aCons (mTup (aCons (mC (.str "copy")) (aCons (mC (.int 0)) (aCons (mTup (aCons (mC (.int 1)) (aCons (mC (.int 2)) aNil))) (aCons (mC (.int 3)) aNil))))) (aCons (mTup (aCons (mC (.str "move")) (aCons (mC (.int 0)) (aCons (mTup aNil) (aCons (mUn oNeg (mC (.int 4))) aNil))))) (aCons (mTup (aCons (mC (.str "take")) (aCons (mC (.int 1)) (aCons (mTup (aCons (mC (.int 9)) aNil)) aNil)))) (aCons (mTup (aCons (mC (.str "leave")) (aCons (mC (.int 8)) aNil))) (aCons (mTup (aCons (mC (.str "filter")) (aCons (mC (.str "")) aNil))) (aCons (mTup (aCons (mC (.str "send")) (aCons (mTup (aCons (mC (.str "a@b")) (aCons (mC (.str "")) aNil))) (aCons (mC (.str "x")) aNil)))) (aCons (mTup (aCons (mC (.str "back")) (aCons (mC (.int 1)) (aCons (mC (.int 2)) aNil)))) aNil))))))))) (tgN 1)) (sSeq (sAsg (mBin oIx (mVar 1) (mCall m__law_draw (aCons (mVar 0) (aCons (mC (.int 13)) aNil)))) (tgN 2)) (sSeq (sIf (tBl (mBin oEq (mCall m__law_draw (aCons (mVar 0) (aCons (mC (.int 3)) aNil))) (mC (.int 0)))) (sRet (mVar 2)) sNx) (sSeq (sAsg (mBin oMod (mL oInt (aCons (mCall m__law_draw (aCons (mVar 0) (aCons (mC (.int 900)) aNil))) aNil)) (mL oLen (aCons (mVar 2) aNil))) (tgN 3)) (sSeq (sIf (tBl (mBin oEq (mCall m__law_draw (aCons (mVar 0) (aCons (mC (.int 6)) aNil))) (mC (.int 0)))) (sRet (mBin oAdd (mSl (mVar 2) pNo (pAt (mVar 3))) (mSl (mVar 2) (pAt (mBin oAdd (mVar 3) (mC (.int 1)))) pNo))) sNx) (sRet (mBin oAdd (mBin oAdd (mSl (mVar 2) pNo (pAt (mVar 3))) (mTup (aCons (mCall m__law_thing (aCons (mVar 0) aNil)) aNil))) (mSl (mVar 2) (pAt (mBin oAdd (mVar 3) (mC (.int 1)))) pNo)))))))))
def m__law_deed_drawn : MF := mDef 4 1 b__law_deed_drawn
def b__law_small : MS := (sRet (mAnd2 (mL oIsi (aCons (mVar 0) (aCons (mC (.ty "str")) aNil))) (mAnd2 (mChain oLt oLe (mC (.int 0)) (mL oLen (aCons (mVar 0) aNil)) (mVar 1)) (mBin oEq (mLcC (iAny (mVar 0)) (tgN 2) (tBl (mBin oNotIn2 (mVar 2) (mC (.str "abcdefghijklmnopqrstuvwxyz")))) (mVar 2) [2]) (mLst aNil)))))
def m__law_small : MF := mDef 3 2 b__law_small
def b__law_name : MS := (sSeq (sAsg (mC (.str "abcdefghijklmnopqrstuvwxyz0123456789")) (tgN 1)) (sSeq (sIf (tOr2 (tNot2 (tVal (mL oIsi (aCons (mVar 0) (aCons (mC (.ty "str")) aNil))))) (tOr2 (tNot2 (tBl (mChain oLt oLe (mC (.int 0)) (mL oLen (aCons (mVar 0) aNil)) (mC (.int 12))))) (tBl (mBin oNe (mLcC (iAny (mVar 0)) (tgN 2) (tBl (mBin oNotIn2 (mVar 2) (mVar 1))) (mVar 2) [2]) (mLst aNil))))) (sRet (mC (.bl false))) sNx) (sRet (mBin oNotIn2 (mBin oIx (mVar 0) (mC (.int 0))) (mC (.str "0123456789"))))))
def m__law_name : MF := mDef 3 1 b__law_name
def b__law_flags : MS := (sRet (mAnd2 (mL oIsi (aCons (mVar 0) (aCons (mC (.ty "tuple")) aNil))) (mAnd2 (mBin oEq (mLcC (iAny (mVar 0)) (tgN 1) (tNot2 (tVal (mCallC m__law_small (aCons (mVar 1) (aCons (mC (.int 12)) aNil))))) (mVar 1) [1]) (mLst aNil)) (mBin oEq (mL oList (aCons (mVar 0) aNil)) (mSortedSet (mVar 0))))))
def m__law_flags : MF := mDef 2 1 b__law_flags
def b__law_number : MS := (sRet (mAnd2 (mL oIsi (aCons (mVar 0) (aCons (mC (.ty "int")) aNil))) (mAnd2 (mNot (mL oIsi (aCons (mVar 0) (aCons (mC (.ty "bool")) aNil)))) (mBin oGe (mVar 0) (mVar 1)))))
def m__law_number : MF := mDef 2 2 b__law_number
def b__law_uids : MS := (sSeq (sIf (tOr2 (tNot2 (tVal (mL oIsi (aCons (mVar 0) (aCons (mC (.ty "tuple")) aNil))))) (tBl (mBin oNe (mLcC (iAny (mVar 0)) (tgN 1) (tOr2 (tNot2 (tVal (mCallC m__law_number (aCons (mVar 1) (aCons (mUn oNeg (mBin oPow (mC (.int 10)) (mC (.int 30)))) aNil))))) (tBl (mBin oEq (mVar 1) (mC (.int 0))))) (mVar 1) [1]) (mLst aNil)))) (sRet (mC (.bl false))) sNx) (sRet (mBin oEq (mL oList (aCons (mVar 0) aNil)) (mSortedSet (mVar 0)))))
def m__law_uids : MF := mDef 2 1 b__law_uids
def b__law_box : MS := (sRet (mCall m__law_number (aCons (mVar 0) (aCons (mUn oNeg (mBin oPow (mC (.int 10)) (mC (.int 30)))) aNil))))
def m__law_box : MF := mDef 1 1 b__law_box
def b__law_letters : MS := (sSeq (sIf (tNot2 (tVal (mL oIsi (aCons (mVar 0) (aCons (mC (.ty "str")) aNil))))) (sRet (mC (.bl false))) sNx) (sRet (mBin oEq (mVar 0) (mMeth "str" oJoin (mC (.str "")) (aCons (mLcC (iAny (mC (.str "lrsiea"))) (tgN 1) (tBl (mBin oIn2 (mVar 1) (mVar 0))) (mVar 1) [1]) aNil)))))
def m__law_letters : MF := mDef 2 1 b__law_letters
def b__law_deed : MS := (sSeq (sIf (tOr2 (tNot2 (tVal (mL oIsi (aCons (mVar 0) (aCons (mC (.ty "tuple")) aNil))))) (tOr2 (tBl (mBin oEq (mL oLen (aCons (mVar 0) aNil)) (mC (.int 0)))) (tNot2 (tVal (mL oIsi (aCons (mBin oIx (mVar 0) (mC (.int 0))) (aCons (mC (.ty "str")) aNil))))))) (sRet (mC (.bl false))) sNx) (sSeq (sAsg (mDict [((mC (.str "make")), (mC (.str "n"))), ((mC (.str "unmake")), (mC (.str "b"))), ((mC (.str "rename")), (mC (.str "bn"))), ((mC (.str "grant")), (mC (.str "bnl"))), ((mC (.str "put")), (mC (.str "bft"))), ((mC (.str "flag")), (mC (.str "bumf"))), ((mC (.str "copy")), (mC (.str "bub"))), ((mC (.str "move")), (mC (.str "bub")))]) (tgN 1)) (sSeq (sPut (mC (.str "bu")) (mVar 1) (mC (.str "take"))) (sSeq (sPut (mC (.str "b")) (mVar 1) (mC (.str "leave"))) (sSeq (sPut (mC (.str "t")) (mVar 1) (mC (.str "filter"))) (sSeq (sPut (mC (.str "at")) (mVar 1) (mC (.str "send"))) (sSeq (sPut (mC (.str "oo")) (mVar 1) (mC (.str "back"))) (sSeq (sIf (tOr2 (tBl (mBin oNotIn2 (mBin oIx (mVar 0) (mC (.int 0))) (mVar 1))) (tBl (mBin oNe (mL oLen (aCons (mVar 0) aNil)) (mBin oAdd (mC (.int 1)) (mL oLen (aCons (mBin oIx (mVar 1) (mBin oIx (mVar 0) (mC (.int 0)))) aNil)))))) (sRet (mC (.bl false))) sNx) (sSeq (sFor (iRg2 (aCons (mC (.int 1)) (aCons (mL oLen (aCons (mVar 0) aNil)) aNil))) (tgN 2) (sSeq (sAsg (mBin oIx (mVar 0) (mVar 2)) (tgN 3)) (sSeq (sAsg (mBin oIx (mBin oIx (mVar 1) (mBin oIx (mVar 0) (mC (.int 0)))) (mBin oSub (mVar 2) (mC (.int 1)))) (tgN 4)) (sSeq (sAsg (mDict [((mC (.str "n")), (mCall m__law_name (aCons (mVar 3) aNil))), ((mC (.str "b")), (mCall m__law_box (aCons (mVar 3) aNil))), ((mC (.str "l")), (mCall m__law_letters (aCons (mVar 3) aNil))), ((mC (.str "f")), (mCall m__law_flags (aCons (mVar 3) aNil))), ((mC (.str "t")), (mL oIsi (aCons (mVar 3) (aCons (mC (.ty "str")) aNil)))), ((mC (.str "u")), (mCall m__law_uids (aCons (mVar 3) aNil)))]) (tgN 5)) (sSeq (sPut (mAnd2 (mL oIsi (aCons (mVar 3) (aCons (mC (.ty "str")) aNil))) (mBin oIn2 (mVar 3) (mTup (aCons (mC (.str "add")) (aCons (mC (.str "drop")) (aCons (mC (.str "set")) aNil)))))) (mVar 5) (mC (.str "m"))) (sSeq (sPut (mAnd2 (mL oIsi (aCons (mVar 3) (aCons (mC (.ty "tuple")) aNil))) (mBin oEq (mLcC (iAny (mVar 3)) (tgN 6) (tNot2 (tVal (mL oIsi (aCons (mVar 6) (aCons (mC (.ty "str")) aNil))))) (mVar 6) [6]) (mLst aNil))) (mVar 5) (mC (.str "a"))) (sSeq (sPut (mCall m__law_number (aCons (mVar 3) (aCons (mC (.int 1)) aNil))) (mVar 5) (mC (.str "o"))) (sIf (tNot2 (tVal (mBin oIx (mVar 5) (mVar 4)))) (sRet (mC (.bl false))) sNx)))))))) (sRet (mC (.bl true))))))))))))
def m__law_deed : MF := mDef 7 1 b__law_deed
def b_consists_of : MS := (sRet (mBin oEq (mMeth "str" oStrip1 (mVar 0) (aCons (mVar 1) aNil)) (mC (.str ""))))
def m_consists_of : MF := mDef 2 2 b_consists_of
def b_is_small_word : MS := (sRet (mAnd2 (mBin oIs (mL oType (aCons (mVar 0) aNil)) (mC (.ty "str"))) (mAnd2 (mChain oLe oLe (mC (.int 1)) (mL oLen (aCons (mVar 0) aNil)) (mVar 1)) (mCall m_consists_of (aCons (mVar 0) (aCons (mC (.str "abcdefghijklmnopqrstuvwxyz")) aNil))))))
def m_is_small_word : MF := mDef 2 2 b_is_small_word
def b_is_house : MS := (sRet (mCall m_is_small_word (aCons (mVar 0) (aCons (mC (.int 12)) aNil))))
def m_is_house : MF := mDef 1 1 b_is_house
def b_is_name : MS := (sSeq (sIf (tOr2 (tBl (mBin oIsNot (mL oType (aCons (mVar 0) aNil)) (mC (.ty "str")))) (tNot2 (tBl (mChain oLe oLe (mC (.int 1)) (mL oLen (aCons (mVar 0) aNil)) (mC (.int 12)))))) (sRet (mC (.bl false))) sNx) (sRet (mAnd2 (mBin oIn2 (mBin oIx (mVar 0) (mC (.int 0))) (mC (.str "abcdefghijklmnopqrstuvwxyz"))) (mCall m_consists_of (aCons (mVar 0) (aCons (mBin oAdd (mC (.str "abcdefghijklmnopqrstuvwxyz")) (mC (.str "0123456789"))) aNil))))))
def m_is_name : MF := mDef 1 1 b_is_name
def b_is_device : MS := (sRet (mCall m_is_small_word (aCons (mVar 0) (aCons (mC (.int 8)) aNil))))
def m_is_device : MF := mDef 1 1 b_is_device
def b_is_flag : MS := (sRet (mCall m_is_small_word (aCons (mVar 0) (aCons (mC (.int 12)) aNil))))
def m_is_flag : MF := mDef 1 1 b_is_flag
def b_are_ascending : MS := (sRet (mL oAll (aCons (mLcC (iZip (aCons (mVar 0) (aCons (mSl (mVar 0) (pAt (mC (.int 1))) pNo) aNil))) (tgT [(tgN 1), (tgN 2)]) tOk (mBin oLt (mVar 1) (mVar 2)) [1, 2]) aNil)))
def m_are_ascending : MF := mDef 3 1 b_are_ascending
def b_are_flags : MS := (sSeq (sIf (tOr2 (tBl (mBin oIsNot (mL oType (aCons (mVar 0) aNil)) (mC (.ty "tuple")))) (tNot2 (tVal (mL oAll (aCons (mLcC (iAny (mVar 0)) (tgN 1) tOk (mCallC m_is_flag (aCons (mVar 1) aNil)) [1]) aNil))))) (sRet (mC (.bl false))) sNx) (sRet (mCall m_are_ascending (aCons (mVar 0) aNil))))
def m_are_flags : MF := mDef 2 1 b_are_flags
def b_is_integer : MS := (sRet (mBin oIs (mL oType (aCons (mVar 0) aNil)) (mC (.ty "int"))))
def m_is_integer : MF := mDef 1 1 b_is_integer
def b_are_uids : MS := (sSeq (sIf (tOr2 (tBl (mBin oIsNot (mL oType (aCons (mVar 0) aNil)) (mC (.ty "tuple")))) (tNot2 (tVal (mL oAll (aCons (mLcC (iAny (mVar 0)) (tgN 1) tOk (mCallC m_is_integer (aCons (mVar 1) aNil)) [1]) aNil))))) (sRet (mC (.bl false))) sNx) (sRet (mAnd2 (mBin oNotIn2 (mC (.int 0)) (mVar 0)) (mCall m_are_ascending (aCons (mVar 0) aNil)))))
def m_are_uids : MF := mDef 2 1 b_are_uids
def b_is_box : MS := (sRet (mCall m_is_integer (aCons (mVar 0) aNil)))
def m_is_box : MF := mDef 1 1 b_is_box
def b_in_order : MS := (sRet (mMeth "str" oJoin (mC (.str "")) (aCons (mLcC (iAny (mC (.str "lrsiea"))) (tgN 1) (tBl (mBin oIn2 (mVar 1) (mVar 0))) (mVar 1) [1]) aNil)))
def m_in_order : MF := mDef 2 1 b_in_order
def b_are_rights : MS := (sRet (mAnd2 (mBin oIs (mL oType (aCons (mVar 0) aNil)) (mC (.ty "str"))) (mBin oEq (mVar 0) (mCall m_in_order (aCons (mVar 0) aNil)))))
def m_are_rights : MF := mDef 1 1 b_are_rights
def b_is_text : MS := (sRet (mAnd2 (mBin oIs (mL oType (aCons (mVar 0) aNil)) (mC (.ty "str"))) (mCall m_consists_of (aCons (mVar 0) (aCons (mC (.str "\n !\"#$&'()*+,-./0123456789:;<=>?@ABCDEFGHIJKLMNOPQRSTUVWXYZ[\\]^_`abcdefghijklmnopqrstuvwxyz{|}~")) aNil)))))
def m_is_text : MF := mDef 1 1 b_is_text
def b_is_content : MS := (sRet (mCall m_is_text (aCons (mVar 0) aNil)))
def m_is_content : MF := mDef 1 1 b_is_content
def b_is_mode : MS := (sRet (mBin oIn2 (mVar 0) (mC c_MODES)))
def m_is_mode : MF := mDef 1 1 b_is_mode
def b_are_texts : MS := (sRet (mAnd2 (mBin oIs (mL oType (aCons (mVar 0) aNil)) (mC (.ty "tuple"))) (mL oAll (aCons (mLcC (iAny (mVar 0)) (tgN 1) tOk (mCallC m_is_text (aCons (mVar 1) aNil)) [1]) aNil))))
def m_are_texts : MF := mDef 2 1 b_are_texts
def b_is_count : MS := (sRet (mAnd2 (mCall m_is_integer (aCons (mVar 0) aNil)) (mBin oGe (mVar 0) (mC (.int 1)))))
def m_is_count : MF := mDef 1 1 b_is_count
def F_held (x : Str) : Option MF := if x = "is_name" then some m_is_name else if x = "is_box" then some m_is_box else if x = "are_rights" then some m_are_rights else if x = "are_flags" then some m_are_flags else if x = "is_content" then some m_is_content else if x = "are_uids" then some m_are_uids else if x = "is_mode" then some m_is_mode else if x = "are_texts" then some m_are_texts else if x = "is_count" then some m_is_count else none
def b_is_deed : MS := (sSeq (sIf (tOr2 (tBl (mBin oIsNot (mL oType (aCons (mVar 0) aNil)) (mC (.ty "tuple")))) (tOr2 (tBl (mBin oEq (mVar 0) (mTup aNil))) (tNot2 (tVal (mL oIsi (aCons (mBin oIx (mVar 0) (mC (.int 0))) (aCons (mC (.ty "str")) aNil))))))) (sRet (mC (.bl false))) sNx) (sSeq (sAsg (mKget c_PARTS (mBin oIx (mVar 0) (mC (.int 0)))) (tgN 1)) (sSeq (sIf (tOr2 (tBl (mBin oIs (mVar 1) (mC .non))) (tBl (mBin oNe (mL oLen (aCons (mVar 0) aNil)) (mBin oAdd (mL oLen (aCons (mVar 1) aNil)) (mC (.int 1)))))) (sRet (mC (.bl false))) sNx) (sSeq (sFor (iZip (aCons (mVar 1) (aCons (mSl (mVar 0) (pAt (mC (.int 1))) pNo) aNil))) (tgT [(tgN 2), (tgN 3)]) (sIf (tNot2 (tVal (mCallV 2 F_held (aCons (mVar 3) aNil)))) (sRet (mC (.bl false))) sNx)) (sRet (mC (.bl true)))))))
def m_is_deed : MF := mDef 4 1 b_is_deed
def m__law_same : Nat → MF
  | 0 => fun _ _ => .stuck
  | n + 1 => mDef 3 2 (sSeq (sIf (tVal (mL oIsi (aCons (mVar 1) (aCons (mC (.ty "tuple")) aNil)))) (sSeq (sIf (tOr2 (tNot2 (tVal (mL oIsi (aCons (mVar 0) (aCons (mC (.ty "tuple")) aNil))))) (tBl (mBin oNe (mL oLen (aCons (mVar 0) aNil)) (mL oLen (aCons (mVar 1) aNil))))) (sRet (mC (.bl false))) sNx) (sSeq (sFor (iRg1 (aCons (mL oLen (aCons (mVar 1) aNil)) aNil)) (tgN 2) (sIf (tNot2 (tVal (mCall (m__law_same n) (aCons (mBin oIx (mVar 0) (mVar 2)) (aCons (mBin oIx (mVar 1) (mVar 2)) aNil))))) (sRet (mC (.bl false))) sNx)) (sRet (mC (.bl true))))) sNx) (sSeq (sIf (tBl (mBin oIs (mVar 1) (mC .non))) (sRet (mBin oIs (mVar 0) (mC .non))) sNx) (sSeq (sIf (tBl (mBin oIs (mVar 1) (mC (.bl true)))) (sRet (mBin oIs (mVar 0) (mC (.bl true)))) sNx) (sSeq (sIf (tBl (mBin oIs (mVar 1) (mC (.bl false)))) (sRet (mBin oIs (mVar 0) (mC (.bl false)))) sNx) (sSeq (sIf (tVal (mL oIsi (aCons (mVar 1) (aCons (mC (.ty "int")) aNil)))) (sRet (mAnd2 (mL oIsi (aCons (mVar 0) (aCons (mC (.ty "int")) aNil))) (mAnd2 (mNot (mL oIsi (aCons (mVar 0) (aCons (mC (.ty "bool")) aNil)))) (mBin oEq (mVar 0) (mVar 1))))) sNx) (sRet (mAnd2 (mL oIsi (aCons (mVar 0) (aCons (mC (.ty "str")) aNil))) (mBin oEq (mVar 0) (mVar 1)))))))))
def b_completed : MS := (sSeq (sIf (tNot2 (tVal (mCall m_are_rights (aCons (mVar 0) aNil)))) (sRet (mC .non)) sNx) (sSeq (sIf (tBl (mBin oIn2 (mC (.str "a")) (mVar 0))) (sRet (mC (.str "lrsiea"))) sNx) (sSeq (sIf (tOr2 (tBl (mBin oIn2 (mC (.str "s")) (mVar 0))) (tBl (mBin oIn2 (mC (.str "e")) (mVar 0)))) (sAsg (mBin oAdd (mVar 0) (mC (.str "r"))) (tgN 0)) sNx) (sSeq (sIf (tBl (mBin oNe (mVar 0) (mC (.str "")))) (sAsg (mBin oAdd (mVar 0) (mC (.str "l"))) (tgN 0)) sNx) (sRet (mCall m_in_order (aCons (mVar 0) aNil)))))))
def m_completed : MF := mDef 1 1 b_completed
def b_law : MS := (sSeq (sAsg (mLst (aCons (mCall m__law_digits (aCons (mVar 0) (aCons (mC (.int 0)) (aCons (mC (.int 63)) aNil)))) (aCons (mC (.int 0)) aNil))) (tgN 1)) (sSeq (sFor (iRg1 (aCons (mC (.int 12)) aNil)) (tgN 2) (sSeq (sAsg (mCall m__law_thing (aCons (mVar 1) aNil)) (tgN 3)) (sSeq (sAsg (mLst (aCons (mCall m__law_small (aCons (mVar 3) (aCons (mC (.int 12)) aNil))) (aCons (mCall m__law_name (aCons (mVar 3) aNil)) (aCons (mCall m__law_small (aCons (mVar 3) (aCons (mC (.int 8)) aNil))) (aCons (mCall m__law_small (aCons (mVar 3) (aCons (mC (.int 12)) aNil))) (aCons (mCall m__law_flags (aCons (mVar 3) aNil)) (aCons (mCall m__law_uids (aCons (mVar 3) aNil)) (aCons (mCall m__law_deed (aCons (mVar 3) aNil)) aNil)))))))) (tgN 4)) (sSeq (sAsg (mLst (aCons (mCall m_is_house (aCons (mVar 3) aNil)) (aCons (mCall m_is_name (aCons (mVar 3) aNil)) (aCons (mCall m_is_device (aCons (mVar 3) aNil)) (aCons (mCall m_is_flag (aCons (mVar 3) aNil)) (aCons (mCall m_are_flags (aCons (mVar 3) aNil)) (aCons (mCall m_are_uids (aCons (mVar 3) aNil)) (aCons (mCall m_is_deed (aCons (mVar 3) aNil)) aNil)))))))) (tgN 5)) (sSeq (sIf (tNot2 (tVal (mCall (m__law_same 6) (aCons (mL oTuple (aCons (mVar 5) aNil)) (aCons (mL oTuple (aCons (mVar 4) aNil)) aNil))))) (sRet (mC (.bl false))) sNx) (sSeq (sAsg (mCall m__law_deed_drawn (aCons (mVar 1) aNil)) (tgN 6)) (sSeq (sIf (tNot2 (tVal (mCall (m__law_same 6) (aCons (mCall m_is_deed (aCons (mVar 6) aNil)) (aCons (mCall m__law_deed (aCons (mVar 6) aNil)) aNil))))) (sRet (mC (.bl false))) sNx) (sSeq (sAsg (mMeth "str" oJoin (mC (.str "")) (aCons (mLcC (iAny (mC (.str "lrsiea"))) (tgN 8) (tBl (mBin oEq (mCallC m__law_draw (aCons (mVar 1) (aCons (mC (.int 3)) aNil))) (mC (.int 0)))) (mVar 8) [8]) aNil)) (tgN 7)) (sSeq (sAsg (mMeth "str" oJoin (mC (.str "")) (aCons (mLcC (iAny (mC (.str "lrsiea"))) (tgN 8) (tOr2 (tBl (mBin oIn2 (mVar 8) (mVar 7))) (tOr2 (tBl (mBin oIn2 (mC (.str "a")) (mVar 7))) (tOr2 (tAnd2 (tBl (mBin oEq (mVar 8) (mC (.str "l")))) (tBl (mBin oNe (mVar 7) (mC (.str ""))))) (tAnd2 (tBl (mBin oEq (mVar 8) (mC (.str "r")))) (tOr2 (tBl (mBin oIn2 (mC (.str "s")) (mVar 7))) (tBl (mBin oIn2 (mC (.str "e")) (mVar 7)))))))) (mVar 8) [8]) aNil)) (tgN 4)) (sSeq (sIf (tNot2 (tVal (mCall (m__law_same 6) (aCons (mCall m_completed (aCons (mVar 7) aNil)) (aCons (mVar 4) aNil))))) (sRet (mC (.bl false))) sNx) (sIf (tAnd2 (tBl (mBin oIsNot (mCall m_completed (aCons (mVar 3) aNil)) (mC .non))) (tNot2 (tVal (mCall m__law_letters (aCons (mVar 3) aNil))))) (sRet (mC (.bl false))) sNx))))))))))) (sRet (mC (.bl true)))))
def m_law : MF := mDef 9 1 b_law
/-! ### the facts -/
structure Txt (K : PySem.W.Frag) (w : World) (mg : Str → Option Value) : Prop where
  f__law_cell : HasF K mg "_law_cell" "_law_cell" s__law_cell ["script", "k"]
  f__law_digits : HasF K mg "_law_digits" "_law_digits" s__law_digits ["script", "first", "last"]
  f__law_draw : HasF K mg "_law_draw" "_law_draw" s__law_draw ["box", "many"]
  f__law_word : HasF K mg "_law_word" "_law_word" s__law_word ["box"]
  f__law_thing : HasF K mg "_law_thing" "_law_thing" s__law_thing ["box"]
  f__law_deed_drawn : HasF K mg "_law_deed_drawn" "_law_deed_drawn" s__law_deed_drawn ["box"]
  f__law_small : HasF K mg "_law_small" "_law_small" s__law_small ["thing", "most"]
  f__law_name : HasF K mg "_law_name" "_law_name" s__law_name ["thing"]
  f__law_flags : HasF K mg "_law_flags" "_law_flags" s__law_flags ["thing"]
  f__law_number : HasF K mg "_law_number" "_law_number" s__law_number ["thing", "least"]
  f__law_uids : HasF K mg "_law_uids" "_law_uids" s__law_uids ["thing"]
  f__law_box : HasF K mg "_law_box" "_law_box" s__law_box ["thing"]
  f__law_letters : HasF K mg "_law_letters" "_law_letters" s__law_letters ["thing"]
  f__law_deed : HasF K mg "_law_deed" "_law_deed" s__law_deed ["thing"]
  f_consists_of : HasF K mg "consists_of" "consists_of" s_consists_of ["text", "signs"]
  f_is_small_word : HasF K mg "is_small_word" "is_small_word" s_is_small_word ["thing", "most"]
  f_is_house : HasF K mg "is_house" "is_house" s_is_house ["thing"]
  f_is_name : HasF K mg "is_name" "is_name" s_is_name ["thing"]
  f_is_device : HasF K mg "is_device" "is_device" s_is_device ["thing"]
  f_is_flag : HasF K mg "is_flag" "is_flag" s_is_flag ["thing"]
  f_are_ascending : HasF K mg "are_ascending" "are_ascending" s_are_ascending ["row"]
  f_are_flags : HasF K mg "are_flags" "are_flags" s_are_flags ["thing"]
  f_is_integer : HasF K mg "is_integer" "is_integer" s_is_integer ["thing"]
  f_are_uids : HasF K mg "are_uids" "are_uids" s_are_uids ["thing"]
  f_is_box : HasF K mg "is_box" "is_box" s_is_box ["thing"]
  f_in_order : HasF K mg "in_order" "in_order" s_in_order ["letters"]
  f_are_rights : HasF K mg "are_rights" "are_rights" s_are_rights ["thing"]
  f_is_text : HasF K mg "is_text" "is_text" s_is_text ["thing"]
  f_is_content : HasF K mg "is_content" "is_content" s_is_content ["thing"]
  f_is_mode : HasF K mg "is_mode" "is_mode" s_is_mode ["thing"]
  f_are_texts : HasF K mg "are_texts" "are_texts" s_are_texts ["thing"]
  f_is_count : HasF K mg "is_count" "is_count" s_is_count ["thing"]
  f_is_deed : HasF K mg "is_deed" "is_deed" s_is_deed ["thing"]
  f__law_same : HasF K mg "_law_same" "_law_same" s__law_same ["actual", "due"]
  f_completed : HasF K mg "completed" "completed" s_completed ["letters"]
  f_law : HasF K mg "law" "law" s_law ["script"]
  n_all : mg "all" = none
  n_bool : mg "bool" = none
  n_int : mg "int" = none
  n_isinstance : mg "isinstance" = none
  n_len : mg "len" = none
  n_list : mg "list" = none
  n_range : mg "range" = none
  n_set : mg "set" = none
  n_sorted : mg "sorted" = none
  n_str : mg "str" = none
  n_tuple : mg "tuple" = none
  n_type : mg "type" = none
  n_zip : mg "zip" = none
  c_SMALL : ∃ t, mg "SMALL" = some (.str "abcdefghijklmnopqrstuvwxyz" t)
  c_DIGITS : ∃ t, mg "DIGITS" = some (.str "0123456789" t)
  c_SIGNS : ∃ t, mg "SIGNS" = some (.str "\n !\"#$&'()*+,-./0123456789:;<=>?@ABCDEFGHIJKLMNOPQRSTUVWXYZ[\\]^_`abcdefghijklmnopqrstuvwxyz{|}~" t)
  c_RIGHTS : ∃ t, mg "RIGHTS" = some (.str "lrsiea" t)
  c_MODES : ∃ a, mg "MODES" = some (.ref a) ∧ ∀ ρ H, RV K mg ρ H c_MODES (.ref a)
  c_PARTS : KTab K w mg "PARTS" c_PARTS
variable {P : Program} {w : World} {K : PySem.W.Frag} {mg : Str → Option Value} {base : Heap}
theorem ok__law_cell (T : Txt K w mg) : FnM P w K mg base "_law_cell" 1 m__law_cell := FnM.ofH (k := 0) (N := ["script", "k"]) (ps := ["script", "k"]) (body := b__law_cell) T.f__law_cell sc__law_cell fun f cdv A outer s H E hx =>
    (ms_cons (ms_if (mt_cmp om_lt (me_var (i := 1) rfl) (me_callB cm_len rfl T.n_len bt_len (ma_cons (me_var (i := 0) rfl) ma_nil))) (ms_one (ms_ret (me_ix hx.hu (me_var (i := 0) rfl) (me_var (i := 1) rfl)))) ms_nil)
    (ms_one (ms_ret me_int)))
theorem ok__law_digits (T : Txt K w mg) : FnM P w K mg base "_law_digits" 2 m__law_digits := FnM.ofH (k := 1) (N := ["script", "first", "last", "digits", "k", "cell", "turn", "seed"]) (ps := ["script", "first", "last"]) (body := b__law_digits) T.f__law_digits sc__law_digits fun f cdv A outer s H E hx =>
    (ms_cons (ms_set (i := 3) sc__law_digits.nd rfl (Or.inl rfl) (me_lst ma_nil))
    (ms_cons (ms_for hx.po hx.calm (mi_range2 rfl T.n_range (ma_cons (me_var (i := 1) rfl) (ma_cons (me_var (i := 2) rfl) ma_nil))) (mg_name (i := 4) sc__law_digits.nd rfl (Or.inl rfl)) (ms_cons (ms_if (mt_cmp om_gt (me_callB cm_len rfl T.n_len bt_len (ma_cons (me_var (i := 3) rfl) ma_nil)) me_int) (ms_one ms_break) ms_nil)
    (ms_cons (ms_set (i := 5) sc__law_digits.nd rfl (Or.inl rfl) (me_call (ok__law_cell T) (hx.room.mono (by omega)) rfl hx.tk (ma_cons (me_var (i := 0) rfl) (ma_cons (me_var (i := 4) rfl) ma_nil))))
    (ms_cons (ms_if (mt_cmp om_lt (me_var (i := 5) rfl) me_int) (ms_one (ms_set (i := 5) sc__law_digits.nd rfl (Or.inl rfl) (me_bin om_sub me_int (me_bin om_mul me_int (me_var (i := 5) rfl))))) ms_nil)
    (ms_one (ms_if (mt_cmp om_ge (me_var (i := 5) rfl) (me_bin om_pow me_int me_int)) (ms_one (ms_for hx.po hx.calm (mi_range1 rfl T.n_range (ma_cons me_int ma_nil)) (mg_name (i := 6) sc__law_digits.nd rfl (Or.inl rfl)) (ms_one (ms_if (mt_cmp om_gt (me_var (i := 5) rfl) me_int) (ms_cons (ms_expr (me_bm PySem.F.plainAttrs_list PySem.F.slot_list_append PySem.F.type_list_append mm_append (me_var (i := 3) rfl) (ma_cons (me_bin om_mod (me_callTy cm_int rfl T.n_int bt_int (ma_cons (me_var (i := 5) rfl) ma_nil)) me_int) ma_nil)))
    (ms_one (ms_set (i := 5) sc__law_digits.nd rfl (Or.inl rfl) (me_bin om_fdiv (me_var (i := 5) rfl) me_int)))) ms_nil)))) (ms_cons (ms_set (i := 7) sc__law_digits.nd rfl (Or.inl rfl) (me_bin om_mod (me_callTy cm_int rfl T.n_int bt_int (ma_cons (me_bin om_add (me_bin om_add (me_bin om_mul (me_var (i := 5) rfl) me_int) (me_bin om_mul (me_var (i := 4) rfl) me_int)) me_int) ma_nil)) me_int))
    (ms_one (ms_for hx.po hx.calm (mi_range1 rfl T.n_range (ma_cons me_int ma_nil)) (mg_name (i := 6) sc__law_digits.nd rfl (Or.inl rfl)) (ms_cons (ms_set (i := 7) sc__law_digits.nd rfl (Or.inl rfl) (me_bin om_mod (me_callTy cm_int rfl T.n_int bt_int (ma_cons (me_bin om_add (me_bin om_add (me_bin om_mul (me_var (i := 7) rfl) me_int) (me_bin om_mul me_int (me_var (i := 6) rfl))) me_int) ma_nil)) me_int))
    (ms_one (ms_expr (me_bm PySem.F.plainAttrs_list PySem.F.slot_list_append PySem.F.type_list_append mm_append (me_var (i := 3) rfl) (ma_cons (me_bin om_mod (me_callTy cm_int rfl T.n_int bt_int (ma_cons (me_bin om_fdiv (me_var (i := 7) rfl) me_int) ma_nil)) me_int) ma_nil))))))))))))))
    (ms_one (ms_ret (me_var (i := 3) rfl)))))
theorem ok__law_draw (T : Txt K w mg) : FnM P w K mg base "_law_draw" 1 m__law_draw := FnM.ofH (k := 0) (N := ["box", "many", "at"]) (ps := ["box", "many"]) (body := b__law_draw) T.f__law_draw sc__law_draw fun f cdv A outer s H E hx =>
    (ms_cons (ms_set (i := 2) sc__law_draw.nd rfl (Or.inl rfl) (me_ix hx.hu (me_var (i := 0) rfl) me_int))
    (ms_cons (ms_put hx.hu1 (me_bin om_add (me_var (i := 2) rfl) me_int) (me_var (i := 0) rfl) me_int)
    (ms_cons (ms_if (mt_cmp om_lt (me_var (i := 2) rfl) (me_callB cm_len rfl T.n_len bt_len (ma_cons (me_ix hx.hu (me_var (i := 0) rfl) me_int) ma_nil))) (ms_one (ms_ret (me_bin om_mod (me_callTy cm_int rfl T.n_int bt_int (ma_cons (me_ix hx.hu (me_ix hx.hu (me_var (i := 0) rfl) me_int) (me_var (i := 2) rfl)) ma_nil)) (me_var (i := 1) rfl)))) ms_nil)
    (ms_one (ms_ret (me_bin om_mod (me_callTy cm_int rfl T.n_int bt_int (ma_cons (me_bin om_mul (me_var (i := 2) rfl) me_int) ma_nil)) (me_var (i := 1) rfl)))))))
theorem ok__law_word (T : Txt K w mg) : FnM P w K mg base "_law_word" 2 m__law_word := FnM.ofH (k := 1) (N := ["box", "signs", "many", "k"]) (ps := ["box"]) (body := b__law_word) T.f__law_word sc__law_word fun f cdv A outer s H E hx =>
    (ms_cons (ms_set (i := 1) sc__law_word.nd rfl (Or.inr rfl) (me_ix hx.hu (me_lst (ma_cons me_str (ma_cons me_str (ma_cons me_str (ma_cons me_str (ma_cons me_str ma_nil)))))) (me_call (ok__law_draw T) (hx.room.mono (by omega)) rfl hx.tk (ma_cons (me_var (i := 0) rfl) (ma_cons me_int ma_nil)))))
    (ms_cons (ms_set (i := 2) sc__law_word.nd rfl (Or.inl rfl) (me_ix hx.hu (me_lst (ma_cons me_int (ma_cons (me_bin om_add me_int (me_call (ok__law_draw T) (hx.room.mono (by omega)) rfl hx.tk (ma_cons (me_var (i := 0) rfl) (ma_cons me_int ma_nil)))) (ma_cons me_int (ma_cons me_int (ma_cons me_int (ma_cons me_int ma_nil))))))) (me_call (ok__law_draw T) (hx.room.mono (by omega)) rfl hx.tk (ma_cons (me_var (i := 0) rfl) (ma_cons me_int ma_nil)))))
    (ms_one (ms_ret (me_bm PySem.F.plainAttrs_str PySem.F.slot_str_join PySem.F.type_str_join mm_join me_str (ma_cons (me_lc (own := [("k", 3)]) hx.calm sc__law_word.nd (mi_range1 rfl T.n_range (ma_cons (me_var (i := 2) rfl) ma_nil)) (blkOk_by (by kernel_rfl)) (fun _ _ _ _ _ => (mw_name (i := 3) (by decide) sc__law_word.nd rfl (Or.inl rfl))) (fun _ _ _ _ _ => mp_nil) (fun _ _ _ _ _ => (me_ix hx.hu (me_var (i := 1) rfl) (me_bin om_mod (me_callTy cm_int rfl T.n_int bt_int (ma_cons (me_callK (ok__law_draw T) (hx.room.mono (by omega)) rfl (ma_cons (me_var (i := 0) rfl) (ma_cons me_int ma_nil))) ma_nil)) (me_callB cm_len rfl T.n_len bt_len (ma_cons (me_var (i := 1) rfl) ma_nil)))))) ma_nil))))))
theorem ok__law_thing (T : Txt K w mg) : FnM P w K mg base "_law_thing" 3 m__law_thing := FnM.ofH (k := 2) (N := ["box", "kind", "k"]) (ps := ["box"]) (body := b__law_thing) T.f__law_thing sc__law_thing fun f cdv A outer s H E hx =>
    (ms_cons (ms_set (i := 1) sc__law_thing.nd rfl (Or.inl rfl) (me_call (ok__law_draw T) (hx.room.mono (by omega)) rfl hx.tk (ma_cons (me_var (i := 0) rfl) (ma_cons me_int ma_nil))))
    (ms_cons (ms_if (mt_cmp om_lt (me_var (i := 1) rfl) me_int) (ms_one (ms_ret (me_call (ok__law_word T) (hx.room.mono (by omega)) rfl hx.tk (ma_cons (me_var (i := 0) rfl) ma_nil)))) ms_nil)
    (ms_cons (ms_if (mt_cmp (om_eq hx.hu) (me_var (i := 1) rfl) me_int) (ms_one (ms_ret (me_callTy cm_tuple rfl T.n_tuple bt_tuple (ma_cons (me_callB cm_sorted rfl T.n_sorted bt_sorted (ma_cons (me_lc (own := [("k", 2)]) hx.calm sc__law_thing.nd (mi_range1 rfl T.n_range (ma_cons (me_call (ok__law_draw T) (hx.room.mono (by omega)) rfl hx.tk (ma_cons (me_var (i := 0) rfl) (ma_cons me_int ma_nil))) ma_nil)) (blkOk_by (by kernel_rfl)) (fun _ _ _ _ _ => (mw_name (i := 2) (by decide) sc__law_thing.nd rfl (Or.inl rfl))) (fun _ _ _ _ _ => mp_nil) (fun _ _ _ _ _ => (me_callK (ok__law_word T) (hx.room.mono (by omega)) rfl (ma_cons (me_var (i := 0) rfl) ma_nil)))) ma_nil)) ma_nil)))) ms_nil)
    (ms_cons (ms_if (mt_cmp (om_eq hx.hu) (me_var (i := 1) rfl) me_int) (ms_one (ms_ret (me_callTy cm_tuple rfl T.n_tuple bt_tuple (ma_cons (me_lc (own := [("k", 2)]) hx.calm sc__law_thing.nd (mi_range1 rfl T.n_range (ma_cons (me_call (ok__law_draw T) (hx.room.mono (by omega)) rfl hx.tk (ma_cons (me_var (i := 0) rfl) (ma_cons me_int ma_nil))) ma_nil)) (blkOk_by (by kernel_rfl)) (fun _ _ _ _ _ => (mw_name (i := 2) (by decide) sc__law_thing.nd rfl (Or.inl rfl))) (fun _ _ _ _ _ => mp_nil) (fun _ _ _ _ _ => (me_bin om_add (me_bin om_sub (me_callK (ok__law_draw T) (hx.room.mono (by omega)) rfl (ma_cons (me_var (i := 0) rfl) (ma_cons me_int ma_nil))) me_int) (me_bin om_mul me_int (me_var (i := 2) rfl))))) ma_nil)))) ms_nil)
    (ms_one (ms_ret (me_ix hx.hu (me_lst (ma_cons me_non (ma_cons me_bl (ma_cons me_int (ma_cons (me_un om_neg me_int) (ma_cons me_int (ma_cons me_str (ma_cons (me_lst ma_nil) (ma_cons (me_tup (ma_cons me_str (ma_cons me_int ma_nil))) (ma_cons me_str (ma_cons me_str (ma_cons me_str (ma_cons (me_tup ma_nil) (ma_cons me_str (ma_cons (me_lst (ma_cons me_int ma_nil)) (ma_cons (me_lst (ma_cons me_str ma_nil)) (ma_cons (me_tup (ma_cons me_bl (ma_cons me_int ma_nil))) (ma_cons (me_tup (ma_cons me_non ma_nil)) (ma_cons (me_tup (ma_cons me_int (ma_cons me_str ma_nil))) ma_nil))))))))))))))))))) (me_call (ok__law_draw T) (hx.room.mono (by omega)) rfl hx.tk (ma_cons (me_var (i := 0) rfl) (ma_cons me_int ma_nil))))))))))
theorem ok__law_deed_drawn (T : Txt K w mg) : FnM P w K mg base "_law_deed_drawn" 4 m__law_deed_drawn := FnM.ofH (k := 3) (N := ["box", "deeds", "deed", "at"]) (ps := ["box"]) (body := b__law_deed_drawn) T.f__law_deed_drawn sc__law_deed_drawn fun f cdv A outer s H E hx =>
    (ms_cons (ms_set (i := 1) sc__law_deed_drawn.nd rfl (Or.inl rfl) (me_lst (ma_cons (me_tup (ma_cons me_str (ma_cons me_str ma_nil))) (ma_cons (me_tup (ma_cons me_str (ma_cons me_int ma_nil))) (ma_cons (me_tup (ma_cons me_str (ma_cons me_int (ma_cons me_str ma_nil)))) (ma_cons (me_tup (ma_cons me_str (ma_cons me_int (ma_cons me_str (ma_cons me_str ma_nil))))) (ma_cons (me_tup (ma_cons me_str (ma_cons me_int (ma_cons (me_tup (ma_cons me_str (ma_cons me_str ma_nil))) (ma_cons me_str ma_nil))))) (ma_cons (me_tup (ma_cons me_str (ma_cons (me_un om_neg me_int) (ma_cons (me_tup (ma_cons (me_un om_neg me_int) (ma_cons me_int ma_nil))) (ma_cons me_str (ma_cons (me_tup ma_nil) ma_nil)))))) ma_nil))))))))
    (ms_cons (ms_set (i := 1) sc__law_deed_drawn.nd rfl (Or.inl rfl) (me_bin om_add (me_var (i := 1) rfl) (me_lst (ma_cons (me_tup (ma_cons me_str (ma_cons me_int (ma_cons (me_tup (ma_cons me_int (ma_cons me_int ma_nil))) (ma_cons me_int ma_nil))))) (ma_cons (me_tup (ma_cons me_str (ma_cons me_int (ma_cons (me_tup ma_nil) (ma_cons (me_un om_neg me_int) ma_nil))))) (ma_cons (me_tup (ma_cons me_str (ma_cons me_int (ma_cons (me_tup (ma_cons me_int ma_nil)) ma_nil)))) (ma_cons (me_tup (ma_cons me_str (ma_cons me_int ma_nil))) (ma_cons (me_tup (ma_cons me_str (ma_cons me_str ma_nil))) (ma_cons (me_tup (ma_cons me_str (ma_cons (me_tup (ma_cons me_str (ma_cons me_str ma_nil))) (ma_cons me_str ma_nil)))) (ma_cons (me_tup (ma_cons me_str (ma_cons me_int (ma_cons me_int ma_nil)))) ma_nil))))))))))
    (ms_cons (ms_set (i := 2) sc__law_deed_drawn.nd rfl (Or.inl rfl) (me_ix hx.hu (me_var (i := 1) rfl) (me_call (ok__law_draw T) (hx.room.mono (by omega)) rfl hx.tk (ma_cons (me_var (i := 0) rfl) (ma_cons me_int ma_nil)))))
    (ms_cons (ms_if (mt_cmp (om_eq hx.hu) (me_call (ok__law_draw T) (hx.room.mono (by omega)) rfl hx.tk (ma_cons (me_var (i := 0) rfl) (ma_cons me_int ma_nil))) me_int) (ms_one (ms_ret (me_var (i := 2) rfl))) ms_nil)
    (ms_cons (ms_set (i := 3) sc__law_deed_drawn.nd rfl (Or.inl rfl) (me_bin om_mod (me_callTy cm_int rfl T.n_int bt_int (ma_cons (me_call (ok__law_draw T) (hx.room.mono (by omega)) rfl hx.tk (ma_cons (me_var (i := 0) rfl) (ma_cons me_int ma_nil))) ma_nil)) (me_callB cm_len rfl T.n_len bt_len (ma_cons (me_var (i := 2) rfl) ma_nil))))
    (ms_cons (ms_if (mt_cmp (om_eq hx.hu) (me_call (ok__law_draw T) (hx.room.mono (by omega)) rfl hx.tk (ma_cons (me_var (i := 0) rfl) (ma_cons me_int ma_nil))) me_int) (ms_one (ms_ret (me_bin om_add (me_slice (me_var (i := 2) rfl) mo_none (mo_some (me_var (i := 3) rfl))) (me_slice (me_var (i := 2) rfl) (mo_some (me_bin om_add (me_var (i := 3) rfl) me_int)) mo_none)))) ms_nil)
    (ms_one (ms_ret (me_bin om_add (me_bin om_add (me_slice (me_var (i := 2) rfl) mo_none (mo_some (me_var (i := 3) rfl))) (me_tup (ma_cons (me_call (ok__law_thing T) (hx.room.mono (by omega)) rfl hx.tk (ma_cons (me_var (i := 0) rfl) ma_nil)) ma_nil))) (me_slice (me_var (i := 2) rfl) (mo_some (me_bin om_add (me_var (i := 3) rfl) me_int)) mo_none))))))))))
theorem ok__law_small (T : Txt K w mg) : FnM P w K mg base "_law_small" 1 m__law_small := FnM.ofH (k := 0) (N := ["thing", "most", "sign"]) (ps := ["thing", "most"]) (body := b__law_small) T.f__law_small sc__law_small fun f cdv A outer s H E hx =>
    (ms_one (ms_ret (me_and (me_callB cm_isi rfl T.n_isinstance bt_isinstance (ma_cons (me_var (i := 0) rfl) (ma_cons (me_ty (n := "str") rfl T.n_str bt_str) ma_nil))) (me_and (me_chain om_lt om_le me_int (me_callB cm_len rfl T.n_len bt_len (ma_cons (me_var (i := 0) rfl) ma_nil)) (me_var (i := 1) rfl)) (me_one (me_cmp (om_eq hx.hu) (me_lc (own := [("sign", 2)]) hx.calm sc__law_small.nd (mi_any (me_var (i := 0) rfl)) (blkOk_by (by kernel_rfl)) (fun _ _ _ _ _ => (mw_name (i := 2) (by decide) sc__law_small.nd rfl (Or.inl rfl))) (fun _ _ _ _ _ => (mp_one (mt_cmp (om_notIn2 hx.hu5) (me_var (i := 2) rfl) me_str))) (fun _ _ _ _ _ => (me_var (i := 2) rfl))) (me_lst ma_nil)))))))
theorem ok__law_name (T : Txt K w mg) : FnM P w K mg base "_law_name" 1 m__law_name := FnM.ofH (k := 0) (N := ["thing", "signs", "sign"]) (ps := ["thing"]) (body := b__law_name) T.f__law_name sc__law_name fun f cdv A outer s H E hx =>
    (ms_cons (ms_set (i := 1) sc__law_name.nd rfl (Or.inr rfl) me_str)
    (ms_cons (ms_if (mt_w (mw_or (mt_not (mt_val (me_callB cm_isi rfl T.n_isinstance bt_isinstance (ma_cons (me_var (i := 0) rfl) (ma_cons (me_ty (n := "str") rfl T.n_str bt_str) ma_nil))))) (mw_or (mt_not (mt_chain om_lt om_le me_int (me_callB cm_len rfl T.n_len bt_len (ma_cons (me_var (i := 0) rfl) ma_nil)) me_int)) (mw_or1 (mt_cmp (om_ne hx.hu) (me_lc (own := [("sign", 2)]) hx.calm sc__law_name.nd (mi_any (me_var (i := 0) rfl)) (blkOk_by (by kernel_rfl)) (fun _ _ _ _ _ => (mw_name (i := 2) (by decide) sc__law_name.nd rfl (Or.inl rfl))) (fun _ _ _ _ _ => (mp_one (mt_cmp (om_notIn2 hx.hu5) (me_var (i := 2) rfl) (me_var (i := 1) rfl)))) (fun _ _ _ _ _ => (me_var (i := 2) rfl))) (me_lst ma_nil)))))) (ms_one (ms_ret me_bl)) ms_nil)
    (ms_one (ms_ret (me_cmp (om_notIn2 hx.hu5) (me_ix hx.hu (me_var (i := 0) rfl) me_int) me_str)))))
theorem ok__law_flags (T : Txt K w mg) : FnM P w K mg base "_law_flags" 2 m__law_flags := FnM.ofH (k := 1) (N := ["thing", "one"]) (ps := ["thing"]) (body := b__law_flags) T.f__law_flags sc__law_flags fun f cdv A outer s H E hx =>
    (ms_one (ms_ret (me_and (me_callB cm_isi rfl T.n_isinstance bt_isinstance (ma_cons (me_var (i := 0) rfl) (ma_cons (me_ty (n := "tuple") rfl T.n_tuple bt_tuple) ma_nil))) (me_and (me_cmp (om_eq hx.hu) (me_lc (own := [("one", 1)]) hx.calm sc__law_flags.nd (mi_any (me_var (i := 0) rfl)) (blkOk_by (by kernel_rfl)) (fun _ _ _ _ _ => (mw_name (i := 1) (by decide) sc__law_flags.nd rfl (Or.inl rfl))) (fun _ _ _ _ _ => (mp_one (mt_not (mt_val (me_callK (ok__law_small T) (hx.room.mono (by omega)) rfl (ma_cons (me_var (i := 1) rfl) (ma_cons me_int ma_nil))))))) (fun _ _ _ _ _ => (me_var (i := 1) rfl))) (me_lst ma_nil)) (me_one (me_cmp (om_eq hx.hu) (me_callTy cm_list rfl T.n_list bt_list (ma_cons (me_var (i := 0) rfl) ma_nil)) (me_sortedSet hx.calm rfl T.n_sorted rfl T.n_set (me_var (i := 0) rfl))))))))
theorem ok__law_number (T : Txt K w mg) : FnM P w K mg base "_law_number" 1 m__law_number := FnM.ofH (k := 0) (N := ["thing", "least"]) (ps := ["thing", "least"]) (body := b__law_number) T.f__law_number sc__law_number fun f cdv A outer s H E hx =>
    (ms_one (ms_ret (me_and (me_callB cm_isi rfl T.n_isinstance bt_isinstance (ma_cons (me_var (i := 0) rfl) (ma_cons (me_ty (n := "int") rfl T.n_int bt_int) ma_nil))) (me_and (me_not (me_callB cm_isi rfl T.n_isinstance bt_isinstance (ma_cons (me_var (i := 0) rfl) (ma_cons (me_ty (n := "bool") rfl T.n_bool bt_bool) ma_nil)))) (me_one (me_cmp om_ge (me_var (i := 0) rfl) (me_var (i := 1) rfl)))))))
theorem ok__law_uids (T : Txt K w mg) : FnM P w K mg base "_law_uids" 2 m__law_uids := FnM.ofH (k := 1) (N := ["thing", "one"]) (ps := ["thing"]) (body := b__law_uids) T.f__law_uids sc__law_uids fun f cdv A outer s H E hx =>
    (ms_cons (ms_if (mt_w (mw_or (mt_not (mt_val (me_callB cm_isi rfl T.n_isinstance bt_isinstance (ma_cons (me_var (i := 0) rfl) (ma_cons (me_ty (n := "tuple") rfl T.n_tuple bt_tuple) ma_nil))))) (mw_or1 (mt_cmp (om_ne hx.hu) (me_lc (own := [("one", 1)]) hx.calm sc__law_uids.nd (mi_any (me_var (i := 0) rfl)) (blkOk_by (by kernel_rfl)) (fun _ _ _ _ _ => (mw_name (i := 1) (by decide) sc__law_uids.nd rfl (Or.inl rfl))) (fun _ _ _ _ _ => (mp_one (mt_w (mw_or (mt_not (mt_val (me_callK (ok__law_number T) (hx.room.mono (by omega)) rfl (ma_cons (me_var (i := 1) rfl) (ma_cons (me_un om_neg (me_bin om_pow me_int me_int)) ma_nil))))) (mw_or1 (mt_cmp (om_eq hx.hu) (me_var (i := 1) rfl) me_int)))))) (fun _ _ _ _ _ => (me_var (i := 1) rfl))) (me_lst ma_nil))))) (ms_one (ms_ret me_bl)) ms_nil)
    (ms_one (ms_ret (me_cmp (om_eq hx.hu) (me_callTy cm_list rfl T.n_list bt_list (ma_cons (me_var (i := 0) rfl) ma_nil)) (me_sortedSet hx.calm rfl T.n_sorted rfl T.n_set (me_var (i := 0) rfl))))))
theorem ok__law_box (T : Txt K w mg) : FnM P w K mg base "_law_box" 2 m__law_box := FnM.ofH (k := 1) (N := ["thing"]) (ps := ["thing"]) (body := b__law_box) T.f__law_box sc__law_box fun f cdv A outer s H E hx =>
    (ms_one (ms_ret (me_call (ok__law_number T) (hx.room.mono (by omega)) rfl hx.tk (ma_cons (me_var (i := 0) rfl) (ma_cons (me_un om_neg (me_bin om_pow me_int me_int)) ma_nil)))))
theorem ok__law_letters (T : Txt K w mg) : FnM P w K mg base "_law_letters" 1 m__law_letters := FnM.ofH (k := 0) (N := ["thing", "sign"]) (ps := ["thing"]) (body := b__law_letters) T.f__law_letters sc__law_letters fun f cdv A outer s H E hx =>
    (ms_cons (ms_if (mt_not (mt_val (me_callB cm_isi rfl T.n_isinstance bt_isinstance (ma_cons (me_var (i := 0) rfl) (ma_cons (me_ty (n := "str") rfl T.n_str bt_str) ma_nil))))) (ms_one (ms_ret me_bl)) ms_nil)
    (ms_one (ms_ret (me_cmp (om_eq hx.hu) (me_var (i := 0) rfl) (me_bm PySem.F.plainAttrs_str PySem.F.slot_str_join PySem.F.type_str_join mm_join me_str (ma_cons (me_lc (own := [("sign", 1)]) hx.calm sc__law_letters.nd (mi_any me_str) (blkOk_by (by kernel_rfl)) (fun _ _ _ _ _ => (mw_name (i := 1) (by decide) sc__law_letters.nd rfl (Or.inl rfl))) (fun _ _ _ _ _ => (mp_one (mt_cmp (om_in2 hx.hu5) (me_var (i := 1) rfl) (me_var (i := 0) rfl)))) (fun _ _ _ _ _ => (me_var (i := 1) rfl))) ma_nil))))))
theorem ok__law_deed (T : Txt K w mg) : FnM P w K mg base "_law_deed" 3 m__law_deed := FnM.ofH (k := 2) (N := ["thing", "kinds", "k", "one", "sort", "good", "word"]) (ps := ["thing"]) (body := b__law_deed) T.f__law_deed sc__law_deed fun f cdv A outer s H E hx =>
    (ms_cons (ms_if (mt_w (mw_or (mt_not (mt_val (me_callB cm_isi rfl T.n_isinstance bt_isinstance (ma_cons (me_var (i := 0) rfl) (ma_cons (me_ty (n := "tuple") rfl T.n_tuple bt_tuple) ma_nil))))) (mw_or (mt_cmp (om_eq hx.hu) (me_callB cm_len rfl T.n_len bt_len (ma_cons (me_var (i := 0) rfl) ma_nil)) me_int) (mw_or1 (mt_not (mt_val (me_callB cm_isi rfl T.n_isinstance bt_isinstance (ma_cons (me_ix hx.hu (me_var (i := 0) rfl) me_int) (ma_cons (me_ty (n := "str") rfl T.n_str bt_str) ma_nil))))))))) (ms_one (ms_ret me_bl)) ms_nil)
    (ms_cons (ms_set (i := 1) sc__law_deed.nd rfl (Or.inl rfl) (me_disp (ps := [((mC (.str "make")), (mC (.str "n"))), ((mC (.str "unmake")), (mC (.str "b"))), ((mC (.str "rename")), (mC (.str "bn"))), ((mC (.str "grant")), (mC (.str "bnl"))), ((mC (.str "put")), (mC (.str "bft"))), ((mC (.str "flag")), (mC (.str "bumf"))), ((mC (.str "copy")), (mC (.str "bub"))), ((mC (.str "move")), (mC (.str "bub")))]) (pps_cons me_str me_str (pps_cons me_str me_str (pps_cons me_str me_str (pps_cons me_str me_str (pps_cons me_str me_str (pps_cons me_str me_str (pps_cons me_str me_str (pps_cons me_str me_str pps_nil))))))))))
    (ms_cons (ms_put hx.hu1 me_str (me_var (i := 1) rfl) me_str)
    (ms_cons (ms_put hx.hu1 me_str (me_var (i := 1) rfl) me_str)
    (ms_cons (ms_put hx.hu1 me_str (me_var (i := 1) rfl) me_str)
    (ms_cons (ms_put hx.hu1 me_str (me_var (i := 1) rfl) me_str)
    (ms_cons (ms_put hx.hu1 me_str (me_var (i := 1) rfl) me_str)
    (ms_cons (ms_if (mt_w (mw_or (mt_cmp (om_notIn2 hx.hu5) (me_ix hx.hu (me_var (i := 0) rfl) me_int) (me_var (i := 1) rfl)) (mw_or1 (mt_cmp (om_ne hx.hu) (me_callB cm_len rfl T.n_len bt_len (ma_cons (me_var (i := 0) rfl) ma_nil)) (me_bin om_add me_int (me_callB cm_len rfl T.n_len bt_len (ma_cons (me_ix hx.hu (me_var (i := 1) rfl) (me_ix hx.hu (me_var (i := 0) rfl) me_int)) ma_nil))))))) (ms_one (ms_ret me_bl)) ms_nil)
    (ms_cons (ms_for hx.po hx.calm (mi_range2 rfl T.n_range (ma_cons me_int (ma_cons (me_callB cm_len rfl T.n_len bt_len (ma_cons (me_var (i := 0) rfl) ma_nil)) ma_nil))) (mg_name (i := 2) sc__law_deed.nd rfl (Or.inl rfl)) (ms_cons (ms_set (i := 3) sc__law_deed.nd rfl (Or.inl rfl) (me_ix hx.hu (me_var (i := 0) rfl) (me_var (i := 2) rfl)))
    (ms_cons (ms_set (i := 4) sc__law_deed.nd rfl (Or.inl rfl) (me_ix hx.hu (me_ix hx.hu (me_var (i := 1) rfl) (me_ix hx.hu (me_var (i := 0) rfl) me_int)) (me_bin om_sub (me_var (i := 2) rfl) me_int)))
    (ms_cons (ms_set (i := 5) sc__law_deed.nd rfl (Or.inl rfl) (me_disp (ps := [((mC (.str "n")), (mCall m__law_name (aCons (mVar 3) aNil))), ((mC (.str "b")), (mCall m__law_box (aCons (mVar 3) aNil))), ((mC (.str "l")), (mCall m__law_letters (aCons (mVar 3) aNil))), ((mC (.str "f")), (mCall m__law_flags (aCons (mVar 3) aNil))), ((mC (.str "t")), (mL oIsi (aCons (mVar 3) (aCons (mC (.ty "str")) aNil)))), ((mC (.str "u")), (mCall m__law_uids (aCons (mVar 3) aNil)))]) (pps_cons me_str (me_call (ok__law_name T) (hx.room.mono (by omega)) rfl hx.tk (ma_cons (me_var (i := 3) rfl) ma_nil)) (pps_cons me_str (me_call (ok__law_box T) (hx.room.mono (by omega)) rfl hx.tk (ma_cons (me_var (i := 3) rfl) ma_nil)) (pps_cons me_str (me_call (ok__law_letters T) (hx.room.mono (by omega)) rfl hx.tk (ma_cons (me_var (i := 3) rfl) ma_nil)) (pps_cons me_str (me_call (ok__law_flags T) (hx.room.mono (by omega)) rfl hx.tk (ma_cons (me_var (i := 3) rfl) ma_nil)) (pps_cons me_str (me_callB cm_isi rfl T.n_isinstance bt_isinstance (ma_cons (me_var (i := 3) rfl) (ma_cons (me_ty (n := "str") rfl T.n_str bt_str) ma_nil))) (pps_cons me_str (me_call (ok__law_uids T) (hx.room.mono (by omega)) rfl hx.tk (ma_cons (me_var (i := 3) rfl) ma_nil)) pps_nil))))))))
    (ms_cons (ms_put hx.hu1 (me_and (me_callB cm_isi rfl T.n_isinstance bt_isinstance (ma_cons (me_var (i := 3) rfl) (ma_cons (me_ty (n := "str") rfl T.n_str bt_str) ma_nil))) (me_one (me_cmp (om_in2 hx.hu5) (me_var (i := 3) rfl) (me_tup (ma_cons me_str (ma_cons me_str (ma_cons me_str ma_nil))))))) (me_var (i := 5) rfl) me_str)
    (ms_cons (ms_put hx.hu1 (me_and (me_callB cm_isi rfl T.n_isinstance bt_isinstance (ma_cons (me_var (i := 3) rfl) (ma_cons (me_ty (n := "tuple") rfl T.n_tuple bt_tuple) ma_nil))) (me_one (me_cmp (om_eq hx.hu) (me_lc (own := [("word", 6)]) hx.calm sc__law_deed.nd (mi_any (me_var (i := 3) rfl)) (blkOk_by (by kernel_rfl)) (fun _ _ _ _ _ => (mw_name (i := 6) (by decide) sc__law_deed.nd rfl (Or.inl rfl))) (fun _ _ _ _ _ => (mp_one (mt_not (mt_val (me_callB cm_isi rfl T.n_isinstance bt_isinstance (ma_cons (me_var (i := 6) rfl) (ma_cons (me_ty (n := "str") rfl T.n_str bt_str) ma_nil))))))) (fun _ _ _ _ _ => (me_var (i := 6) rfl))) (me_lst ma_nil)))) (me_var (i := 5) rfl) me_str)
    (ms_cons (ms_put hx.hu1 (me_call (ok__law_number T) (hx.room.mono (by omega)) rfl hx.tk (ma_cons (me_var (i := 3) rfl) (ma_cons me_int ma_nil))) (me_var (i := 5) rfl) me_str)
    (ms_one (ms_if (mt_not (mt_val (me_ix hx.hu (me_var (i := 5) rfl) (me_var (i := 4) rfl)))) (ms_one (ms_ret me_bl)) ms_nil)))))))))
    (ms_one (ms_ret me_bl)))))))))))
theorem ok_consists_of (T : Txt K w mg) : FnM P w K mg base "consists_of" 1 m_consists_of := FnM.ofH (k := 0) (N := ["text", "signs"]) (ps := ["text", "signs"]) (body := b_consists_of) T.f_consists_of sc_consists_of fun f cdv A outer s H E hx =>
    (ms_one (ms_ret (me_cmp (om_eq hx.hu) (me_bm PySem.F.plainAttrs_str PySem.F.slot_str_strip PySem.F.type_str_strip mm_strip1 (me_var (i := 0) rfl) (ma_cons (me_var (i := 1) rfl) ma_nil)) me_str)))
theorem ok_is_small_word (T : Txt K w mg) : FnM P w K mg base "is_small_word" 2 m_is_small_word := FnM.ofH (k := 1) (N := ["thing", "most"]) (ps := ["thing", "most"]) (body := b_is_small_word) T.f_is_small_word sc_is_small_word fun f cdv A outer s H E hx =>
    (ms_one (ms_ret (me_and (me_cmp om_is (me_callTy cm_type rfl T.n_type bt_type (ma_cons (me_var (i := 0) rfl) ma_nil)) (me_ty (n := "str") rfl T.n_str bt_str)) (me_and (me_chain om_le om_le me_int (me_callB cm_len rfl T.n_len bt_len (ma_cons (me_var (i := 0) rfl) ma_nil)) (me_var (i := 1) rfl)) (me_one (me_call (ok_consists_of T) (hx.room.mono (by omega)) rfl hx.tk (ma_cons (me_var (i := 0) rfl) (ma_cons (me_gstrE rfl T.c_SMALL) ma_nil))))))))
theorem ok_is_house (T : Txt K w mg) : FnM P w K mg base "is_house" 3 m_is_house := FnM.ofH (k := 2) (N := ["thing"]) (ps := ["thing"]) (body := b_is_house) T.f_is_house sc_is_house fun f cdv A outer s H E hx =>
    (ms_one (ms_ret (me_call (ok_is_small_word T) (hx.room.mono (by omega)) rfl hx.tk (ma_cons (me_var (i := 0) rfl) (ma_cons me_int ma_nil)))))
theorem ok_is_name (T : Txt K w mg) : FnM P w K mg base "is_name" 2 m_is_name := FnM.ofH (k := 1) (N := ["thing"]) (ps := ["thing"]) (body := b_is_name) T.f_is_name sc_is_name fun f cdv A outer s H E hx =>
    (ms_cons (ms_if (mt_w (mw_or (mt_cmp om_isNot (me_callTy cm_type rfl T.n_type bt_type (ma_cons (me_var (i := 0) rfl) ma_nil)) (me_ty (n := "str") rfl T.n_str bt_str)) (mw_or1 (mt_not (mt_chain om_le om_le me_int (me_callB cm_len rfl T.n_len bt_len (ma_cons (me_var (i := 0) rfl) ma_nil)) me_int))))) (ms_one (ms_ret me_bl)) ms_nil)
    (ms_one (ms_ret (me_and (me_cmp (om_in2 hx.hu5) (me_ix hx.hu (me_var (i := 0) rfl) me_int) (me_gstrE rfl T.c_SMALL)) (me_one (me_call (ok_consists_of T) (hx.room.mono (by omega)) rfl hx.tk (ma_cons (me_var (i := 0) rfl) (ma_cons (me_bin om_add (me_gstrE rfl T.c_SMALL) (me_gstrE rfl T.c_DIGITS)) ma_nil))))))))
theorem ok_is_device (T : Txt K w mg) : FnM P w K mg base "is_device" 3 m_is_device := FnM.ofH (k := 2) (N := ["thing"]) (ps := ["thing"]) (body := b_is_device) T.f_is_device sc_is_device fun f cdv A outer s H E hx =>
    (ms_one (ms_ret (me_call (ok_is_small_word T) (hx.room.mono (by omega)) rfl hx.tk (ma_cons (me_var (i := 0) rfl) (ma_cons me_int ma_nil)))))
theorem ok_is_flag (T : Txt K w mg) : FnM P w K mg base "is_flag" 3 m_is_flag := FnM.ofH (k := 2) (N := ["thing"]) (ps := ["thing"]) (body := b_is_flag) T.f_is_flag sc_is_flag fun f cdv A outer s H E hx =>
    (ms_one (ms_ret (me_call (ok_is_small_word T) (hx.room.mono (by omega)) rfl hx.tk (ma_cons (me_var (i := 0) rfl) (ma_cons me_int ma_nil)))))
theorem ok_are_ascending (T : Txt K w mg) : FnM P w K mg base "are_ascending" 1 m_are_ascending := FnM.ofH (k := 0) (N := ["row", "low", "high"]) (ps := ["row"]) (body := b_are_ascending) T.f_are_ascending sc_are_ascending fun f cdv A outer s H E hx =>
    (ms_one (ms_ret (me_callB (cm_all hx.calm) rfl T.n_all bt_all (ma_cons (me_lc (own := [("low", 1), ("high", 2)]) hx.calm sc_are_ascending.nd (mi_zip rfl T.n_zip (ma_cons (me_var (i := 0) rfl) (ma_cons (me_slice (me_var (i := 0) rfl) (mo_some me_int) mo_none) ma_nil))) (blkOk_by (by kernel_rfl)) (fun _ _ _ _ _ => (mw_tup hx.calm (mws_cons (mw_name (i := 1) (by decide) sc_are_ascending.nd rfl (Or.inl rfl)) (mws_cons (mw_name (i := 2) (by decide) sc_are_ascending.nd rfl (Or.inl rfl)) mws_nil)))) (fun _ _ _ _ _ => mp_nil) (fun _ _ _ _ _ => (me_cmp om_lt (me_var (i := 1) rfl) (me_var (i := 2) rfl)))) ma_nil))))
theorem ok_are_flags (T : Txt K w mg) : FnM P w K mg base "are_flags" 4 m_are_flags := FnM.ofH (k := 3) (N := ["thing", "flag"]) (ps := ["thing"]) (body := b_are_flags) T.f_are_flags sc_are_flags fun f cdv A outer s H E hx =>
    (ms_cons (ms_if (mt_w (mw_or (mt_cmp om_isNot (me_callTy cm_type rfl T.n_type bt_type (ma_cons (me_var (i := 0) rfl) ma_nil)) (me_ty (n := "tuple") rfl T.n_tuple bt_tuple)) (mw_or1 (mt_not (mt_val (me_callB (cm_all hx.calm) rfl T.n_all bt_all (ma_cons (me_lc (own := [("flag", 1)]) hx.calm sc_are_flags.nd (mi_any (me_var (i := 0) rfl)) (blkOk_by (by kernel_rfl)) (fun _ _ _ _ _ => (mw_name (i := 1) (by decide) sc_are_flags.nd rfl (Or.inl rfl))) (fun _ _ _ _ _ => mp_nil) (fun _ _ _ _ _ => (me_callK (ok_is_flag T) (hx.room.mono (by omega)) rfl (ma_cons (me_var (i := 1) rfl) ma_nil)))) ma_nil))))))) (ms_one (ms_ret me_bl)) ms_nil)
    (ms_one (ms_ret (me_call (ok_are_ascending T) (hx.room.mono (by omega)) rfl hx.tk (ma_cons (me_var (i := 0) rfl) ma_nil)))))
theorem ok_is_integer (T : Txt K w mg) : FnM P w K mg base "is_integer" 1 m_is_integer := FnM.ofH (k := 0) (N := ["thing"]) (ps := ["thing"]) (body := b_is_integer) T.f_is_integer sc_is_integer fun f cdv A outer s H E hx =>
    (ms_one (ms_ret (me_cmp om_is (me_callTy cm_type rfl T.n_type bt_type (ma_cons (me_var (i := 0) rfl) ma_nil)) (me_ty (n := "int") rfl T.n_int bt_int))))
theorem ok_are_uids (T : Txt K w mg) : FnM P w K mg base "are_uids" 2 m_are_uids := FnM.ofH (k := 1) (N := ["thing", "uid"]) (ps := ["thing"]) (body := b_are_uids) T.f_are_uids sc_are_uids fun f cdv A outer s H E hx =>
    (ms_cons (ms_if (mt_w (mw_or (mt_cmp om_isNot (me_callTy cm_type rfl T.n_type bt_type (ma_cons (me_var (i := 0) rfl) ma_nil)) (me_ty (n := "tuple") rfl T.n_tuple bt_tuple)) (mw_or1 (mt_not (mt_val (me_callB (cm_all hx.calm) rfl T.n_all bt_all (ma_cons (me_lc (own := [("uid", 1)]) hx.calm sc_are_uids.nd (mi_any (me_var (i := 0) rfl)) (blkOk_by (by kernel_rfl)) (fun _ _ _ _ _ => (mw_name (i := 1) (by decide) sc_are_uids.nd rfl (Or.inl rfl))) (fun _ _ _ _ _ => mp_nil) (fun _ _ _ _ _ => (me_callK (ok_is_integer T) (hx.room.mono (by omega)) rfl (ma_cons (me_var (i := 1) rfl) ma_nil)))) ma_nil))))))) (ms_one (ms_ret me_bl)) ms_nil)
    (ms_one (ms_ret (me_and (me_cmp (om_notIn2 hx.hu5) me_int (me_var (i := 0) rfl)) (me_one (me_call (ok_are_ascending T) (hx.room.mono (by omega)) rfl hx.tk (ma_cons (me_var (i := 0) rfl) ma_nil)))))))
theorem ok_is_box (T : Txt K w mg) : FnM P w K mg base "is_box" 2 m_is_box := FnM.ofH (k := 1) (N := ["thing"]) (ps := ["thing"]) (body := b_is_box) T.f_is_box sc_is_box fun f cdv A outer s H E hx =>
    (ms_one (ms_ret (me_call (ok_is_integer T) (hx.room.mono (by omega)) rfl hx.tk (ma_cons (me_var (i := 0) rfl) ma_nil))))
theorem ok_in_order (T : Txt K w mg) : FnM P w K mg base "in_order" 1 m_in_order := FnM.ofH (k := 0) (N := ["letters", "letter"]) (ps := ["letters"]) (body := b_in_order) T.f_in_order sc_in_order fun f cdv A outer s H E hx =>
    (ms_one (ms_ret (me_bm PySem.F.plainAttrs_str PySem.F.slot_str_join PySem.F.type_str_join mm_join me_str (ma_cons (me_lc (own := [("letter", 1)]) hx.calm sc_in_order.nd (mi_any (me_gstrE rfl T.c_RIGHTS)) (blkOk_by (by kernel_rfl)) (fun _ _ _ _ _ => (mw_name (i := 1) (by decide) sc_in_order.nd rfl (Or.inl rfl))) (fun _ _ _ _ _ => (mp_one (mt_cmp (om_in2 hx.hu5) (me_var (i := 1) rfl) (me_var (i := 0) rfl)))) (fun _ _ _ _ _ => (me_var (i := 1) rfl))) ma_nil))))
theorem ok_are_rights (T : Txt K w mg) : FnM P w K mg base "are_rights" 2 m_are_rights := FnM.ofH (k := 1) (N := ["thing"]) (ps := ["thing"]) (body := b_are_rights) T.f_are_rights sc_are_rights fun f cdv A outer s H E hx =>
    (ms_one (ms_ret (me_and (me_cmp om_is (me_callTy cm_type rfl T.n_type bt_type (ma_cons (me_var (i := 0) rfl) ma_nil)) (me_ty (n := "str") rfl T.n_str bt_str)) (me_one (me_cmp (om_eq hx.hu) (me_var (i := 0) rfl) (me_call (ok_in_order T) (hx.room.mono (by omega)) rfl hx.tk (ma_cons (me_var (i := 0) rfl) ma_nil)))))))
theorem ok_is_text (T : Txt K w mg) : FnM P w K mg base "is_text" 2 m_is_text := FnM.ofH (k := 1) (N := ["thing"]) (ps := ["thing"]) (body := b_is_text) T.f_is_text sc_is_text fun f cdv A outer s H E hx =>
    (ms_one (ms_ret (me_and (me_cmp om_is (me_callTy cm_type rfl T.n_type bt_type (ma_cons (me_var (i := 0) rfl) ma_nil)) (me_ty (n := "str") rfl T.n_str bt_str)) (me_one (me_call (ok_consists_of T) (hx.room.mono (by omega)) rfl hx.tk (ma_cons (me_var (i := 0) rfl) (ma_cons (me_gstrE rfl T.c_SIGNS) ma_nil)))))))
theorem ok_is_content (T : Txt K w mg) : FnM P w K mg base "is_content" 3 m_is_content := FnM.ofH (k := 2) (N := ["thing"]) (ps := ["thing"]) (body := b_is_content) T.f_is_content sc_is_content fun f cdv A outer s H E hx =>
    (ms_one (ms_ret (me_call (ok_is_text T) (hx.room.mono (by omega)) rfl hx.tk (ma_cons (me_var (i := 0) rfl) ma_nil))))
theorem ok_is_mode (T : Txt K w mg) : FnM P w K mg base "is_mode" 1 m_is_mode := FnM.ofH (k := 0) (N := ["thing"]) (ps := ["thing"]) (body := b_is_mode) T.f_is_mode sc_is_mode fun f cdv A outer s H E hx =>
    (ms_one (ms_ret (me_cmp (om_in2 hx.hu5) (me_var (i := 0) rfl) (me_gtupE rfl T.c_MODES))))
theorem ok_are_texts (T : Txt K w mg) : FnM P w K mg base "are_texts" 3 m_are_texts := FnM.ofH (k := 2) (N := ["thing", "text"]) (ps := ["thing"]) (body := b_are_texts) T.f_are_texts sc_are_texts fun f cdv A outer s H E hx =>
    (ms_one (ms_ret (me_and (me_cmp om_is (me_callTy cm_type rfl T.n_type bt_type (ma_cons (me_var (i := 0) rfl) ma_nil)) (me_ty (n := "tuple") rfl T.n_tuple bt_tuple)) (me_one (me_callB (cm_all hx.calm) rfl T.n_all bt_all (ma_cons (me_lc (own := [("text", 1)]) hx.calm sc_are_texts.nd (mi_any (me_var (i := 0) rfl)) (blkOk_by (by kernel_rfl)) (fun _ _ _ _ _ => (mw_name (i := 1) (by decide) sc_are_texts.nd rfl (Or.inl rfl))) (fun _ _ _ _ _ => mp_nil) (fun _ _ _ _ _ => (me_callK (ok_is_text T) (hx.room.mono (by omega)) rfl (ma_cons (me_var (i := 1) rfl) ma_nil)))) ma_nil))))))
theorem ok_is_count (T : Txt K w mg) : FnM P w K mg base "is_count" 2 m_is_count := FnM.ofH (k := 1) (N := ["thing"]) (ps := ["thing"]) (body := b_is_count) T.f_is_count sc_is_count fun f cdv A outer s H E hx =>
    (ms_one (ms_ret (me_and (me_call (ok_is_integer T) (hx.room.mono (by omega)) rfl hx.tk (ma_cons (me_var (i := 0) rfl) ma_nil)) (me_one (me_cmp om_ge (me_var (i := 0) rfl) me_int)))))
theorem A_held (T : Txt K w mg) (y : Str) (mf : MF) (h : F_held y = some mf) : FnM P w K mg base y 4 mf := by
  unfold F_held at h
  repeat' split at h
  · rename_i e; cases h; subst e; exact (ok_is_name T).mono (by decide)
  · rename_i e; cases h; subst e; exact (ok_is_box T).mono (by decide)
  · rename_i e; cases h; subst e; exact (ok_are_rights T).mono (by decide)
  · rename_i e; cases h; subst e; exact (ok_are_flags T).mono (by decide)
  · rename_i e; cases h; subst e; exact (ok_is_content T).mono (by decide)
  · rename_i e; cases h; subst e; exact (ok_are_uids T).mono (by decide)
  · rename_i e; cases h; subst e; exact (ok_is_mode T).mono (by decide)
  · rename_i e; cases h; subst e; exact (ok_are_texts T).mono (by decide)
  · rename_i e; cases h; subst e; exact (ok_is_count T).mono (by decide)
  · cases h
theorem ok_is_deed (T : Txt K w mg) : FnM P w K mg base "is_deed" 5 m_is_deed := FnM.ofH (k := 4) (N := ["thing", "checks", "check", "part"]) (ps := ["thing"]) (body := b_is_deed) T.f_is_deed sc_is_deed fun f cdv A outer s H E hx =>
    (ms_cons (ms_if (mt_w (mw_or (mt_cmp om_isNot (me_callTy cm_type rfl T.n_type bt_type (ma_cons (me_var (i := 0) rfl) ma_nil)) (me_ty (n := "tuple") rfl T.n_tuple bt_tuple)) (mw_or (mt_cmp (om_eq hx.hu) (me_var (i := 0) rfl) (me_tup ma_nil)) (mw_or1 (mt_not (mt_val (me_callB cm_isi rfl T.n_isinstance bt_isinstance (ma_cons (me_ix hx.hu (me_var (i := 0) rfl) me_int) (ma_cons (me_ty (n := "str") rfl T.n_str bt_str) ma_nil))))))))) (ms_one (ms_ret me_bl)) ms_nil)
    (ms_cons (ms_set (i := 1) sc_is_deed.nd rfl (Or.inl rfl) (me_kget T.c_PARTS rfl (me_ix hx.hu (me_var (i := 0) rfl) me_int)))
    (ms_cons (ms_if (mt_w (mw_or (mt_cmp om_is (me_var (i := 1) rfl) me_non) (mw_or1 (mt_cmp (om_ne hx.hu) (me_callB cm_len rfl T.n_len bt_len (ma_cons (me_var (i := 0) rfl) ma_nil)) (me_bin om_add (me_callB cm_len rfl T.n_len bt_len (ma_cons (me_var (i := 1) rfl) ma_nil)) me_int))))) (ms_one (ms_ret me_bl)) ms_nil)
    (ms_cons (ms_for hx.po hx.calm (mi_zip rfl T.n_zip (ma_cons (me_var (i := 1) rfl) (ma_cons (me_slice (me_var (i := 0) rfl) (mo_some me_int) mo_none) ma_nil))) (mg_tup hx.calm (mgs_cons (mg_name (i := 2) sc_is_deed.nd rfl (Or.inl rfl)) (mgs_cons (mg_name (i := 3) sc_is_deed.nd rfl (Or.inl rfl)) mgs_nil))) (ms_one (ms_if (mt_not (mt_val (me_callV (i := 2) (A_held T) (hx.room.mono (by omega)) rfl (ma_cons (me_var (i := 3) rfl) ma_nil)))) (ms_one (ms_ret me_bl)) ms_nil)))
    (ms_one (ms_ret me_bl))))))
theorem ok__law_same (T : Txt K w mg) : ∀ n : Nat, FnM P w K mg base "_law_same" (1 + n) (m__law_same n)
  | 0 => FnM.bot (k := 0) T.f__law_same sc__law_same
  | n + 1 => by
    have ih : FnM P w K mg base "_law_same" (1 + n) (m__law_same n) := ok__law_same T n
    exact FnM.ofH (k := 1 + n) (N := ["actual", "due", "k"]) (ps := ["actual", "due"]) (body := (sSeq (sIf (tVal (mL oIsi (aCons (mVar 1) (aCons (mC (.ty "tuple")) aNil)))) (sSeq (sIf (tOr2 (tNot2 (tVal (mL oIsi (aCons (mVar 0) (aCons (mC (.ty "tuple")) aNil))))) (tBl (mBin oNe (mL oLen (aCons (mVar 0) aNil)) (mL oLen (aCons (mVar 1) aNil))))) (sRet (mC (.bl false))) sNx) (sSeq (sFor (iRg1 (aCons (mL oLen (aCons (mVar 1) aNil)) aNil)) (tgN 2) (sIf (tNot2 (tVal (mCall (m__law_same n) (aCons (mBin oIx (mVar 0) (mVar 2)) (aCons (mBin oIx (mVar 1) (mVar 2)) aNil))))) (sRet (mC (.bl false))) sNx)) (sRet (mC (.bl true))))) sNx) (sSeq (sIf (tBl (mBin oIs (mVar 1) (mC .non))) (sRet (mBin oIs (mVar 0) (mC .non))) sNx) (sSeq (sIf (tBl (mBin oIs (mVar 1) (mC (.bl true)))) (sRet (mBin oIs (mVar 0) (mC (.bl true)))) sNx) (sSeq (sIf (tBl (mBin oIs (mVar 1) (mC (.bl false)))) (sRet (mBin oIs (mVar 0) (mC (.bl false)))) sNx) (sSeq (sIf (tVal (mL oIsi (aCons (mVar 1) (aCons (mC (.ty "int")) aNil)))) (sRet (mAnd2 (mL oIsi (aCons (mVar 0) (aCons (mC (.ty "int")) aNil))) (mAnd2 (mNot (mL oIsi (aCons (mVar 0) (aCons (mC (.ty "bool")) aNil)))) (mBin oEq (mVar 0) (mVar 1))))) sNx) (sRet (mAnd2 (mL oIsi (aCons (mVar 0) (aCons (mC (.ty "str")) aNil))) (mBin oEq (mVar 0) (mVar 1)))))))))) T.f__law_same sc__law_same fun f cdv A outer s H E hx =>
    (ms_cons (ms_if (mt_val (me_callB cm_isi rfl T.n_isinstance bt_isinstance (ma_cons (me_var (i := 1) rfl) (ma_cons (me_ty (n := "tuple") rfl T.n_tuple bt_tuple) ma_nil)))) (ms_cons (ms_if (mt_w (mw_or (mt_not (mt_val (me_callB cm_isi rfl T.n_isinstance bt_isinstance (ma_cons (me_var (i := 0) rfl) (ma_cons (me_ty (n := "tuple") rfl T.n_tuple bt_tuple) ma_nil))))) (mw_or1 (mt_cmp (om_ne hx.hu) (me_callB cm_len rfl T.n_len bt_len (ma_cons (me_var (i := 0) rfl) ma_nil)) (me_callB cm_len rfl T.n_len bt_len (ma_cons (me_var (i := 1) rfl) ma_nil)))))) (ms_one (ms_ret me_bl)) ms_nil)
    (ms_cons (ms_for hx.po hx.calm (mi_range1 rfl T.n_range (ma_cons (me_callB cm_len rfl T.n_len bt_len (ma_cons (me_var (i := 1) rfl) ma_nil)) ma_nil)) (mg_name (i := 2) sc__law_same.nd rfl (Or.inl rfl)) (ms_one (ms_if (mt_not (mt_val (me_call ih (hx.room.mono (by omega)) rfl hx.tk (ma_cons (me_ix hx.hu (me_var (i := 0) rfl) (me_var (i := 2) rfl)) (ma_cons (me_ix hx.hu (me_var (i := 1) rfl) (me_var (i := 2) rfl)) ma_nil))))) (ms_one (ms_ret me_bl)) ms_nil)))
    (ms_one (ms_ret me_bl)))) ms_nil)
    (ms_cons (ms_if (mt_cmp om_is (me_var (i := 1) rfl) me_non) (ms_one (ms_ret (me_cmp om_is (me_var (i := 0) rfl) me_non))) ms_nil)
    (ms_cons (ms_if (mt_cmp om_is (me_var (i := 1) rfl) me_bl) (ms_one (ms_ret (me_cmp om_is (me_var (i := 0) rfl) me_bl))) ms_nil)
    (ms_cons (ms_if (mt_cmp om_is (me_var (i := 1) rfl) me_bl) (ms_one (ms_ret (me_cmp om_is (me_var (i := 0) rfl) me_bl))) ms_nil)
    (ms_cons (ms_if (mt_val (me_callB cm_isi rfl T.n_isinstance bt_isinstance (ma_cons (me_var (i := 1) rfl) (ma_cons (me_ty (n := "int") rfl T.n_int bt_int) ma_nil)))) (ms_one (ms_ret (me_and (me_callB cm_isi rfl T.n_isinstance bt_isinstance (ma_cons (me_var (i := 0) rfl) (ma_cons (me_ty (n := "int") rfl T.n_int bt_int) ma_nil))) (me_and (me_not (me_callB cm_isi rfl T.n_isinstance bt_isinstance (ma_cons (me_var (i := 0) rfl) (ma_cons (me_ty (n := "bool") rfl T.n_bool bt_bool) ma_nil)))) (me_one (me_cmp (om_eq hx.hu) (me_var (i := 0) rfl) (me_var (i := 1) rfl))))))) ms_nil)
    (ms_one (ms_ret (me_and (me_callB cm_isi rfl T.n_isinstance bt_isinstance (ma_cons (me_var (i := 0) rfl) (ma_cons (me_ty (n := "str") rfl T.n_str bt_str) ma_nil))) (me_one (me_cmp (om_eq hx.hu) (me_var (i := 0) rfl) (me_var (i := 1) rfl)))))))))))
theorem ok_completed (T : Txt K w mg) : FnM P w K mg base "completed" 3 m_completed := FnM.ofH (k := 2) (N := ["letters"]) (ps := ["letters"]) (body := b_completed) T.f_completed sc_completed fun f cdv A outer s H E hx =>
    (ms_cons (ms_if (mt_not (mt_val (me_call (ok_are_rights T) (hx.room.mono (by omega)) rfl hx.tk (ma_cons (me_var (i := 0) rfl) ma_nil)))) (ms_one (ms_ret me_non)) ms_nil)
    (ms_cons (ms_if (mt_cmp (om_in2 hx.hu5) me_str (me_var (i := 0) rfl)) (ms_one (ms_ret (me_gstrE rfl T.c_RIGHTS))) ms_nil)
    (ms_cons (ms_if (mt_w (mw_or (mt_cmp (om_in2 hx.hu5) me_str (me_var (i := 0) rfl)) (mw_or1 (mt_cmp (om_in2 hx.hu5) me_str (me_var (i := 0) rfl))))) (ms_one (ms_set (i := 0) sc_completed.nd rfl (Or.inl rfl) (me_bin om_add (me_var (i := 0) rfl) me_str))) ms_nil)
    (ms_cons (ms_if (mt_cmp (om_ne hx.hu) (me_var (i := 0) rfl) me_str) (ms_one (ms_set (i := 0) sc_completed.nd rfl (Or.inl rfl) (me_bin om_add (me_var (i := 0) rfl) me_str))) ms_nil)
    (ms_one (ms_ret (me_call (ok_in_order T) (hx.room.mono (by omega)) rfl hx.tk (ma_cons (me_var (i := 0) rfl) ma_nil))))))))
theorem okF_law (T : Txt K w mg) {f : Addr} {fd : FuncData} (F : Fun K "law" "law" s_law f fd) : FnOk P w K mg base (L2N.CX P w) 8 f fd ["script"] (spM K mg m_law) := FnM.okOf (k := 7) (N := ["script", "box", "turn", "thing", "due", "told", "deed", "letters", "sign"]) (ps := ["script"]) (body := b_law) F sc_law fun cdv A outer s H E hx =>
    (ms_cons (ms_set (i := 1) sc_law.nd rfl (Or.inr rfl) (me_lst (ma_cons (me_call (ok__law_digits T) (hx.room.mono (by omega)) rfl hx.tk (ma_cons (me_var (i := 0) rfl) (ma_cons me_int (ma_cons me_int ma_nil)))) (ma_cons me_int ma_nil))))
    (ms_cons (ms_for hx.po hx.calm (mi_range1 rfl T.n_range (ma_cons me_int ma_nil)) (mg_name (i := 2) sc_law.nd rfl (Or.inl rfl)) (ms_cons (ms_set (i := 3) sc_law.nd rfl (Or.inl rfl) (me_call (ok__law_thing T) (hx.room.mono (by omega)) rfl hx.tk (ma_cons (me_var (i := 1) rfl) ma_nil)))
    (ms_cons (ms_set (i := 4) sc_law.nd rfl (Or.inl rfl) (me_lst (ma_cons (me_call (ok__law_small T) (hx.room.mono (by omega)) rfl hx.tk (ma_cons (me_var (i := 3) rfl) (ma_cons me_int ma_nil))) (ma_cons (me_call (ok__law_name T) (hx.room.mono (by omega)) rfl hx.tk (ma_cons (me_var (i := 3) rfl) ma_nil)) (ma_cons (me_call (ok__law_small T) (hx.room.mono (by omega)) rfl hx.tk (ma_cons (me_var (i := 3) rfl) (ma_cons me_int ma_nil))) (ma_cons (me_call (ok__law_small T) (hx.room.mono (by omega)) rfl hx.tk (ma_cons (me_var (i := 3) rfl) (ma_cons me_int ma_nil))) (ma_cons (me_call (ok__law_flags T) (hx.room.mono (by omega)) rfl hx.tk (ma_cons (me_var (i := 3) rfl) ma_nil)) (ma_cons (me_call (ok__law_uids T) (hx.room.mono (by omega)) rfl hx.tk (ma_cons (me_var (i := 3) rfl) ma_nil)) (ma_cons (me_call (ok__law_deed T) (hx.room.mono (by omega)) rfl hx.tk (ma_cons (me_var (i := 3) rfl) ma_nil)) ma_nil)))))))))
    (ms_cons (ms_set (i := 5) sc_law.nd rfl (Or.inl rfl) (me_lst (ma_cons (me_call (ok_is_house T) (hx.room.mono (by omega)) rfl hx.tk (ma_cons (me_var (i := 3) rfl) ma_nil)) (ma_cons (me_call (ok_is_name T) (hx.room.mono (by omega)) rfl hx.tk (ma_cons (me_var (i := 3) rfl) ma_nil)) (ma_cons (me_call (ok_is_device T) (hx.room.mono (by omega)) rfl hx.tk (ma_cons (me_var (i := 3) rfl) ma_nil)) (ma_cons (me_call (ok_is_flag T) (hx.room.mono (by omega)) rfl hx.tk (ma_cons (me_var (i := 3) rfl) ma_nil)) (ma_cons (me_call (ok_are_flags T) (hx.room.mono (by omega)) rfl hx.tk (ma_cons (me_var (i := 3) rfl) ma_nil)) (ma_cons (me_call (ok_are_uids T) (hx.room.mono (by omega)) rfl hx.tk (ma_cons (me_var (i := 3) rfl) ma_nil)) (ma_cons (me_call (ok_is_deed T) (hx.room.mono (by omega)) rfl hx.tk (ma_cons (me_var (i := 3) rfl) ma_nil)) ma_nil)))))))))
    (ms_cons (ms_if (mt_not (mt_val (me_call (ok__law_same T 6) (hx.room.mono (by omega)) rfl hx.tk (ma_cons (me_callTy cm_tuple rfl T.n_tuple bt_tuple (ma_cons (me_var (i := 5) rfl) ma_nil)) (ma_cons (me_callTy cm_tuple rfl T.n_tuple bt_tuple (ma_cons (me_var (i := 4) rfl) ma_nil)) ma_nil))))) (ms_one (ms_ret me_bl)) ms_nil)
    (ms_cons (ms_set (i := 6) sc_law.nd rfl (Or.inl rfl) (me_call (ok__law_deed_drawn T) (hx.room.mono (by omega)) rfl hx.tk (ma_cons (me_var (i := 1) rfl) ma_nil)))
    (ms_cons (ms_if (mt_not (mt_val (me_call (ok__law_same T 6) (hx.room.mono (by omega)) rfl hx.tk (ma_cons (me_call (ok_is_deed T) (hx.room.mono (by omega)) rfl hx.tk (ma_cons (me_var (i := 6) rfl) ma_nil)) (ma_cons (me_call (ok__law_deed T) (hx.room.mono (by omega)) rfl hx.tk (ma_cons (me_var (i := 6) rfl) ma_nil)) ma_nil))))) (ms_one (ms_ret me_bl)) ms_nil)
    (ms_cons (ms_set (i := 7) sc_law.nd rfl (Or.inr rfl) (me_bm PySem.F.plainAttrs_str PySem.F.slot_str_join PySem.F.type_str_join mm_join me_str (ma_cons (me_lc (own := [("sign", 8)]) hx.calm sc_law.nd (mi_any me_str) (blkOk_by (by kernel_rfl)) (fun _ _ _ _ _ => (mw_name (i := 8) (by decide) sc_law.nd rfl (Or.inl rfl))) (fun _ _ _ _ _ => (mp_one (mt_cmp (om_eq hx.hu) (me_callK (ok__law_draw T) (hx.room.mono (by omega)) rfl (ma_cons (me_var (i := 1) rfl) (ma_cons me_int ma_nil))) me_int))) (fun _ _ _ _ _ => (me_var (i := 8) rfl))) ma_nil)))
    (ms_cons (ms_set (i := 4) sc_law.nd rfl (Or.inl rfl) (me_bm PySem.F.plainAttrs_str PySem.F.slot_str_join PySem.F.type_str_join mm_join me_str (ma_cons (me_lc (own := [("sign", 8)]) hx.calm sc_law.nd (mi_any me_str) (blkOk_by (by kernel_rfl)) (fun _ _ _ _ _ => (mw_name (i := 8) (by decide) sc_law.nd rfl (Or.inl rfl))) (fun _ _ _ _ _ => (mp_one (mt_w (mw_or (mt_cmp (om_in2 hx.hu5) (me_var (i := 8) rfl) (me_var (i := 7) rfl)) (mw_or (mt_cmp (om_in2 hx.hu5) me_str (me_var (i := 7) rfl)) (mw_or (mt_w (mw_and (mt_cmp (om_eq hx.hu) (me_var (i := 8) rfl) me_str) (mw_and1 (mt_cmp (om_ne hx.hu) (me_var (i := 7) rfl) me_str)))) (mw_or1 (mt_w (mw_and (mt_cmp (om_eq hx.hu) (me_var (i := 8) rfl) me_str) (mw_and1 (mt_w (mw_or (mt_cmp (om_in2 hx.hu5) me_str (me_var (i := 7) rfl)) (mw_or1 (mt_cmp (om_in2 hx.hu5) me_str (me_var (i := 7) rfl))))))))))))))) (fun _ _ _ _ _ => (me_var (i := 8) rfl))) ma_nil)))
    (ms_cons (ms_if (mt_not (mt_val (me_call (ok__law_same T 6) (hx.room.mono (by omega)) rfl hx.tk (ma_cons (me_call (ok_completed T) (hx.room.mono (by omega)) rfl hx.tk (ma_cons (me_var (i := 7) rfl) ma_nil)) (ma_cons (me_var (i := 4) rfl) ma_nil))))) (ms_one (ms_ret me_bl)) ms_nil)
    (ms_one (ms_if (mt_w (mw_and (mt_cmp om_isNot (me_call (ok_completed T) (hx.room.mono (by omega)) rfl hx.tk (ma_cons (me_var (i := 3) rfl) ma_nil)) me_non) (mw_and1 (mt_not (mt_val (me_call (ok__law_letters T) (hx.room.mono (by omega)) rfl hx.tk (ma_cons (me_var (i := 3) rfl) ma_nil))))))) (ms_one (ms_ret me_bl)) ms_nil))))))))))))
    (ms_one (ms_ret me_bl))))
theorem all_mk {l : PySem.W.OpenLaw} {w : World} {K : PySem.W.Frag} {h : Heap} {mg : Str → Option Value} {fa : Addr} (KX : K.In h) (G : h.Ns mainGlobals mg) (hmg : mg "law" = some (.ref fa))
    (f__law_cell : HasF K mg "_law_cell" "_law_cell" s__law_cell ["script", "k"])
    (f__law_digits : HasF K mg "_law_digits" "_law_digits" s__law_digits ["script", "first", "last"])
    (f__law_draw : HasF K mg "_law_draw" "_law_draw" s__law_draw ["box", "many"])
    (f__law_word : HasF K mg "_law_word" "_law_word" s__law_word ["box"])
    (f__law_thing : HasF K mg "_law_thing" "_law_thing" s__law_thing ["box"])
    (f__law_deed_drawn : HasF K mg "_law_deed_drawn" "_law_deed_drawn" s__law_deed_drawn ["box"])
    (f__law_small : HasF K mg "_law_small" "_law_small" s__law_small ["thing", "most"])
    (f__law_name : HasF K mg "_law_name" "_law_name" s__law_name ["thing"])
    (f__law_flags : HasF K mg "_law_flags" "_law_flags" s__law_flags ["thing"])
    (f__law_number : HasF K mg "_law_number" "_law_number" s__law_number ["thing", "least"])
    (f__law_uids : HasF K mg "_law_uids" "_law_uids" s__law_uids ["thing"])
    (f__law_box : HasF K mg "_law_box" "_law_box" s__law_box ["thing"])
    (f__law_letters : HasF K mg "_law_letters" "_law_letters" s__law_letters ["thing"])
    (f__law_deed : HasF K mg "_law_deed" "_law_deed" s__law_deed ["thing"])
    (f_consists_of : HasF K mg "consists_of" "consists_of" s_consists_of ["text", "signs"])
    (f_is_small_word : HasF K mg "is_small_word" "is_small_word" s_is_small_word ["thing", "most"])
    (f_is_house : HasF K mg "is_house" "is_house" s_is_house ["thing"])
    (f_is_name : HasF K mg "is_name" "is_name" s_is_name ["thing"])
    (f_is_device : HasF K mg "is_device" "is_device" s_is_device ["thing"])
    (f_is_flag : HasF K mg "is_flag" "is_flag" s_is_flag ["thing"])
    (f_are_ascending : HasF K mg "are_ascending" "are_ascending" s_are_ascending ["row"])
    (f_are_flags : HasF K mg "are_flags" "are_flags" s_are_flags ["thing"])
    (f_is_integer : HasF K mg "is_integer" "is_integer" s_is_integer ["thing"])
    (f_are_uids : HasF K mg "are_uids" "are_uids" s_are_uids ["thing"])
    (f_is_box : HasF K mg "is_box" "is_box" s_is_box ["thing"])
    (f_in_order : HasF K mg "in_order" "in_order" s_in_order ["letters"])
    (f_are_rights : HasF K mg "are_rights" "are_rights" s_are_rights ["thing"])
    (f_is_text : HasF K mg "is_text" "is_text" s_is_text ["thing"])
    (f_is_content : HasF K mg "is_content" "is_content" s_is_content ["thing"])
    (f_is_mode : HasF K mg "is_mode" "is_mode" s_is_mode ["thing"])
    (f_are_texts : HasF K mg "are_texts" "are_texts" s_are_texts ["thing"])
    (f_is_count : HasF K mg "is_count" "is_count" s_is_count ["thing"])
    (f_is_deed : HasF K mg "is_deed" "is_deed" s_is_deed ["thing"])
    (f__law_same : HasF K mg "_law_same" "_law_same" s__law_same ["actual", "due"])
    (f_completed : HasF K mg "completed" "completed" s_completed ["letters"])
    (f_law : HasF K mg "law" "law" s_law ["script"])
    (n_all : mg "all" = none)
    (n_bool : mg "bool" = none)
    (n_int : mg "int" = none)
    (n_isinstance : mg "isinstance" = none)
    (n_len : mg "len" = none)
    (n_list : mg "list" = none)
    (n_range : mg "range" = none)
    (n_set : mg "set" = none)
    (n_sorted : mg "sorted" = none)
    (n_str : mg "str" = none)
    (n_tuple : mg "tuple" = none)
    (n_type : mg "type" = none)
    (n_zip : mg "zip" = none)
    (c_SMALL : ∃ t, mg "SMALL" = some (.str "abcdefghijklmnopqrstuvwxyz" t))
    (c_DIGITS : ∃ t, mg "DIGITS" = some (.str "0123456789" t))
    (c_SIGNS : ∃ t, mg "SIGNS" = some (.str "\n !\"#$&'()*+,-./0123456789:;<=>?@ABCDEFGHIJKLMNOPQRSTUVWXYZ[\\]^_`abcdefghijklmnopqrstuvwxyz{|}~" t))
    (c_RIGHTS : ∃ t, mg "RIGHTS" = some (.str "lrsiea" t))
    (c_MODES : ∃ a, mg "MODES" = some (.ref a) ∧ ∀ ρ H, RV K mg ρ H c_MODES (.ref a))
    (c_PARTS : KTab K w mg "PARTS" c_PARTS) :
    ∃ fd : FuncData, Fun K "law" "law" s_law fa fd ∧ ∀ base : Heap, FnOk l.prog w K mg base (L2N.CX l.prog w) 8 fa fd ["script"] (spM K mg m_law) := by
  have T : Txt K w mg := ⟨f__law_cell, f__law_digits, f__law_draw, f__law_word, f__law_thing, f__law_deed_drawn, f__law_small, f__law_name, f__law_flags, f__law_number, f__law_uids, f__law_box, f__law_letters, f__law_deed, f_consists_of, f_is_small_word, f_is_house, f_is_name, f_is_device, f_is_flag, f_are_ascending, f_are_flags, f_is_integer, f_are_uids, f_is_box, f_in_order, f_are_rights, f_is_text, f_is_content, f_is_mode, f_are_texts, f_is_count, f_is_deed, f__law_same, f_completed, f_law, n_all, n_bool, n_int, n_isinstance, n_len, n_list, n_range, n_set, n_sorted, n_str, n_tuple, n_type, n_zip, c_SMALL, c_DIGITS, c_SIGNS, c_RIGHTS, c_MODES, c_PARTS⟩
  obtain ⟨f, fd, F, hm, hb⟩ := f_law.ex
  have e := hmg.symm.trans hm
  cases e
  exact ⟨fd, F, fun base => okF_law T F⟩
end K29
end

section
set_option Elab.async false
set_option linter.all false
set_option maxRecDepth 100000
/-! P2: law k29, plainly. -/
namespace K29
open PySem PySem.Spec M2 P0 L2 PyProof.Rows
set_option autoImplicit false
theorem isi_of {S : Sto} {d : D} {t n : String} {k : Bool} (h : tyD S d = some t) (hk : kitB t n = some k) : oIsi [d, .ty n] S = some (.bl k, S) := by
  show (match tyD S d with
    | some t => (kitB t n).map fun b => (D.bl b, S)
    | none => none) = _
  rw [h]
  show (kitB t n).map (fun b => (D.bl b, S)) = _
  rw [hk]; rfl
theorem filt_nil (x z : Str) : (((x.cps.toList.filter fun c => !decide (c ∈ z.cps.toList)).map fun c => D.str ⟨#[c]⟩).isEmpty) = allIn x z := by
  unfold allIn
  rw [Bool.eq_iff_iff, List.isEmpty_iff, List.map_eq_nil_iff, List.filter_eq_nil_iff, List.all_eq_true]
  simp
def TextOk (x : Str) : Prop := x.length ≤ 1000 ∧ PyData.strOk x = true
theorem TextOk.sz {x : Str} (h : TextOk x) : x.length ≤ sizeLine := by have := h.1; rw [sizeLine_eq]; omega
theorem pd_str {S : Sto} {x : Str} (h : PyData.strOk x = true) : PD S (.str x) := ⟨.str x, rfl, h, Nat.zero_le _⟩
theorem strOk_one {x : Str} (h : PyData.strOk x = true) {c : Nat} (hc : c ∈ x.cps.toList) : PyData.strOk ⟨#[c]⟩ = true := by
  unfold PyData.strOk at h ⊢
  rw [Array.all_eq_true_iff_forall_mem] at h
  have := h c (by simpa using hc)
  simpa using this
theorem lsmall_str {S : Sto} {x : Str} {most : Int} (h : TextOk x) : ∃ S', m__law_small [.str x, .int most] S = .ok (.bl (smallB x most)) S' ∧ Gr S S' := by
  have f1 : oIsi [.str x, .ty "str"] S = some (.bl true, S) := rfl
  have e1 : decide ((0 : Int) < (x.length : Int)) = decide (1 ≤ (x.length : Int)) := by
    rw [Bool.eq_iff_iff, decide_eq_true_eq, decide_eq_true_eq]; omega
  obtain ⟨S', c1, c2, c3, c4⟩ := comp_signs (e := [some (.str x), some (.int most), none]) (S := S) (x := x) (z := "abcdefghijklmnopqrstuvwxyz") (i := 0) (j := 2) (mz := mC (.str "abcdefghijklmnopqrstuvwxyz")) rfl (by simp) (by decide) h.sz fun _ _ => rfl
  generalize hmc : mLcC (iAny (mVar 0)) (tgN 2) (tBl (mBin oNotIn2 (mVar 2) (mC (.str "abcdefghijklmnopqrstuvwxyz")))) (mVar 2) [2] = mc at c1
  have f3 : eqD (S' ++ [.lst true []]) (.loc S.length) (.loc S'.length) = some (allIn x "abcdefghijklmnopqrstuvwxyz") := by
    rw [eq_nil (w := true) (w' := true) (by rw [List.getElem?_append_left c4]; exact c3) (by simp) fun d hd => ?_, filt_nil]
    obtain ⟨c, hc, rfl⟩ := List.mem_map.mp hd
    exact pd_str (strOk_one h.2 ((List.mem_filter.mp hc).1))
  have f4 : oEq (.loc S.length) (.loc S'.length) (S' ++ [.lst true []]) = some (.bl (allIn x "abcdefghijklmnopqrstuvwxyz"), S' ++ [.lst true []]) := by
    show (eqD _ _ _).map _ = _
    rw [f3]; rfl
  have f5 : (0 : Nat) ≤ sizeLine := Nat.zero_le _
  unfold m__law_small b__law_small
  rw [hmc]
  unfold smallB
  cases h1 : decide (1 ≤ (x.length : Int)) with
  | false =>
    refine ⟨S, ?_, Gr.refl _⟩
    simp only [mDef, sRet, sSeq, sIf, sExpr, sAsg, sNx, sBk, sCt, sPut, tgN, mBin, mUn, mMeth, mL, mM, mC, mVar, aNil, aCons, mTup, mLst, mIf, mSl, mChain, mAnd2, mOr2, mNot, tBl, tVal, tAnd2, tOr2, tNot2, startE, Rs.bind, Rs.bindS, lift, mCall, mCallC, mCall0, Rs.cold, List.length_cons, List.length_nil, List.map_cons, List.map_nil, List.replicate, List.append_eq, List.cons_append, List.nil_append, List.getElem?_cons_zero, List.getElem?_cons_succ, List.getElem?_nil, List.set_cons_zero, List.set_cons_succ, Nat.sub_self, Nat.reduceSub, Nat.reduceAdd, if_true, if_false, decide_true, decide_false, Option.map_some, Option.map_none, ite_true, ite_false, reduceIte, beq_self_eq_true, Bool.false_eq_true, Nat.zero_add, int_i, add_ii, sub_ii, lt_ii, gt_ii, ge_ii, le_ii, f1, len_s h.sz, e1, h1, Bool.false_and]
  | true =>
    cases h2 : decide ((x.length : Int) ≤ most) with
    | false =>
      refine ⟨S, ?_, Gr.refl _⟩
      simp only [mDef, sRet, sSeq, sIf, sExpr, sAsg, sNx, sBk, sCt, sPut, tgN, mBin, mUn, mMeth, mL, mM, mC, mVar, aNil, aCons, mTup, mLst, mIf, mSl, mChain, mAnd2, mOr2, mNot, tBl, tVal, tAnd2, tOr2, tNot2, startE, Rs.bind, Rs.bindS, lift, mCall, mCallC, mCall0, Rs.cold, List.length_cons, List.length_nil, List.map_cons, List.map_nil, List.replicate, List.append_eq, List.cons_append, List.nil_append, List.getElem?_cons_zero, List.getElem?_cons_succ, List.getElem?_nil, List.set_cons_zero, List.set_cons_succ, Nat.sub_self, Nat.reduceSub, Nat.reduceAdd, if_true, if_false, decide_true, decide_false, Option.map_some, Option.map_none, ite_true, ite_false, reduceIte, beq_self_eq_true, Bool.false_eq_true, Nat.zero_add, int_i, add_ii, sub_ii, lt_ii, gt_ii, ge_ii, le_ii, f1, len_s h.sz, e1, h1, h2, Bool.false_and, Bool.true_and]
    | true =>
      refine ⟨S' ++ [.lst true []], ?_, c2.trans (Gr.one _ _)⟩
      simp only [mDef, sRet, sSeq, sIf, sExpr, sAsg, sNx, sBk, sCt, sPut, tgN, mBin, mUn, mMeth, mL, mM, mC, mVar, aNil, aCons, mTup, mLst, mIf, mSl, mChain, mAnd2, mOr2, mNot, tBl, tVal, tAnd2, tOr2, tNot2, startE, Rs.bind, Rs.bindS, lift, mCall, mCallC, mCall0, Rs.cold, List.length_cons, List.length_nil, List.map_cons, List.map_nil, List.replicate, List.append_eq, List.cons_append, List.nil_append, List.getElem?_cons_zero, List.getElem?_cons_succ, List.getElem?_nil, List.set_cons_zero, List.set_cons_succ, Nat.sub_self, Nat.reduceSub, Nat.reduceAdd, if_true, if_false, decide_true, decide_false, Option.map_some, Option.map_none, ite_true, ite_false, reduceIte, beq_self_eq_true, Bool.false_eq_true, Nat.zero_add, int_i, add_ii, sub_ii, lt_ii, gt_ii, ge_ii, le_ii, f1, len_s h.sz, e1, h1, h2, c1, f4, f5, Bool.true_and]
theorem kit_str {t : String} (h : t ≠ "str") (hk : ∃ S d, tyD S d = some t) : kitB t "str" = some false := by
  obtain ⟨S, d, hd⟩ := hk
  cases d with
  | non => cases hd; rfl
  | bl b => cases hd; rfl
  | int i => cases hd; rfl
  | str x => cases hd; exact absurd rfl h
  | tup ds => cases hd; rfl
  | loc n =>
    have hd : (match S[n]? with
      | some (.lst _ _) => some "list"
      | some (.dic _) => some "dict"
      | none => none) = some t := hd
    split at hd
    · cases hd; rfl
    · cases hd; rfl
    · cases hd
  | _ => cases hd
theorem lsmall_not {S : Sto} {d : D} {most : Int} (h : NotStr S d) : m__law_small [d, .int most] S = .ok (.bl false) S := by
  obtain ⟨t, h1, h2⟩ := h
  have f1 := isi_of h1 (kit_str h2 ⟨S, d, h1⟩)
  unfold m__law_small b__law_small
  generalize mLcC (iAny (mVar 0)) (tgN 2) (tBl (mBin oNotIn2 (mVar 2) (mC (.str "abcdefghijklmnopqrstuvwxyz")))) (mVar 2) [2] = mc
  simp only [mDef, sRet, sSeq, sIf, sExpr, sAsg, sNx, sBk, sCt, sPut, tgN, mBin, mUn, mMeth, mL, mM, mC, mVar, aNil, aCons, mTup, mLst, mIf, mSl, mChain, mAnd2, mOr2, mNot, tBl, tVal, tAnd2, tOr2, tNot2, startE, Rs.bind, Rs.bindS, lift, mCall, mCallC, mCall0, Rs.cold, List.length_cons, List.length_nil, List.map_cons, List.map_nil, List.replicate, List.append_eq, List.cons_append, List.nil_append, List.getElem?_cons_zero, List.getElem?_cons_succ, List.getElem?_nil, List.set_cons_zero, List.set_cons_succ, Nat.sub_self, Nat.reduceSub, Nat.reduceAdd, if_true, if_false, decide_true, decide_false, Option.map_some, Option.map_none, ite_true, ite_false, reduceIte, beq_self_eq_true, Bool.false_eq_true, Nat.zero_add, int_i, add_ii, sub_ii, lt_ii, gt_ii, ge_ii, le_ii, f1]

/-! ### names -/
def nameB (x : Str) : Bool := decide (1 ≤ (x.length : Int)) && (decide ((x.length : Int) ≤ 12) && (allIn x "abcdefghijklmnopqrstuvwxyz0123456789" && (match x.cps.toList with
  | c :: _ => decide (c ∈ (("abcdefghijklmnopqrstuvwxyz" : Str).cps.toList))
  | [] => false)))
theorem ix_s0 {S : Sto} {x : Str} {c : Nat} {r : List Nat} (h : x.length ≤ sizeLine) (e : x.cps.toList = c :: r) : oIx (.str x) (.int 0) S = some (.str ⟨#[c]⟩, S) := by
  show (if x.length ≤ sizeLine then (L2.atI x.cps.toList 0).map fun c => (D.str ⟨#[c]⟩, S) else none) = _
  rw [if_pos h, e]
  have : L2.atI (c :: r) (0 : Int) = some c := by
    unfold L2.atI
    have q : L2.ixN (c :: r).length (0 : Int) = some 0 := ixN_nat (n := (c :: r).length) (k := 0) (by simp)
    rw [q]; rfl
  rw [this]; rfl
theorem digit_or : ∀ c : Nat, c ∈ (("abcdefghijklmnopqrstuvwxyz0123456789" : Str).cps.toList) → (decide (c ∈ (("0123456789" : Str).cps.toList))) = !decide (c ∈ (("abcdefghijklmnopqrstuvwxyz" : Str).cps.toList)) := by
  intro c hc
  have key : (((("abcdefghijklmnopqrstuvwxyz0123456789" : Str).cps.toList)).all fun c => (decide (c ∈ (("0123456789" : Str).cps.toList))) == !decide (c ∈ (("abcdefghijklmnopqrstuvwxyz" : Str).cps.toList))) = true := by decide +kernel
  have := List.all_eq_true.mp key c hc
  simpa using this
theorem len_pos {x : Str} (h : decide (1 ≤ (x.length : Int)) = true) : ∃ c r, x.cps.toList = c :: r := by
  have h := of_decide_eq_true h
  cases e : x.cps.toList with
  | cons c r => exact ⟨c, r, rfl⟩
  | nil =>
    have : x.cps.size = 0 := by rw [← Array.length_toList, e]; rfl
    have h2 : x.length = x.cps.size := rfl
    omega
theorem add_sd {S : Sto} : oAdd (.str "abcdefghijklmnopqrstuvwxyz") (.str "0123456789") S = some (.str "abcdefghijklmnopqrstuvwxyz0123456789", S) := by
  show (if Str.length "abcdefghijklmnopqrstuvwxyz" + Str.length "0123456789" ≤ sizeLine then some (D.str (("abcdefghijklmnopqrstuvwxyz" : Str) ++ ("0123456789" : Str)), S) else none) = _
  rw [if_pos (by decide +kernel)]
  have : (("abcdefghijklmnopqrstuvwxyz" : Str) ++ ("0123456789" : Str)) = "abcdefghijklmnopqrstuvwxyz0123456789" := by decide +kernel
  rw [this]
theorem name_str {S : Sto} {x : Str} (h : TextOk x) : m_is_name [.str x] S = .ok (.bl (nameB x)) S := by
  have f1 : oType [.str x] S = some (.ty "str", S) := rfl
  have f2 : oIsNot (.ty "str") (.ty "str") S = some (.bl false, S) := rfl
  have f3 : m_consists_of [.str x, .str "abcdefghijklmnopqrstuvwxyz0123456789"] S = _ := consists_eq (S := S) (y := "abcdefghijklmnopqrstuvwxyz0123456789") h.sz
  unfold m_is_name b_is_name nameB
  generalize m_consists_of = mc at f3 ⊢
  cases h1 : decide (1 ≤ (x.length : Int)) with
  | false =>
    simp only [mDef, sRet, sSeq, sIf, sExpr, sAsg, sNx, sBk, sCt, sPut, tgN, mBin, mUn, mMeth, mL, mM, mC, mVar, aNil, aCons, mTup, mLst, mIf, mSl, mChain, mAnd2, mOr2, mNot, tBl, tVal, tAnd2, tOr2, tNot2, startE, Rs.bind, Rs.bindS, lift, mCall, mCallC, mCall0, Rs.cold, List.length_cons, List.length_nil, List.map_cons, List.map_nil, List.replicate, List.append_eq, List.cons_append, List.nil_append, List.getElem?_cons_zero, List.getElem?_cons_succ, List.getElem?_nil, List.set_cons_zero, List.set_cons_succ, Nat.sub_self, Nat.reduceSub, Nat.reduceAdd, if_true, if_false, decide_true, decide_false, Option.map_some, Option.map_none, ite_true, ite_false, reduceIte, beq_self_eq_true, Bool.false_eq_true, Nat.zero_add, int_i, add_ii, sub_ii, lt_ii, gt_ii, ge_ii, le_ii, f1, f2, len_s h.sz, h1, Bool.not_false, Bool.false_and]
  | true =>
    obtain ⟨c, r, hx⟩ := len_pos h1
    cases h2 : decide ((x.length : Int) ≤ 12) with
    | false =>
      simp only [mDef, sRet, sSeq, sIf, sExpr, sAsg, sNx, sBk, sCt, sPut, tgN, mBin, mUn, mMeth, mL, mM, mC, mVar, aNil, aCons, mTup, mLst, mIf, mSl, mChain, mAnd2, mOr2, mNot, tBl, tVal, tAnd2, tOr2, tNot2, startE, Rs.bind, Rs.bindS, lift, mCall, mCallC, mCall0, Rs.cold, List.length_cons, List.length_nil, List.map_cons, List.map_nil, List.replicate, List.append_eq, List.cons_append, List.nil_append, List.getElem?_cons_zero, List.getElem?_cons_succ, List.getElem?_nil, List.set_cons_zero, List.set_cons_succ, Nat.sub_self, Nat.reduceSub, Nat.reduceAdd, if_true, if_false, decide_true, decide_false, Option.map_some, Option.map_none, ite_true, ite_false, reduceIte, beq_self_eq_true, Bool.false_eq_true, Nat.zero_add, int_i, add_ii, sub_ii, lt_ii, gt_ii, ge_ii, le_ii, f1, f2, len_s h.sz, h1, h2, Bool.not_false, Bool.false_and, Bool.true_and]
    | true =>
      have f4 := ix_s0 (S := S) h.sz hx
      rw [hx]
      cases h3 : decide (c ∈ (("abcdefghijklmnopqrstuvwxyz" : Str).cps.toList)) with
      | false =>
        simp only [mDef, sRet, sSeq, sIf, sExpr, sAsg, sNx, sBk, sCt, sPut, tgN, mBin, mUn, mMeth, mL, mM, mC, mVar, aNil, aCons, mTup, mLst, mIf, mSl, mChain, mAnd2, mOr2, mNot, tBl, tVal, tAnd2, tOr2, tNot2, startE, Rs.bind, Rs.bindS, lift, mCall, mCallC, mCall0, Rs.cold, List.length_cons, List.length_nil, List.map_cons, List.map_nil, List.replicate, List.append_eq, List.cons_append, List.nil_append, List.getElem?_cons_zero, List.getElem?_cons_succ, List.getElem?_nil, List.set_cons_zero, List.set_cons_succ, Nat.sub_self, Nat.reduceSub, Nat.reduceAdd, if_true, if_false, decide_true, decide_false, Option.map_some, Option.map_none, ite_true, ite_false, reduceIte, beq_self_eq_true, Bool.false_eq_true, Nat.zero_add, int_i, add_ii, sub_ii, lt_ii, gt_ii, ge_ii, le_ii, f1, f2, len_s h.sz, h1, h2, Bool.not_true, f4, in_one, h3, Bool.and_false, Bool.true_and]
      | true =>
        simp only [mDef, sRet, sSeq, sIf, sExpr, sAsg, sNx, sBk, sCt, sPut, tgN, mBin, mUn, mMeth, mL, mM, mC, mVar, aNil, aCons, mTup, mLst, mIf, mSl, mChain, mAnd2, mOr2, mNot, tBl, tVal, tAnd2, tOr2, tNot2, startE, Rs.bind, Rs.bindS, lift, mCall, mCallC, mCall0, Rs.cold, List.length_cons, List.length_nil, List.map_cons, List.map_nil, List.replicate, List.append_eq, List.cons_append, List.nil_append, List.getElem?_cons_zero, List.getElem?_cons_succ, List.getElem?_nil, List.set_cons_zero, List.set_cons_succ, Nat.sub_self, Nat.reduceSub, Nat.reduceAdd, if_true, if_false, decide_true, decide_false, Option.map_some, Option.map_none, ite_true, ite_false, reduceIte, beq_self_eq_true, Bool.false_eq_true, Nat.zero_add, int_i, add_ii, sub_ii, lt_ii, gt_ii, ge_ii, le_ii, f1, f2, len_s h.sz, h1, h2, Bool.not_true, f4, in_one, h3, add_sd, f3, Bool.and_true, Bool.true_and]
theorem name_not {S : Sto} {d : D} (h : NotStr S d) : m_is_name [d] S = .ok (.bl false) S := by
  obtain ⟨t, h1, h2⟩ := h
  have f1 := type_of h1
  have f2 : oIsNot (.ty t) (.ty "str") S = some (.bl true, S) := by rw [isNot_ty, decide_eq_false h2]; rfl
  unfold m_is_name b_is_name
  simp only [mDef, sRet, sSeq, sIf, sExpr, sAsg, sNx, sBk, sCt, sPut, tgN, mBin, mUn, mMeth, mL, mM, mC, mVar, aNil, aCons, mTup, mLst, mIf, mSl, mChain, mAnd2, mOr2, mNot, tBl, tVal, tAnd2, tOr2, tNot2, startE, Rs.bind, Rs.bindS, lift, mCall, mCallC, mCall0, Rs.cold, List.length_cons, List.length_nil, List.map_cons, List.map_nil, List.replicate, List.append_eq, List.cons_append, List.nil_append, List.getElem?_cons_zero, List.getElem?_cons_succ, List.getElem?_nil, List.set_cons_zero, List.set_cons_succ, Nat.sub_self, Nat.reduceSub, Nat.reduceAdd, if_true, if_false, decide_true, decide_false, Option.map_some, Option.map_none, ite_true, ite_false, reduceIte, beq_self_eq_true, Bool.false_eq_true, Nat.zero_add, int_i, add_ii, sub_ii, lt_ii, gt_ii, ge_ii, le_ii, f1, f2]
theorem lname_str {S : Sto} {x : Str} (h : TextOk x) : ∃ S', m__law_name [.str x] S = .ok (.bl (nameB x)) S' ∧ Gr S S' := by
  have f1 : oIsi [.str x, .ty "str"] S = some (.bl true, S) := rfl
  have e1 : decide ((0 : Int) < (x.length : Int)) = decide (1 ≤ (x.length : Int)) := by
    rw [Bool.eq_iff_iff, decide_eq_true_eq, decide_eq_true_eq]; omega
  obtain ⟨S', c1, c2, c3, c4⟩ := comp_signs (e := [some (.str x), some (.str "abcdefghijklmnopqrstuvwxyz0123456789"), none]) (S := S) (x := x) (z := "abcdefghijklmnopqrstuvwxyz0123456789") (i := 0) (j := 2) (mz := mVar 1) rfl (by simp) (by decide) h.sz fun _ _ => rfl
  generalize hmc : mLcC (iAny (mVar 0)) (tgN 2) (tBl (mBin oNotIn2 (mVar 2) (mVar 1))) (mVar 2) [2] = mc at c1
  have f3 : eqD (S' ++ [.lst true []]) (.loc S.length) (.loc S'.length) = some (allIn x "abcdefghijklmnopqrstuvwxyz0123456789") := by
    rw [eq_nil (w := true) (w' := true) (by rw [List.getElem?_append_left c4]; exact c3) (by simp) fun d hd => ?_, filt_nil]
    obtain ⟨c, hc, rfl⟩ := List.mem_map.mp hd
    exact pd_str (strOk_one h.2 (List.mem_filter.mp hc).1)
  have f4 : oNe (.loc S.length) (.loc S'.length) (S' ++ [.lst true []]) = some (.bl (!allIn x "abcdefghijklmnopqrstuvwxyz0123456789"), S' ++ [.lst true []]) := by
    show (eqD _ _ _).map _ = _
    rw [f3]; rfl
  have f5 : (0 : Nat) ≤ sizeLine := Nat.zero_le _
  unfold m__law_name b__law_name
  rw [hmc]
  unfold nameB
  cases h1 : decide (1 ≤ (x.length : Int)) with
  | false =>
    refine ⟨S, ?_, Gr.refl _⟩
    simp only [mDef, sRet, sSeq, sIf, sExpr, sAsg, sNx, sBk, sCt, sPut, tgN, mBin, mUn, mMeth, mL, mM, mC, mVar, aNil, aCons, mTup, mLst, mIf, mSl, mChain, mAnd2, mOr2, mNot, tBl, tVal, tAnd2, tOr2, tNot2, startE, Rs.bind, Rs.bindS, lift, mCall, mCallC, mCall0, Rs.cold, List.length_cons, List.length_nil, List.map_cons, List.map_nil, List.replicate, List.append_eq, List.cons_append, List.nil_append, List.getElem?_cons_zero, List.getElem?_cons_succ, List.getElem?_nil, List.set_cons_zero, List.set_cons_succ, Nat.sub_self, Nat.reduceSub, Nat.reduceAdd, if_true, if_false, decide_true, decide_false, Option.map_some, Option.map_none, ite_true, ite_false, reduceIte, beq_self_eq_true, Bool.false_eq_true, Nat.zero_add, int_i, add_ii, sub_ii, lt_ii, gt_ii, ge_ii, le_ii, f1, truth, len_s h.sz, e1, h1, Bool.not_true, Bool.not_false, Bool.false_and]
  | true =>
    obtain ⟨c, r, hx⟩ := len_pos h1
    cases h2 : decide ((x.length : Int) ≤ 12) with
    | false =>
      refine ⟨S, ?_, Gr.refl _⟩
      simp only [mDef, sRet, sSeq, sIf, sExpr, sAsg, sNx, sBk, sCt, sPut, tgN, mBin, mUn, mMeth, mL, mM, mC, mVar, aNil, aCons, mTup, mLst, mIf, mSl, mChain, mAnd2, mOr2, mNot, tBl, tVal, tAnd2, tOr2, tNot2, startE, Rs.bind, Rs.bindS, lift, mCall, mCallC, mCall0, Rs.cold, List.length_cons, List.length_nil, List.map_cons, List.map_nil, List.replicate, List.append_eq, List.cons_append, List.nil_append, List.getElem?_cons_zero, List.getElem?_cons_succ, List.getElem?_nil, List.set_cons_zero, List.set_cons_succ, Nat.sub_self, Nat.reduceSub, Nat.reduceAdd, if_true, if_false, decide_true, decide_false, Option.map_some, Option.map_none, ite_true, ite_false, reduceIte, beq_self_eq_true, Bool.false_eq_true, Nat.zero_add, int_i, add_ii, sub_ii, lt_ii, gt_ii, ge_ii, le_ii, f1, truth, len_s h.sz, e1, h1, h2, Bool.not_true, Bool.not_false, Bool.false_and, Bool.true_and]
    | true =>
      refine ⟨S' ++ [.lst true []], ?_, c2.trans (Gr.one _ _)⟩
      have f6 := ix_s0 (S := S' ++ [.lst true []]) h.sz hx
      cases h3 : allIn x "abcdefghijklmnopqrstuvwxyz0123456789" with
      | false =>
        simp only [mDef, sRet, sSeq, sIf, sExpr, sAsg, sNx, sBk, sCt, sPut, tgN, mBin, mUn, mMeth, mL, mM, mC, mVar, aNil, aCons, mTup, mLst, mIf, mSl, mChain, mAnd2, mOr2, mNot, tBl, tVal, tAnd2, tOr2, tNot2, startE, Rs.bind, Rs.bindS, lift, mCall, mCallC, mCall0, Rs.cold, List.length_cons, List.length_nil, List.map_cons, List.map_nil, List.replicate, List.append_eq, List.cons_append, List.nil_append, List.getElem?_cons_zero, List.getElem?_cons_succ, List.getElem?_nil, List.set_cons_zero, List.set_cons_succ, Nat.sub_self, Nat.reduceSub, Nat.reduceAdd, if_true, if_false, decide_true, decide_false, Option.map_some, Option.map_none, ite_true, ite_false, reduceIte, beq_self_eq_true, Bool.false_eq_true, Nat.zero_add, int_i, add_ii, sub_ii, lt_ii, gt_ii, ge_ii, le_ii, f1, truth, len_s h.sz, e1, h1, h2, c1, f4, f5, h3, Bool.not_true, Bool.not_false, Bool.false_and, Bool.true_and]
      | true =>
        have hc : c ∈ (("abcdefghijklmnopqrstuvwxyz0123456789" : Str).cps.toList) := by
          have := List.all_eq_true.mp h3 c (by rw [hx]; exact List.mem_cons_self)
          simpa using this
        simp only [mDef, sRet, sSeq, sIf, sExpr, sAsg, sNx, sBk, sCt, sPut, tgN, mBin, mUn, mMeth, mL, mM, mC, mVar, aNil, aCons, mTup, mLst, mIf, mSl, mChain, mAnd2, mOr2, mNot, tBl, tVal, tAnd2, tOr2, tNot2, startE, Rs.bind, Rs.bindS, lift, mCall, mCallC, mCall0, Rs.cold, List.length_cons, List.length_nil, List.map_cons, List.map_nil, List.replicate, List.append_eq, List.cons_append, List.nil_append, List.getElem?_cons_zero, List.getElem?_cons_succ, List.getElem?_nil, List.set_cons_zero, List.set_cons_succ, Nat.sub_self, Nat.reduceSub, Nat.reduceAdd, if_true, if_false, decide_true, decide_false, Option.map_some, Option.map_none, ite_true, ite_false, reduceIte, beq_self_eq_true, Bool.false_eq_true, Nat.zero_add, int_i, add_ii, sub_ii, lt_ii, gt_ii, ge_ii, le_ii, f1, truth, len_s h.sz, e1, h1, h2, c1, f4, f5, h3, Bool.not_true, Bool.not_false, Bool.true_and, f6, P0.notIn_one, digit_or c hc, Bool.not_not, hx]
theorem lname_not {S : Sto} {d : D} (h : NotStr S d) : m__law_name [d] S = .ok (.bl false) S := by
  obtain ⟨t, h1, h2⟩ := h
  have f1 := isi_of h1 (kit_str h2 ⟨S, d, h1⟩)
  unfold m__law_name b__law_name
  generalize mLcC (iAny (mVar 0)) (tgN 2) (tBl (mBin oNotIn2 (mVar 2) (mVar 1))) (mVar 2) [2] = mc
  simp only [mDef, sRet, sSeq, sIf, sExpr, sAsg, sNx, sBk, sCt, sPut, tgN, mBin, mUn, mMeth, mL, mM, mC, mVar, aNil, aCons, mTup, mLst, mIf, mSl, mChain, mAnd2, mOr2, mNot, tBl, tVal, tAnd2, tOr2, tNot2, startE, Rs.bind, Rs.bindS, lift, mCall, mCallC, mCall0, Rs.cold, List.length_cons, List.length_nil, List.map_cons, List.map_nil, List.replicate, List.append_eq, List.cons_append, List.nil_append, List.getElem?_cons_zero, List.getElem?_cons_succ, List.getElem?_nil, List.set_cons_zero, List.set_cons_succ, Nat.sub_self, Nat.reduceSub, Nat.reduceAdd, if_true, if_false, decide_true, decide_false, Option.map_some, Option.map_none, ite_true, ite_false, reduceIte, beq_self_eq_true, Bool.false_eq_true, Nat.zero_add, int_i, add_ii, sub_ii, lt_ii, gt_ii, ge_ii, le_ii, f1, truth, Bool.not_false]
end K29
end

section
set_option Elab.async false
set_option linter.all false
set_option maxRecDepth 100000
/-! P4: law k29, plainly: flags, uids. -/
namespace K29
open PySem PySem.Spec M2 P0
set_option autoImplicit false
/-- a part of a thing -/
def WF (S : Sto) (d : D) : Prop := (∃ x, d = .str x ∧ TextOk x) ∨ (NotStr S d ∧ PD S d)
theorem tyD_gr {S S' : Sto} {d : D} {t : String} (h : tyD S d = some t) (g : Gr S S') : tyD S' d = some t := by
  cases d with
  | loc n =>
    have h : (match S[n]? with
      | some (.lst _ _) => some "list"
      | some (.dic _) => some "dict"
      | none => none) = some t := h
    show (match S'[n]? with
      | some (.lst _ _) => some "list"
      | some (.dic _) => some "dict"
      | none => none) = some t
    cases e : S[n]? with
    | none => rw [e] at h; cases h
    | some o => rw [g.get e]; rw [e] at h; exact h
  | _ => exact h
theorem notStr_gr {S S' : Sto} {d : D} (h : NotStr S d) (g : Gr S S') : NotStr S' d := by
  obtain ⟨t, h1, h2⟩ := h
  exact ⟨t, tyD_gr h1 g, h2⟩
theorem WF.gr {S S' : Sto} {d : D} (h : WF S d) (g : Gr S S') : WF S' d := h.imp id fun h => ⟨notStr_gr h.1 g, h.2.gr g⟩
theorem WF.pd {S : Sto} {d : D} (h : WF S d) : PD S d := by
  rcases h with ⟨x, rfl, h⟩ | h
  · exact pd_str h.2
  · exact h.2
def wordB (most : Int) : D → Bool
  | .str x => smallB x most
  | _ => false
theorem wordB_not {S : Sto} {d : D} {most : Int} (h : NotStr S d) : wordB most d = false := by
  cases d with
  | str x =>
    obtain ⟨t, h1, h2⟩ := h
    cases h1
    exact absurd rfl h2
  | _ => rfl
theorem small_wf {S : Sto} {d : D} {most : Int} (h : WF S d) : m_is_small_word [d, .int most] S = .ok (.bl (wordB most d)) S := by
  rcases h with ⟨x, rfl, h⟩ | ⟨h, _⟩
  · exact small_str h.sz
  · rw [wordB_not h]; exact small_not h
theorem lsmall_wf {S : Sto} {d : D} {most : Int} (h : WF S d) : ∃ S', m__law_small [d, .int most] S = .ok (.bl (wordB most d)) S' ∧ Gr S S' := by
  rcases h with ⟨x, rfl, h⟩ | ⟨h, _⟩
  · exact lsmall_str h
  · rw [wordB_not h]; exact ⟨S, lsmall_not h, Gr.refl _⟩
theorem word_call {S : Sto} {d : D} {most : Int} (f : MF) (hf : f = mDef 1 1 (sRet (mCall m_is_small_word (aCons (mVar 0) (aCons (mC (.int most)) aNil))))) (h : WF S d) : f [d] S = .ok (.bl (wordB most d)) S := by
  subst hf
  have f1 := small_wf (most := most) h
  generalize m_is_small_word = ms at f1 ⊢
  simp only [mDef, sRet, sSeq, sIf, sExpr, sAsg, sNx, sBk, sCt, sPut, tgN, mBin, mUn, mMeth, mL, mM, mC, mVar, aNil, aCons, mTup, mLst, mIf, mSl, mChain, mAnd2, mOr2, mNot, tBl, tVal, tAnd2, tOr2, tNot2, startE, Rs.bind, Rs.bindS, lift, mCall, mCallC, mCall0, Rs.cold, List.length_cons, List.length_nil, List.map_cons, List.map_nil, List.replicate, List.append_eq, List.cons_append, List.nil_append, List.getElem?_cons_zero, List.getElem?_cons_succ, List.getElem?_nil, List.set_cons_zero, List.set_cons_succ, Nat.sub_self, Nat.reduceSub, Nat.reduceAdd, if_true, if_false, decide_true, decide_false, Option.map_some, Option.map_none, ite_true, ite_false, reduceIte, beq_self_eq_true, Bool.false_eq_true, Nat.zero_add, int_i, add_ii, sub_ii, lt_ii, gt_ii, ge_ii, le_ii, f1]
theorem house_wf {S : Sto} {d : D} (h : WF S d) : m_is_house [d] S = .ok (.bl (wordB 12 d)) S := word_call _ rfl h
theorem device_wf {S : Sto} {d : D} (h : WF S d) : m_is_device [d] S = .ok (.bl (wordB 8 d)) S := word_call _ rfl h
theorem flag_wf {S : Sto} {d : D} (h : WF S d) : m_is_flag [d] S = .ok (.bl (wordB 12 d)) S := word_call _ rfl h
/-- the texts of a row of texts -/
def strsL : List D → List Str
  | [] => []
  | .str x :: r => x :: strsL r
  | _ :: r => strsL r
theorem strsL_map {ds : List D} (h : ds.all (wordB 12) = true) : ds = (strsL ds).map .str := by
  induction ds with
  | nil => rfl
  | cons d ds ih =>
    rw [List.all_cons, Bool.and_eq_true] at h
    cases d with
    | str x =>
      show D.str x :: ds = D.str x :: (strsL ds).map .str
      rw [← ih h.2]
    | _ => cases h.1
def flagsB (ds : List D) : Bool := ds.all (wordB 12) && ascB ltS (strsL ds)
theorem iAny_tup {e : Nv} {S : Sto} {i : Nat} {ds : List D} (h : e[i]? = some (some (.tup ds))) : iAny (mVar i) e S = .ok (itD ds) S := by
  simp only [iAny, mVar, h, Rs.bind]
theorem itD_at {ds : List D} {i : Nat} {S : Sto} : (itD ds).at_ i S = some ds[i]? := rfl
/-- [f(x) for x in tuple], f a test that lays nothing -/
theorem comp_all {S : Sto} {ds : List D} {f : MF} (p : D → Bool) (hz : ds.length ≤ sizeLine) (hf : ∀ d ∈ ds, ∀ S1, Gr S S1 → f [d] S1 = .ok (.bl (p d)) S1) :
    ∃ S', mLcC (iAny (mVar 0)) (tgN 1) tOk (mCallC f (aCons (mVar 1) aNil)) [1] [some (.tup ds), none] S = .ok (.loc S.length) S' ∧ Gr S S' ∧ oAll [.loc S.length] S' = some (.bl (ds.all p), S') := by
  obtain ⟨S', c1, c2, c3, c4⟩ := lc_gr (it := itD ds) (cnt := (itD ds).cnt) (n := S.length) (tg := tgN 1) (tt := tOk) (me := mCallC f (aCons (mVar 1) aNil)) (e := wipeE [some (.tup ds), none] [1]) (xs := ds) (fun _ => true) (fun d => .bl (p d)) S (fun i S1 _ => itD_at) rfl hz
    (fun x hx S1 hg => ⟨_, S1, rfl, rfl, Gr.refl _, fun _ => by
      simp only [wipeE, List.set_cons_succ, List.set_cons_zero, mCallC, aCons, aNil, mVar, Rs.bind, List.getElem?_cons_succ, List.getElem?_cons_zero, hf x hx S1 hg, Rs.cold]⟩) rfl
  refine ⟨S', ?_, c2, ?_⟩
  · unfold mLcC
    rw [iAny_tup rfl]
    simp only [Rs.bind]
    rw [c1]
    rfl
  · show (match S'[S.length]? with
      | some (.lst _ xs) => (M2.bolsOf xs).map fun (ns : List Bool) => (D.bl (ns.all id), S')
      | _ => none) = _
    rw [c3, filter_true]
    have e : ds.map (fun d => D.bl (p d)) = (ds.map p).map D.bl := by rw [List.map_map]; rfl
    rw [e]
    show (M2.bolsOf ((ds.map p).map D.bl)).map (fun (ns : List Bool) => (D.bl (ns.all id), S')) = _
    rw [bols_map]
    show some (D.bl ((ds.map p).all id), S') = _
    rw [List.all_map]
    rfl
theorem tup_isNot {S : Sto} {ds : List D} : oIsNot (.ty "tuple") (.ty "tuple") S = some (.bl false, S) := rfl
theorem flags_tup {S : Sto} {ds : List D} (hz : ds.length ≤ 900) (h : ∀ d ∈ ds, WF S d) : ∃ S', m_are_flags [.tup ds] S = .ok (.bl (flagsB ds)) S' ∧ Gr S S' := by
  have hz2 : ds.length ≤ sizeLine := by rw [sizeLine_eq]; omega
  obtain ⟨S', c1, c2, c3⟩ := comp_all (S := S) (ds := ds) (f := m_is_flag) (wordB 12) hz2 fun d hd S1 hg => flag_wf ((h d hd).gr hg)
  have f1 : oType [.tup ds] S = some (.ty "tuple", S) := rfl
  have f2 : oIsNot (.ty "tuple") (.ty "tuple") S = some (.bl false, S) := rfl
  unfold m_are_flags b_are_flags flagsB
  generalize hm : mLcC (iAny (mVar 0)) (tgN 1) tOk (mCallC m_is_flag (aCons (mVar 1) aNil)) [1] = mm at c1
  cases ha : ds.all (wordB 12) with
  | false =>
    rw [ha] at c3
    refine ⟨S', ?_, c2⟩
    simp only [mDef, sRet, sSeq, sIf, sExpr, sAsg, sNx, sBk, sCt, sPut, tgN, mBin, mUn, mMeth, mL, mM, mC, mVar, aNil, aCons, mTup, mLst, mIf, mSl, mChain, mAnd2, mOr2, mNot, tBl, tVal, tAnd2, tOr2, tNot2, startE, Rs.bind, Rs.bindS, lift, mCall, mCallC, mCall0, Rs.cold, List.length_cons, List.length_nil, List.map_cons, List.map_nil, List.replicate, List.append_eq, List.cons_append, List.nil_append, List.getElem?_cons_zero, List.getElem?_cons_succ, List.getElem?_nil, List.set_cons_zero, List.set_cons_succ, Nat.sub_self, Nat.reduceSub, Nat.reduceAdd, if_true, if_false, decide_true, decide_false, Option.map_some, Option.map_none, ite_true, ite_false, reduceIte, beq_self_eq_true, Bool.false_eq_true, Nat.zero_add, int_i, add_ii, sub_ii, lt_ii, gt_ii, ge_ii, le_ii, hm, f1, f2, c1, c3, truth, Bool.not_false, Bool.false_and]
  | true =>
    rw [ha] at c3
    have hl : (strsL ds).length ≤ sizeLine := by
      have := congrArg List.length (strsL_map ha)
      rw [List.length_map] at this
      omega
    obtain ⟨S2, k1, k2⟩ := asc_eq (S := S') D.str ltS (fun a b S => rfl) (strsL ds) hl
    rw [← strsL_map ha] at k1
    have k1 : m_are_ascending [.tup ds] S' = .ok (.bl (ascB ltS (strsL ds))) S2 := k1
    refine ⟨S2, ?_, c2.trans k2⟩
    generalize m_are_ascending = ma at k1 ⊢
    simp only [mDef, sRet, sSeq, sIf, sExpr, sAsg, sNx, sBk, sCt, sPut, tgN, mBin, mUn, mMeth, mL, mM, mC, mVar, aNil, aCons, mTup, mLst, mIf, mSl, mChain, mAnd2, mOr2, mNot, tBl, tVal, tAnd2, tOr2, tNot2, startE, Rs.bind, Rs.bindS, lift, mCall, mCallC, mCall0, Rs.cold, List.length_cons, List.length_nil, List.map_cons, List.map_nil, List.replicate, List.append_eq, List.cons_append, List.nil_append, List.getElem?_cons_zero, List.getElem?_cons_succ, List.getElem?_nil, List.set_cons_zero, List.set_cons_succ, Nat.sub_self, Nat.reduceSub, Nat.reduceAdd, if_true, if_false, decide_true, decide_false, Option.map_some, Option.map_none, ite_true, ite_false, reduceIte, beq_self_eq_true, Bool.false_eq_true, Nat.zero_add, int_i, add_ii, sub_ii, lt_ii, gt_ii, ge_ii, le_ii, hm, f1, f2, c1, c3, truth, Bool.not_true, k1, Bool.true_and]

/-- [x for x in tuple if t] == [], t a test that may lay lists -/
theorem comp_none {S : Sto} {ds : List D} {tt : MT} (p : D → Bool) (hz : ds.length ≤ sizeLine) (hpd : ∀ d ∈ ds, PD S d) (ht : ∀ d ∈ ds, ∀ S1, Gr S S1 → ∃ S2, tt [some (.tup ds), some d] S1 = .ok (p d) S2 ∧ Gr S1 S2) :
    ∃ S', mLcC (iAny (mVar 0)) (tgN 1) tt (mVar 1) [1] [some (.tup ds), none] S = .ok (.loc S.length) S' ∧ Gr S S' ∧ eqD (S' ++ [.lst true []]) (.loc S.length) (.loc S'.length) = some (!ds.any p) := by
  obtain ⟨S', c1, c2, c3, c4⟩ := lc_gr (it := itD ds) (cnt := (itD ds).cnt) (n := S.length) (tg := tgN 1) (tt := tt) (me := mVar 1) (e := wipeE [some (.tup ds), none] [1]) (xs := ds) p id S (fun i S1 _ => itD_at) rfl hz
    (fun x hx S1 hg => by
      obtain ⟨S2, h1, h2⟩ := ht x hx S1 hg
      exact ⟨_, S2, rfl, h1, h2, fun _ => rfl⟩) rfl
  refine ⟨S', ?_, c2, ?_⟩
  · unfold mLcC
    rw [iAny_tup rfl]
    simp only [Rs.bind]
    rw [c1]
    rfl
  · rw [eq_nil (w := true) (w' := true) (by rw [List.getElem?_append_left c4]; exact c3) (by simp) fun d hd => ?_]
    · congr 1
      rw [List.map_id, Bool.eq_iff_iff, List.isEmpty_iff, List.filter_eq_nil_iff, Bool.not_eq_true', List.any_eq_false]
    · rw [List.map_id] at hd
      exact (hpd d (List.mem_filter.mp hd).1).gr (c2.trans (Gr.one _ _))
theorem ints_none {ds : List D} {xs : List Str} (h : ds = xs.map .str) : intsOf ds = match xs with
    | [] => some []
    | _ => none := by
  subst h
  cases xs with
  | nil => rfl
  | cons x r => rfl
theorem strs_some : ∀ xs : List Str, strsOf (xs.map D.str) = some xs
  | [] => rfl
  | x :: xs => by
    show (strsOf (xs.map D.str)).map (x :: ·) = _
    rw [strs_some xs]; rfl
theorem ints_some : ∀ xs : List Int, intsOf (xs.map D.int) = some xs
  | [] => rfl
  | x :: xs => by
    show (intsOf (xs.map D.int)).map (x :: ·) = _
    rw [ints_some xs]; rfl
theorem sset_strs {S : Sto} {xs : List Str} (h : xs.length < 1000) : sortedSet (.tup (xs.map .str)) S = some (((uniq xs).mergeSort leS).map .str) := by
  show (match intsOf (xs.map D.str) with
    | some is => if is.length < 1000 then some (((uniq is).mergeSort leI).map D.int) else none
    | none => match strsOf (xs.map D.str) with
      | some ys => if ys.length < 1000 then some (((uniq ys).mergeSort leS).map D.str) else none
      | none => none) = _
  rw [ints_none rfl, strs_some]
  cases xs with
  | nil => simp [uniq]
  | cons x r => show (if (x :: r).length < 1000 then _ else _) = _; rw [if_pos h]
theorem sset_ints {S : Sto} {xs : List Int} (h : xs.length < 1000) : sortedSet (.tup (xs.map .int)) S = some (((uniq xs).mergeSort leI).map .int) := by
  show (match intsOf (xs.map D.int) with
    | some is => if is.length < 1000 then some (((uniq is).mergeSort leI).map D.int) else none
    | none => match strsOf (xs.map D.int) with
      | some ys => if ys.length < 1000 then some (((uniq ys).mergeSort leS).map D.str) else none
      | none => none) = _
  rw [ints_some]
  show (if xs.length < 1000 then _ else _) = _
  rw [if_pos h]
theorem mem_uniq {α : Type} [DecidableEq α] {xs : List α} {x : α} (h : x ∈ uniq xs) : x ∈ xs := by
  have key : ∀ (xs L : List α), x ∈ xs.foldl addU L → x ∈ L ∨ x ∈ xs := by
    intro xs
    induction xs with
    | nil => intro L h; exact .inl h
    | cons y ys ih =>
      intro L h
      rcases ih _ h with q | q
      · rcases addU_mem.mp q with r | r
        · exact .inl r
        · exact .inr (by rw [r]; exact List.mem_cons_self)
      · exact .inr (List.mem_cons_of_mem _ q)
  exact (key xs [] h).elim (fun q => by cases q) id
theorem lflags_tup {S : Sto} {ds : List D} (hz : ds.length ≤ 900) (h : ∀ d ∈ ds, WF S d) : ∃ S', m__law_flags [.tup ds] S = .ok (.bl (flagsB ds)) S' ∧ Gr S S' := by
  have hz2 : ds.length ≤ sizeLine := by rw [sizeLine_eq]; omega
  obtain ⟨S', c1, c2, c3⟩ := comp_none (S := S) (ds := ds) (tt := tNot2 (tVal (mCallC m__law_small (aCons (mVar 1) (aCons (mC (.int 12)) aNil))))) (fun d => !wordB 12 d) hz2 (fun d hd => (h d hd).pd) fun d hd S1 hg => by
    obtain ⟨S2, k1, k2⟩ := lsmall_wf (most := 12) ((h d hd).gr hg)
    refine ⟨S2, ?_, k2⟩
    simp only [tNot2, tVal, mCallC, aCons, aNil, mVar, mC, Rs.bind, List.getElem?_cons_succ, List.getElem?_cons_zero, k1, Rs.cold, truth]
  have f1 : oIsi [.tup ds, .ty "tuple"] S = some (.bl true, S) := rfl
  have f5 : (0 : Nat) ≤ sizeLine := Nat.zero_le _
  have e1 : (!ds.any fun d => !wordB 12 d) = ds.all (wordB 12) := by rw [List.not_any_eq_all_not]; simp
  rw [e1] at c3
  have f2 : oEq (.loc S.length) (.loc S'.length) (S' ++ [.lst true []]) = some (.bl (ds.all (wordB 12)), S' ++ [.lst true []]) := by
    show (eqD _ _ _).map _ = _
    rw [c3]; rfl
  unfold m__law_flags b__law_flags flagsB
  generalize hm : mLcC (iAny (mVar 0)) (tgN 1) (tNot2 (tVal (mCallC m__law_small (aCons (mVar 1) (aCons (mC (.int 12)) aNil))))) (mVar 1) [1] = mm at c1
  cases ha : ds.all (wordB 12) with
  | false =>
    rw [ha] at f2
    refine ⟨S' ++ [.lst true []], ?_, c2.trans (Gr.one _ _)⟩
    simp only [mDef, sRet, sSeq, sIf, sExpr, sAsg, sNx, sBk, sCt, sPut, tgN, mBin, mUn, mMeth, mL, mM, mC, mVar, aNil, aCons, mTup, mLst, mIf, mSl, mChain, mAnd2, mOr2, mNot, tBl, tVal, tAnd2, tOr2, tNot2, startE, Rs.bind, Rs.bindS, lift, mCall, mCallC, mCall0, Rs.cold, List.length_cons, List.length_nil, List.map_cons, List.map_nil, List.replicate, List.append_eq, List.cons_append, List.nil_append, List.getElem?_cons_zero, List.getElem?_cons_succ, List.getElem?_nil, List.set_cons_zero, List.set_cons_succ, Nat.sub_self, Nat.reduceSub, Nat.reduceAdd, if_true, if_false, decide_true, decide_false, Option.map_some, Option.map_none, ite_true, ite_false, reduceIte, beq_self_eq_true, Bool.false_eq_true, Nat.zero_add, int_i, add_ii, sub_ii, lt_ii, gt_ii, ge_ii, le_ii, hm, f1, c1, f5, f2, Bool.false_and]
  | true =>
    rw [ha] at f2
    generalize hxs : strsL ds = xs
    have e2 := strsL_map ha
    rw [hxs] at e2
    have hx : xs.length < 1000 := by
      have := congrArg List.length e2
      rw [List.length_map] at this
      omega
    generalize hS3 : S' ++ [SO.lst true []] = S3 at f2
    have f3 : oList [.tup ds] S3 = some (.loc S3.length, S3 ++ [.lst true ds]) := rfl
    have f4 : mSortedSet (mVar 0) [some (.tup ds), none] (S3 ++ [.lst true ds]) = .ok (.loc (S3 ++ [SO.lst true ds]).length) ((S3 ++ [SO.lst true ds]) ++ [SO.lst true (((uniq xs).mergeSort leS).map .str)]) := by
      simp only [mSortedSet, mVar, List.getElem?_cons_zero, Rs.bind, e2, sset_strs hx]
    generalize hS4 : (S3 ++ [SO.lst true ds]) ++ [SO.lst true (((uniq xs).mergeSort leS).map D.str)] = S4 at f4
    have ok : ∀ x ∈ xs, PyData.strOk x = true := fun x hx => by
      have : D.str x ∈ ds := by rw [e2]; exact List.mem_map.mpr ⟨x, hx, rfl⟩
      rcases h _ this with ⟨y, e, hy⟩ | ⟨hn, _⟩
      · cases e; exact hy.2
      · obtain ⟨t, h1, h2⟩ := hn; cases h1; exact absurd rfl h2
    have f6 : eqD S4 (.loc S3.length) (.loc (S3 ++ [SO.lst true ds]).length) = some (ascB ltS xs) := by
      rw [eq_strs (w := true) (w' := true) (xs := xs) (ys := (uniq xs).mergeSort leS) (by rw [← hS4, e2]; simp) (by rw [← hS4]; simp) ok fun x hx => ok x (mem_uniq ((List.mergeSort_perm _ _).mem_iff.mp hx))]
      congr 1
      rw [Bool.eq_iff_iff, decide_eq_true_eq]
      exact ascS_iff xs
    have f7 : oEq (.loc S3.length) (.loc (S3 ++ [SO.lst true ds]).length) S4 = some (.bl (ascB ltS xs), S4) := by
      show (eqD _ _ _).map _ = _
      rw [f6]; rfl
    refine ⟨S4, ?_, ?_⟩
    · simp only [mDef, sRet, sSeq, sIf, sExpr, sAsg, sNx, sBk, sCt, sPut, tgN, mBin, mUn, mMeth, mL, mM, mC, mVar, aNil, aCons, mTup, mLst, mIf, mSl, mChain, mAnd2, mOr2, mNot, tBl, tVal, tAnd2, tOr2, tNot2, startE, Rs.bind, Rs.bindS, lift, mCall, mCallC, mCall0, Rs.cold, List.length_cons, List.length_nil, List.map_cons, List.map_nil, List.replicate, List.append_eq, List.cons_append, List.nil_append, List.getElem?_cons_zero, List.getElem?_cons_succ, List.getElem?_nil, List.set_cons_zero, List.set_cons_succ, Nat.sub_self, Nat.reduceSub, Nat.reduceAdd, if_true, if_false, decide_true, decide_false, Option.map_some, Option.map_none, ite_true, ite_false, reduceIte, beq_self_eq_true, Bool.false_eq_true, Nat.zero_add, int_i, add_ii, sub_ii, lt_ii, gt_ii, ge_ii, le_ii, hm, f1, c1, f5, hS3, f2, f3, f4, f7, Bool.true_and]
    · rw [← hS4, ← hS3]
      exact ((c2.trans (Gr.one _ _)).trans (Gr.one _ _)).trans (Gr.one _ _)
end K29
end

section
set_option Elab.async false
set_option linter.all false
set_option maxRecDepth 100000
/-! P5: law k29, plainly: uids, numbers. -/
namespace K29
open PySem PySem.Spec M2 P0
set_option autoImplicit false
def intB : D → Bool
  | .int _ => true
  | _ => false
def numB (least : Int) : D → Bool
  | .int i => decide (least ≤ i)
  | _ => false
theorem ty_int {S : Sto} {d : D} {t : String} (h : tyD S d = some t) : decide (t = "int") = intB d := by
  cases d with
  | loc n =>
    have h : (match S[n]? with
      | some (.lst _ _) => some "list"
      | some (.dic _) => some "dict"
      | none => none) = some t := h
    split at h
    · cases h; rfl
    · cases h; rfl
    · cases h
  | fn x => cases h
  | ty x => cases h
  | _ => cases h; rfl
theorem integer_ty {S : Sto} {d : D} {t : String} (h : tyD S d = some t) : m_is_integer [d] S = .ok (.bl (intB d)) S := by
  have f1 := type_of h
  have f2 : oIs (.ty t) (.ty "int") S = some (.bl (intB d), S) := by rw [is_ty, ty_int h]
  unfold m_is_integer b_is_integer
  simp only [mDef, sRet, sSeq, sIf, sExpr, sAsg, sNx, sBk, sCt, sPut, tgN, mBin, mUn, mMeth, mL, mM, mC, mVar, aNil, aCons, mTup, mLst, mIf, mSl, mChain, mAnd2, mOr2, mNot, tBl, tVal, tAnd2, tOr2, tNot2, startE, Rs.bind, Rs.bindS, lift, mCall, mCallC, mCall0, Rs.cold, List.length_cons, List.length_nil, List.map_cons, List.map_nil, List.replicate, List.append_eq, List.cons_append, List.nil_append, List.getElem?_cons_zero, List.getElem?_cons_succ, List.getElem?_nil, List.set_cons_zero, List.set_cons_succ, Nat.sub_self, Nat.reduceSub, Nat.reduceAdd, if_true, if_false, decide_true, decide_false, Option.map_some, Option.map_none, ite_true, ite_false, reduceIte, beq_self_eq_true, Bool.false_eq_true, Nat.zero_add, int_i, add_ii, sub_ii, lt_ii, gt_ii, ge_ii, le_ii, f1, f2]
theorem kit_int {S : Sto} {d : D} {t : String} (h : tyD S d = some t) : (L2.kitB t "int" = some (intB d)) ∨ (t = "bool" ∧ intB d = false) := by
  cases d with
  | loc n =>
    have h : (match S[n]? with
      | some (.lst _ _) => some "list"
      | some (.dic _) => some "dict"
      | none => none) = some t := h
    split at h
    · cases h; exact .inl rfl
    · cases h; exact .inl rfl
    · cases h
  | fn x => cases h
  | ty x => cases h
  | bl b => cases h; exact .inr ⟨rfl, rfl⟩
  | _ => cases h; exact .inl rfl
theorem number_ty {S : Sto} {d : D} {t : String} {least : Int} (h : tyD S d = some t) : m__law_number [d, .int least] S = .ok (.bl (numB least d)) S := by
  unfold m__law_number b__law_number
  rcases kit_int h with q | ⟨q, hb⟩
  · have f1 := isi_of h q
    cases d with
    | int i =>
      have f1 : oIsi [.int i, .ty "int"] S = some (.bl true, S) := f1
      have f2 : oIsi [.int i, .ty "bool"] S = some (.bl false, S) := rfl
      simp only [mDef, sRet, sSeq, sIf, sExpr, sAsg, sNx, sBk, sCt, sPut, tgN, mBin, mUn, mMeth, mL, mM, mC, mVar, aNil, aCons, mTup, mLst, mIf, mSl, mChain, mAnd2, mOr2, mNot, tBl, tVal, tAnd2, tOr2, tNot2, startE, Rs.bind, Rs.bindS, lift, mCall, mCallC, mCall0, Rs.cold, List.length_cons, List.length_nil, List.map_cons, List.map_nil, List.replicate, List.append_eq, List.cons_append, List.nil_append, List.getElem?_cons_zero, List.getElem?_cons_succ, List.getElem?_nil, List.set_cons_zero, List.set_cons_succ, Nat.sub_self, Nat.reduceSub, Nat.reduceAdd, if_true, if_false, decide_true, decide_false, Option.map_some, Option.map_none, ite_true, ite_false, reduceIte, beq_self_eq_true, Bool.false_eq_true, Nat.zero_add, int_i, add_ii, sub_ii, lt_ii, gt_ii, ge_ii, le_ii, f1, f2, Bool.not_false]
      rfl
    | _ =>
      simp only [intB] at f1
      simp only [mDef, sRet, sSeq, sIf, sExpr, sAsg, sNx, sBk, sCt, sPut, tgN, mBin, mUn, mMeth, mL, mM, mC, mVar, aNil, aCons, mTup, mLst, mIf, mSl, mChain, mAnd2, mOr2, mNot, tBl, tVal, tAnd2, tOr2, tNot2, startE, Rs.bind, Rs.bindS, lift, mCall, mCallC, mCall0, Rs.cold, List.length_cons, List.length_nil, List.map_cons, List.map_nil, List.replicate, List.append_eq, List.cons_append, List.nil_append, List.getElem?_cons_zero, List.getElem?_cons_succ, List.getElem?_nil, List.set_cons_zero, List.set_cons_succ, Nat.sub_self, Nat.reduceSub, Nat.reduceAdd, if_true, if_false, decide_true, decide_false, Option.map_some, Option.map_none, ite_true, ite_false, reduceIte, beq_self_eq_true, Bool.false_eq_true, Nat.zero_add, int_i, add_ii, sub_ii, lt_ii, gt_ii, ge_ii, le_ii, f1]
      rfl
  · subst q
    have f1 : oIsi [d, .ty "int"] S = some (.bl true, S) := isi_of h rfl
    have f2 : oIsi [d, .ty "bool"] S = some (.bl true, S) := isi_of h rfl
    have f3 : numB least d = false := by
      cases d with
      | int i => cases hb
      | _ => rfl
    simp only [mDef, sRet, sSeq, sIf, sExpr, sAsg, sNx, sBk, sCt, sPut, tgN, mBin, mUn, mMeth, mL, mM, mC, mVar, aNil, aCons, mTup, mLst, mIf, mSl, mChain, mAnd2, mOr2, mNot, tBl, tVal, tAnd2, tOr2, tNot2, startE, Rs.bind, Rs.bindS, lift, mCall, mCallC, mCall0, Rs.cold, List.length_cons, List.length_nil, List.map_cons, List.map_nil, List.replicate, List.append_eq, List.cons_append, List.nil_append, List.getElem?_cons_zero, List.getElem?_cons_succ, List.getElem?_nil, List.set_cons_zero, List.set_cons_succ, Nat.sub_self, Nat.reduceSub, Nat.reduceAdd, if_true, if_false, decide_true, decide_false, Option.map_some, Option.map_none, ite_true, ite_false, reduceIte, beq_self_eq_true, Bool.false_eq_true, Nat.zero_add, int_i, add_ii, sub_ii, lt_ii, gt_ii, ge_ii, le_ii, f1, f2, Bool.not_true, f3]
def intsL : List D → List Int
  | [] => []
  | .int x :: r => x :: intsL r
  | _ :: r => intsL r
theorem intsL_map {ds : List D} (h : ds.all intB = true) : ds = (intsL ds).map .int := by
  induction ds with
  | nil => rfl
  | cons d ds ih =>
    rw [List.all_cons, Bool.and_eq_true] at h
    cases d with
    | int x =>
      show D.int x :: ds = D.int x :: (intsL ds).map .int
      rw [← ih h.2]
    | _ => cases h.1
def uidsB (ds : List D) : Bool := ds.all intB && (!decide (0 ∈ intsL ds) && ascB ltI (intsL ds))
theorem notIn_ints {S : Sto} {xs : List Int} {i : Int} : oNotIn2 (.int i) (.tup (xs.map .int)) S = some (.bl (!decide (i ∈ xs)), S) := by
  have e1 : toP 65 S (.tup (xs.map .int)) = some (.tuple (xs.map PyData.int)) := by
    show ((xs.map D.int).mapM (toP 64 S)).map PyData.tuple = _
    rw [mapM_emb D.int PyData.int (fun _ => rfl)]; rfl
  obtain ⟨k1, k2⟩ := lay_emb PyData.int xs fun x _ => ⟨rfl, rfl⟩
  have s1 : SeqAt.shaped (.list (xs.map PyData.int)) = true := by
    show (PyData.canLayAll0 (xs.map PyData.int) && decide (PyData.depthAll (xs.map PyData.int) + 1 ≤ 64)) = true
    rw [k1, k2]; rfl
  have e2 : inD2 S (.int i) (.tup (xs.map .int)) = some (decide (i ∈ xs)) := by
    show (match toP 65 S (.int i), toP 65 S (.tup (xs.map .int)) with
      | some p, some (.list ds) => if (SeqAt.shaped p && SeqAt.shaped (.list ds)) = true then some (ds.any fun z => PyData.eqv z p) else none
      | some p, some (.tuple ds) => if (SeqAt.shaped p && SeqAt.shaped (.list ds)) = true then some (ds.any fun z => PyData.eqv z p) else none
      | _, _ => none) = _
    rw [e1]
    show (if (SeqAt.shaped (.int i) && SeqAt.shaped (.list (xs.map PyData.int))) = true then some ((xs.map PyData.int).any fun z => PyData.eqv z (.int i)) else none) = _
    rw [s1]
    show some ((xs.map PyData.int).any fun z => PyData.eqv z (.int i)) = _
    congr 1
    rw [Bool.eq_iff_iff, List.any_eq_true, decide_eq_true_eq]
    constructor
    · rintro ⟨z, hz, e⟩
      obtain ⟨x, hx, rfl⟩ := List.mem_map.mp hz
      have e : (x == i) = true := e
      rw [← beq_iff_eq.mp e]; exact hx
    · intro h
      exact ⟨.int i, List.mem_map.mpr ⟨i, h, rfl⟩, by show (i == i) = true; simp⟩
  show (inD2 S (.int i) (.tup (xs.map .int))).map (fun k => (D.bl !k, S)) = _
  rw [e2]; rfl
theorem WF.ty {S : Sto} {d : D} (h : WF S d) : ∃ t, tyD S d = some t := by
  rcases h with ⟨x, rfl, _⟩ | ⟨⟨t, h, _⟩, _⟩
  · exact ⟨_, rfl⟩
  · exact ⟨t, h⟩
theorem uids_tup {S : Sto} {ds : List D} (hz : ds.length ≤ 900) (h : ∀ d ∈ ds, WF S d) : ∃ S', m_are_uids [.tup ds] S = .ok (.bl (uidsB ds)) S' ∧ Gr S S' := by
  have hz2 : ds.length ≤ sizeLine := by rw [sizeLine_eq]; omega
  obtain ⟨S', c1, c2, c3⟩ := comp_all (S := S) (ds := ds) (f := m_is_integer) intB hz2 fun d hd S1 hg => by
    obtain ⟨t, ht⟩ := ((h d hd).gr hg).ty
    exact integer_ty ht
  have f1 : oType [.tup ds] S = some (.ty "tuple", S) := rfl
  have f2 : oIsNot (.ty "tuple") (.ty "tuple") S = some (.bl false, S) := rfl
  unfold m_are_uids b_are_uids uidsB
  generalize hm : mLcC (iAny (mVar 0)) (tgN 1) tOk (mCallC m_is_integer (aCons (mVar 1) aNil)) [1] = mm at c1
  cases ha : ds.all intB with
  | false =>
    rw [ha] at c3
    refine ⟨S', ?_, c2⟩
    simp only [mDef, sRet, sSeq, sIf, sExpr, sAsg, sNx, sBk, sCt, sPut, tgN, mBin, mUn, mMeth, mL, mM, mC, mVar, aNil, aCons, mTup, mLst, mIf, mSl, mChain, mAnd2, mOr2, mNot, tBl, tVal, tAnd2, tOr2, tNot2, startE, Rs.bind, Rs.bindS, lift, mCall, mCallC, mCall0, Rs.cold, List.length_cons, List.length_nil, List.map_cons, List.map_nil, List.replicate, List.append_eq, List.cons_append, List.nil_append, List.getElem?_cons_zero, List.getElem?_cons_succ, List.getElem?_nil, List.set_cons_zero, List.set_cons_succ, Nat.sub_self, Nat.reduceSub, Nat.reduceAdd, if_true, if_false, decide_true, decide_false, Option.map_some, Option.map_none, ite_true, ite_false, reduceIte, beq_self_eq_true, Bool.false_eq_true, Nat.zero_add, int_i, add_ii, sub_ii, lt_ii, gt_ii, ge_ii, le_ii, hm, f1, f2, c1, c3, truth, Bool.not_false, Bool.false_and]
  | true =>
    rw [ha] at c3
    have e2 := intsL_map ha
    generalize hxs : intsL ds = xs at e2
    have hl : xs.length ≤ sizeLine := by
      have := congrArg List.length e2
      rw [List.length_map] at this
      omega
    have f3 : oNotIn2 (.int 0) (.tup ds) S' = some (.bl (!decide (0 ∈ xs)), S') := by rw [e2, notIn_ints]
    cases h0 : (!decide ((0 : Int) ∈ xs)) with
    | false =>
      rw [h0] at f3
      refine ⟨S', ?_, c2⟩
      simp only [mDef, sRet, sSeq, sIf, sExpr, sAsg, sNx, sBk, sCt, sPut, tgN, mBin, mUn, mMeth, mL, mM, mC, mVar, aNil, aCons, mTup, mLst, mIf, mSl, mChain, mAnd2, mOr2, mNot, tBl, tVal, tAnd2, tOr2, tNot2, startE, Rs.bind, Rs.bindS, lift, mCall, mCallC, mCall0, Rs.cold, List.length_cons, List.length_nil, List.map_cons, List.map_nil, List.replicate, List.append_eq, List.cons_append, List.nil_append, List.getElem?_cons_zero, List.getElem?_cons_succ, List.getElem?_nil, List.set_cons_zero, List.set_cons_succ, Nat.sub_self, Nat.reduceSub, Nat.reduceAdd, if_true, if_false, decide_true, decide_false, Option.map_some, Option.map_none, ite_true, ite_false, reduceIte, beq_self_eq_true, Bool.false_eq_true, Nat.zero_add, int_i, add_ii, sub_ii, lt_ii, gt_ii, ge_ii, le_ii, hm, f1, f2, c1, c3, truth, Bool.not_true, f3, Bool.true_and, Bool.false_and]
    | true =>
      rw [h0] at f3
      obtain ⟨S2, k1, k2⟩ := asc_eq (S := S') D.int ltI (fun a b S => rfl) xs hl
      rw [← e2] at k1
      have k1 : m_are_ascending [.tup ds] S' = .ok (.bl (ascB ltI xs)) S2 := k1
      refine ⟨S2, ?_, c2.trans k2⟩
      generalize m_are_ascending = ma at k1 ⊢
      simp only [mDef, sRet, sSeq, sIf, sExpr, sAsg, sNx, sBk, sCt, sPut, tgN, mBin, mUn, mMeth, mL, mM, mC, mVar, aNil, aCons, mTup, mLst, mIf, mSl, mChain, mAnd2, mOr2, mNot, tBl, tVal, tAnd2, tOr2, tNot2, startE, Rs.bind, Rs.bindS, lift, mCall, mCallC, mCall0, Rs.cold, List.length_cons, List.length_nil, List.map_cons, List.map_nil, List.replicate, List.append_eq, List.cons_append, List.nil_append, List.getElem?_cons_zero, List.getElem?_cons_succ, List.getElem?_nil, List.set_cons_zero, List.set_cons_succ, Nat.sub_self, Nat.reduceSub, Nat.reduceAdd, if_true, if_false, decide_true, decide_false, Option.map_some, Option.map_none, ite_true, ite_false, reduceIte, beq_self_eq_true, Bool.false_eq_true, Nat.zero_add, int_i, add_ii, sub_ii, lt_ii, gt_ii, ge_ii, le_ii, hm, f1, f2, c1, c3, truth, Bool.not_true, f3, k1, Bool.true_and]
def low30 : Int := -(1000000000000000000000000000000)
theorem neg30 {S : Sto} : oPow (.int 10) (.int 30) S = some (.int 1000000000000000000000000000000, S) := by rfl
/-- no number beneath -10 ** 30 -/
def Low (d : D) : Prop := ∀ i, d = .int i → low30 ≤ i
theorem num_low {d : D} (h : Low d) : numB low30 d = intB d := by
  cases d with
  | int i => exact decide_eq_true (h i rfl)
  | _ => rfl
def zeroB : D → Bool
  | .int i => decide (i = 0)
  | _ => false
theorem any_uids : ∀ ds : List D, (ds.any fun d => !intB d || zeroB d) = !(ds.all intB && !decide (0 ∈ intsL ds))
  | [] => rfl
  | d :: ds => by
    have ih := any_uids ds
    rw [List.any_cons, List.all_cons, ih]
    cases d with
    | int i =>
      show ((!true || decide (i = 0)) || !(ds.all intB && !decide (0 ∈ intsL ds))) = !((true && ds.all intB) && !decide (0 ∈ i :: intsL ds))
      have e : decide ((0 : Int) ∈ i :: intsL ds) = (decide (i = 0) || decide (0 ∈ intsL ds)) := by
        rw [Bool.eq_iff_iff, Bool.or_eq_true, decide_eq_true_eq, decide_eq_true_eq, decide_eq_true_eq, List.mem_cons]
        exact or_congr_left eq_comm
      rw [e]
      cases decide (i = 0) <;> cases ds.all intB <;> cases decide ((0 : Int) ∈ intsL ds) <;> rfl
    | _ => rfl
theorem luids_tup {S : Sto} {ds : List D} (hz : ds.length ≤ 900) (h : ∀ d ∈ ds, WF S d) (hlow : ∀ d ∈ ds, Low d) : ∃ S', m__law_uids [.tup ds] S = .ok (.bl (uidsB ds)) S' ∧ Gr S S' := by
  have hz2 : ds.length ≤ sizeLine := by rw [sizeLine_eq]; omega
  obtain ⟨S', c1, c2, c3⟩ := comp_none (S := S) (ds := ds) (tt := tOr2 (tNot2 (tVal (mCallC m__law_number (aCons (mVar 1) (aCons (mUn oNeg (mBin oPow (mC (.int 10)) (mC (.int 30)))) aNil))))) (tBl (mBin oEq (mVar 1) (mC (.int 0))))) (fun d => !intB d || zeroB d) hz2 (fun d hd => (h d hd).pd) fun d hd S1 hg => by
    obtain ⟨t, ht⟩ := ((h d hd).gr hg).ty
    have k1 : m__law_number [d, .int low30] S1 = .ok (.bl (intB d)) S1 := by rw [number_ty ht, num_low (hlow d hd)]
    have k2 : oNeg (.int 1000000000000000000000000000000) S1 = some (.int low30, S1) := rfl
    refine ⟨S1, ?_, Gr.refl _⟩
    generalize m__law_number = mn at k1 ⊢
    cases hb : intB d with
    | false =>
      rw [hb] at k1
      simp only [tOr2, tNot2, tVal, mCallC, aCons, aNil, mVar, mC, mUn, mBin, Rs.bind, lift, List.getElem?_cons_succ, List.getElem?_cons_zero, neg30, k2, k1, Rs.cold, truth, Bool.not_false, if_true, Bool.true_or]
    | true =>
      rw [hb] at k1
      cases d with
      | int i =>
        simp only [tOr2, tNot2, tVal, tBl, mCallC, aCons, aNil, mVar, mC, mUn, mBin, Rs.bind, lift, List.getElem?_cons_succ, List.getElem?_cons_zero, neg30, k2, k1, Rs.cold, truth, Bool.not_true, Bool.false_eq_true, if_false, Bool.false_or, eq_ii]
        rfl
      | _ => cases hb
  have f1 : oIsi [.tup ds, .ty "tuple"] S = some (.bl true, S) := rfl
  have f5 : (0 : Nat) ≤ sizeLine := Nat.zero_le _
  have e1 : (ds.any fun d => !intB d || zeroB d) = !(ds.all intB && !decide (0 ∈ intsL ds)) := by
    exact any_uids ds
  rw [e1, Bool.not_not] at c3
  have f2 : oNe (.loc S.length) (.loc S'.length) (S' ++ [.lst true []]) = some (.bl (!(ds.all intB && !decide (0 ∈ intsL ds))), S' ++ [.lst true []]) := by
    show (eqD _ _ _).map _ = _
    rw [c3]; rfl
  unfold m__law_uids b__law_uids uidsB
  generalize hm : mLcC (iAny (mVar 0)) (tgN 1) (tOr2 (tNot2 (tVal (mCallC m__law_number (aCons (mVar 1) (aCons (mUn oNeg (mBin oPow (mC (.int 10)) (mC (.int 30)))) aNil))))) (tBl (mBin oEq (mVar 1) (mC (.int 0))))) (mVar 1) [1] = mm at c1
  rw [← Bool.and_assoc]
  cases ha : (ds.all intB && !decide ((0 : Int) ∈ intsL ds)) with
  | false =>
    rw [ha] at f2
    refine ⟨S' ++ [.lst true []], ?_, c2.trans (Gr.one _ _)⟩
    simp only [mDef, sRet, sSeq, sIf, sExpr, sAsg, sNx, sBk, sCt, sPut, tgN, mBin, mUn, mMeth, mL, mM, mC, mVar, aNil, aCons, mTup, mLst, mIf, mSl, mChain, mAnd2, mOr2, mNot, tBl, tVal, tAnd2, tOr2, tNot2, startE, Rs.bind, Rs.bindS, lift, mCall, mCallC, mCall0, Rs.cold, List.length_cons, List.length_nil, List.map_cons, List.map_nil, List.replicate, List.append_eq, List.cons_append, List.nil_append, List.getElem?_cons_zero, List.getElem?_cons_succ, List.getElem?_nil, List.set_cons_zero, List.set_cons_succ, Nat.sub_self, Nat.reduceSub, Nat.reduceAdd, if_true, if_false, decide_true, decide_false, Option.map_some, Option.map_none, ite_true, ite_false, reduceIte, beq_self_eq_true, Bool.false_eq_true, Nat.zero_add, int_i, add_ii, sub_ii, lt_ii, gt_ii, ge_ii, le_ii, hm, f1, c1, f5, f2, truth, Bool.not_true, Bool.not_false, Bool.false_and]
  | true =>
    rw [ha] at f2
    rw [Bool.and_eq_true] at ha
    generalize hxs : intsL ds = xs
    have e2 := intsL_map ha.1
    rw [hxs] at e2
    have hx : xs.length < 1000 := by
      have := congrArg List.length e2
      rw [List.length_map] at this
      omega
    generalize hS3 : S' ++ [SO.lst true []] = S3 at f2
    have f3 : oList [.tup ds] S3 = some (.loc S3.length, S3 ++ [.lst true ds]) := rfl
    have f4 : mSortedSet (mVar 0) [some (.tup ds), none] (S3 ++ [.lst true ds]) = .ok (.loc (S3 ++ [SO.lst true ds]).length) ((S3 ++ [SO.lst true ds]) ++ [SO.lst true (((uniq xs).mergeSort leI).map .int)]) := by
      simp only [mSortedSet, mVar, List.getElem?_cons_zero, Rs.bind, e2, sset_ints hx]
    generalize hS4 : (S3 ++ [SO.lst true ds]) ++ [SO.lst true (((uniq xs).mergeSort leI).map D.int)] = S4 at f4
    have f6 : eqD S4 (.loc S3.length) (.loc (S3 ++ [SO.lst true ds]).length) = some (ascB ltI xs) := by
      rw [eq_ints (w := true) (w' := true) (xs := xs) (ys := (uniq xs).mergeSort leI) (by rw [← hS4, e2]; simp) (by rw [← hS4]; simp)]
      congr 1
      rw [Bool.eq_iff_iff, decide_eq_true_eq]
      exact ascI_iff xs
    have f7 : oEq (.loc S3.length) (.loc (S3 ++ [SO.lst true ds]).length) S4 = some (.bl (ascB ltI xs), S4) := by
      show (eqD _ _ _).map _ = _
      rw [f6]; rfl
    refine ⟨S4, ?_, ?_⟩
    · simp only [mDef, sRet, sSeq, sIf, sExpr, sAsg, sNx, sBk, sCt, sPut, tgN, mBin, mUn, mMeth, mL, mM, mC, mVar, aNil, aCons, mTup, mLst, mIf, mSl, mChain, mAnd2, mOr2, mNot, tBl, tVal, tAnd2, tOr2, tNot2, startE, Rs.bind, Rs.bindS, lift, mCall, mCallC, mCall0, Rs.cold, List.length_cons, List.length_nil, List.map_cons, List.map_nil, List.replicate, List.append_eq, List.cons_append, List.nil_append, List.getElem?_cons_zero, List.getElem?_cons_succ, List.getElem?_nil, List.set_cons_zero, List.set_cons_succ, Nat.sub_self, Nat.reduceSub, Nat.reduceAdd, if_true, if_false, decide_true, decide_false, Option.map_some, Option.map_none, ite_true, ite_false, reduceIte, beq_self_eq_true, Bool.false_eq_true, Nat.zero_add, int_i, add_ii, sub_ii, lt_ii, gt_ii, ge_ii, le_ii, hm, f1, c1, f5, hS3, f2, f3, f4, f7, truth, Bool.not_true, Bool.true_and]
    · rw [← hS4, ← hS3]
      exact ((c2.trans (Gr.one _ _)).trans (Gr.one _ _)).trans (Gr.one _ _)
end K29
end

section
set_option Elab.async false
set_option linter.all false
set_option maxRecDepth 100000
/-! P6: law k29, plainly: letters of rights. -/
namespace K29
open PySem PySem.Spec M2 P0
set_option autoImplicit false
def one (c : Nat) : Str := ⟨#[c]⟩
theorem comp_cs {e : Nv} {S : Sto} {z : Str} {j : Nat} {tt : MT} (p : Nat → Bool) (hj : j < e.length) (hz : z.length ≤ 1000) (ht : ∀ c ∈ z.cps.toList, ∀ S1, Gr S S1 → ∃ S2, tt ((wipeE e [j]).set j (some (.str (one c)))) S1 = .ok (p c) S2 ∧ Gr S1 S2) :
    ∃ S', mLcC (iAny (mC (.str z))) (tgN j) tt (mVar j) [j] e S = .ok (.loc S.length) S' ∧ Gr S S' ∧ S'[S.length]? = some (.lst true (((z.cps.toList.filter p).map one).map .str)) ∧ S.length < S'.length := by
  have hI : iAny (mC (.str z)) e S = .ok (itS z) S := by simp only [iAny, mC, Rs.bind]
  have hjw : j < (wipeE e [j]).length := by simp [wipeE, hj]
  have hlen : (chars z).length = z.length := by unfold chars; rw [List.length_map, Array.length_toList]; rfl
  obtain ⟨S', h1, h2, h3, h4⟩ := lc_gr (it := itS z) (cnt := (itS z).cnt) (n := S.length) (tg := tgN j) (tt := tt) (me := mVar j) (e := wipeE e [j]) (xs := chars z)
    (fun d => match d with | .str ⟨a⟩ => (match a.toList with | [c] => p c | _ => false) | _ => false) id S (fun i S _ => itS_at) (by rw [hlen]; rfl) (by rw [hlen, sizeLine_eq]; omega) (fun d hd S1 hg => by
      obtain ⟨c, hc, rfl⟩ := List.mem_map.mp hd
      obtain ⟨S2, k1, k2⟩ := ht c hc S1 hg
      have e1 : ((wipeE e [j]).set j (some (.str ⟨#[c]⟩)))[j]? = some (some (.str ⟨#[c]⟩)) := List.getElem?_set_self hjw
      refine ⟨_, S2, rfl, k1, k2, fun _ => ?_⟩
      simp only [mVar, e1]
      rfl) rfl
  refine ⟨S', ?_, h2, ?_, h4⟩
  · unfold mLcC
    rw [hI]
    simp only [Rs.bind]
    rw [h1]
    rfl
  · rw [h3]
    congr 2
    unfold chars
    rw [List.filter_map, List.map_map, List.map_map]
    rfl
theorem join_one {S : Sto} {n : Nat} {cs : List Nat} (h : S[n]? = some (.lst true ((cs.map one).map .str))) (hl : cs.length ≤ 1000) : oJoin (.str "") [.loc n] S = some (.str (Txt.join "" (cs.map one)), S) := by
  have e1 : itemsOf S (.loc n) = some ((cs.map one).map .str) := by
    show (match S[n]? with
      | some (.lst _ ds) => some ds
      | _ => none) = _
    rw [h]
  have e2 : (((cs.map one).map (fun (y : Str) => y.length)).sum + (cs.map one).length * Str.length "") ≤ 16777216 := by
    have q : ((cs.map one).map (fun (y : Str) => y.length)).sum = cs.length := by
      clear h hl e1
      induction cs with
      | nil => rfl
      | cons c cs ih =>
        rw [List.map_cons, List.map_cons, List.sum_cons, ih, List.length_cons]
        have : (one c).length = 1 := rfl
        omega
    have q2 : Str.length "" = 0 := by decide +kernel
    rw [q, q2]
    omega
  show (match itemsOf S (.loc n) with
    | some ds => match strsOf ds with
      | some ys => if (ys.map (fun (y : Str) => y.length)).sum + ys.length * Str.length "" ≤ 16777216 then some (D.str (Txt.join "" ys), S) else none
      | none => none
    | none => none) = _
  rw [e1]
  show (match strsOf ((cs.map one).map D.str) with
      | some ys => if (ys.map (fun (y : Str) => y.length)).sum + ys.length * Str.length "" ≤ 16777216 then some (D.str (Txt.join "" ys), S) else none
      | none => none) = _
  rw [strs_some]
  show (if ((cs.map one).map (fun (y : Str) => y.length)).sum + (cs.map one).length * Str.length "" ≤ 16777216 then some (D.str (Txt.join "" (cs.map one)), S) else none) = _
  rw [if_pos e2]
abbrev rights : Str := "lrsiea"
/-- the letters of rights of a text, in their order -/
def ordV (x : Str) : Str := Txt.join "" ((rights.cps.toList.filter fun c => decide (c ∈ x.cps.toList)).map one)
theorem six (p : Nat → Bool) : (rights.cps.toList.filter p).length ≤ 1000 := Nat.le_trans (List.length_filter_le _ _) (by decide +kernel)
theorem comp_ord {S : Sto} {x : Str} : ∃ S', mLcC (iAny (mC (.str "lrsiea"))) (tgN 1) (tBl (mBin oIn2 (mVar 1) (mVar 0))) (mVar 1) [1] [some (.str x), none] S = .ok (.loc S.length) S' ∧ Gr S S' ∧ oJoin (.str "") [.loc S.length] S' = some (.str (ordV x), S') := by
  obtain ⟨S', c1, c2, c3, c4⟩ := comp_cs (e := [some (.str x), none]) (S := S) (z := rights) (j := 1) (tt := tBl (mBin oIn2 (mVar 1) (mVar 0))) (fun c => decide (c ∈ x.cps.toList)) (by simp) (by decide +kernel) fun c hc S1 _ => ⟨S1, by
    have : oIn2 (.str (one c)) (.str x) S1 = some (.bl (decide (c ∈ x.cps.toList)), S1) := in_one
    simp only [tBl, mBin, mVar, wipeE, List.set_cons_succ, List.set_cons_zero, List.getElem?_cons_succ, List.getElem?_cons_zero, Rs.bind, lift, this], Gr.refl _⟩
  exact ⟨S', c1, c2, join_one c3 (six _)⟩
theorem order_str {S : Sto} {x : Str} : ∃ S', m_in_order [.str x] S = .ok (.str (ordV x)) S' ∧ Gr S S' := by
  obtain ⟨S', c1, c2, c3⟩ := comp_ord (S := S) (x := x)
  refine ⟨S', ?_, c2⟩
  have f1 : rcvD S (.str "") "str" = true := rfl
  unfold m_in_order b_in_order
  generalize hm : mLcC (iAny (mC (.str "lrsiea"))) (tgN 1) (tBl (mBin oIn2 (mVar 1) (mVar 0))) (mVar 1) [1] = mm at c1
  simp only [mDef, sRet, sSeq, sIf, sExpr, sAsg, sNx, sBk, sCt, sPut, tgN, mBin, mUn, mMeth, mL, mM, mC, mVar, aNil, aCons, mTup, mLst, mIf, mSl, mChain, mAnd2, mOr2, mNot, tBl, tVal, tAnd2, tOr2, tNot2, startE, Rs.bind, Rs.bindS, lift, mCall, mCallC, mCall0, Rs.cold, List.length_cons, List.length_nil, List.map_cons, List.map_nil, List.replicate, List.append_eq, List.cons_append, List.nil_append, List.getElem?_cons_zero, List.getElem?_cons_succ, List.getElem?_nil, List.set_cons_zero, List.set_cons_succ, Nat.sub_self, Nat.reduceSub, Nat.reduceAdd, if_true, if_false, decide_true, decide_false, Option.map_some, Option.map_none, ite_true, ite_false, reduceIte, beq_self_eq_true, Bool.false_eq_true, Nat.zero_add, int_i, add_ii, sub_ii, lt_ii, gt_ii, ge_ii, le_ii, f1, c1, c3]
theorem rights_str {S : Sto} {x : Str} : ∃ S', m_are_rights [.str x] S = .ok (.bl (decide (x = ordV x))) S' ∧ Gr S S' := by
  obtain ⟨S', c1, c2⟩ := order_str (S := S) (x := x)
  have f1 : oType [.str x] S = some (.ty "str", S) := rfl
  have f2 : oIs (.ty "str") (.ty "str") S = some (.bl true, S) := rfl
  refine ⟨S', ?_, c2⟩
  unfold m_are_rights b_are_rights
  generalize m_in_order = mo at c1
  simp only [mDef, sRet, sSeq, sIf, sExpr, sAsg, sNx, sBk, sCt, sPut, tgN, mBin, mUn, mMeth, mL, mM, mC, mVar, aNil, aCons, mTup, mLst, mIf, mSl, mChain, mAnd2, mOr2, mNot, tBl, tVal, tAnd2, tOr2, tNot2, startE, Rs.bind, Rs.bindS, lift, mCall, mCallC, mCall0, Rs.cold, List.length_cons, List.length_nil, List.map_cons, List.map_nil, List.replicate, List.append_eq, List.cons_append, List.nil_append, List.getElem?_cons_zero, List.getElem?_cons_succ, List.getElem?_nil, List.set_cons_zero, List.set_cons_succ, Nat.sub_self, Nat.reduceSub, Nat.reduceAdd, if_true, if_false, decide_true, decide_false, Option.map_some, Option.map_none, ite_true, ite_false, reduceIte, beq_self_eq_true, Bool.false_eq_true, Nat.zero_add, int_i, add_ii, sub_ii, lt_ii, gt_ii, ge_ii, le_ii, f1, f2, c1, eq_ss]
theorem rights_not {S : Sto} {d : D} (h : NotStr S d) : m_are_rights [d] S = .ok (.bl false) S := by
  obtain ⟨t, h1, h2⟩ := h
  have f1 := type_of h1
  have f2 : oIs (.ty t) (.ty "str") S = some (.bl false, S) := by rw [is_ty, decide_eq_false h2]
  unfold m_are_rights b_are_rights
  generalize m_in_order = mo
  simp only [mDef, sRet, sSeq, sIf, sExpr, sAsg, sNx, sBk, sCt, sPut, tgN, mBin, mUn, mMeth, mL, mM, mC, mVar, aNil, aCons, mTup, mLst, mIf, mSl, mChain, mAnd2, mOr2, mNot, tBl, tVal, tAnd2, tOr2, tNot2, startE, Rs.bind, Rs.bindS, lift, mCall, mCallC, mCall0, Rs.cold, List.length_cons, List.length_nil, List.map_cons, List.map_nil, List.replicate, List.append_eq, List.cons_append, List.nil_append, List.getElem?_cons_zero, List.getElem?_cons_succ, List.getElem?_nil, List.set_cons_zero, List.set_cons_succ, Nat.sub_self, Nat.reduceSub, Nat.reduceAdd, if_true, if_false, decide_true, decide_false, Option.map_some, Option.map_none, ite_true, ite_false, reduceIte, beq_self_eq_true, Bool.false_eq_true, Nat.zero_add, int_i, add_ii, sub_ii, lt_ii, gt_ii, ge_ii, le_ii, f1, f2]
theorem letters_str {S : Sto} {x : Str} : ∃ S', m__law_letters [.str x] S = .ok (.bl (decide (x = ordV x))) S' ∧ Gr S S' := by
  obtain ⟨S', c1, c2, c3⟩ := comp_ord (S := S) (x := x)
  have f1 : oIsi [.str x, .ty "str"] S = some (.bl true, S) := rfl
  have f2 : rcvD S (.str "") "str" = true := rfl
  refine ⟨S', ?_, c2⟩
  unfold m__law_letters b__law_letters
  generalize hm : mLcC (iAny (mC (.str "lrsiea"))) (tgN 1) (tBl (mBin oIn2 (mVar 1) (mVar 0))) (mVar 1) [1] = mm at c1
  simp only [mDef, sRet, sSeq, sIf, sExpr, sAsg, sNx, sBk, sCt, sPut, tgN, mBin, mUn, mMeth, mL, mM, mC, mVar, aNil, aCons, mTup, mLst, mIf, mSl, mChain, mAnd2, mOr2, mNot, tBl, tVal, tAnd2, tOr2, tNot2, startE, Rs.bind, Rs.bindS, lift, mCall, mCallC, mCall0, Rs.cold, List.length_cons, List.length_nil, List.map_cons, List.map_nil, List.replicate, List.append_eq, List.cons_append, List.nil_append, List.getElem?_cons_zero, List.getElem?_cons_succ, List.getElem?_nil, List.set_cons_zero, List.set_cons_succ, Nat.sub_self, Nat.reduceSub, Nat.reduceAdd, if_true, if_false, decide_true, decide_false, Option.map_some, Option.map_none, ite_true, ite_false, reduceIte, beq_self_eq_true, Bool.false_eq_true, Nat.zero_add, int_i, add_ii, sub_ii, lt_ii, gt_ii, ge_ii, le_ii, f1, f2, truth, Bool.not_true, c1, c3, eq_ss]
theorem letters_not {S : Sto} {d : D} (h : NotStr S d) : m__law_letters [d] S = .ok (.bl false) S := by
  obtain ⟨t, h1, h2⟩ := h
  have f1 := isi_of h1 (kit_str h2 ⟨S, d, h1⟩)
  unfold m__law_letters b__law_letters
  generalize hm : mLcC (iAny (mC (.str "lrsiea"))) (tgN 1) (tBl (mBin oIn2 (mVar 1) (mVar 0))) (mVar 1) [1] = mm
  simp only [mDef, sRet, sSeq, sIf, sExpr, sAsg, sNx, sBk, sCt, sPut, tgN, mBin, mUn, mMeth, mL, mM, mC, mVar, aNil, aCons, mTup, mLst, mIf, mSl, mChain, mAnd2, mOr2, mNot, tBl, tVal, tAnd2, tOr2, tNot2, startE, Rs.bind, Rs.bindS, lift, mCall, mCallC, mCall0, Rs.cold, List.length_cons, List.length_nil, List.map_cons, List.map_nil, List.replicate, List.append_eq, List.cons_append, List.nil_append, List.getElem?_cons_zero, List.getElem?_cons_succ, List.getElem?_nil, List.set_cons_zero, List.set_cons_succ, Nat.sub_self, Nat.reduceSub, Nat.reduceAdd, if_true, if_false, decide_true, decide_false, Option.map_some, Option.map_none, ite_true, ite_false, reduceIte, beq_self_eq_true, Bool.false_eq_true, Nat.zero_add, int_i, add_ii, sub_ii, lt_ii, gt_ii, ge_ii, le_ii, f1, truth, Bool.not_false]
end K29
end

section
set_option Elab.async false
set_option linter.all false
set_option maxRecDepth 100000
/-! P7: law k29, plainly: completed. -/
namespace K29
open PySem PySem.Spec M2 P0
set_option autoImplicit false
def hasC (x : Str) (c : Nat) : Bool := decide (c ∈ x.cps.toList)
def compV (x : Str) : Str :=
  if hasC x 97 = true then "lrsiea" else
  let x1 := if (hasC x 115 || hasC x 101) = true then x ++ ("r" : Str) else x
  let x2 := if (!decide (x1 = "")) = true then x1 ++ ("l" : Str) else x1
  ordV x2
def dueC (x : Str) (c : Nat) : Bool := hasC x c || (hasC x 97 || ((decide (c = 108) && !decide (x = "")) || (decide (c = 114) && (hasC x 115 || hasC x 101))))
def dueV (x : Str) : Str := Txt.join "" ((rights.cps.toList.filter (dueC x)).map one)
def bitsV (b1 b2 b3 b4 b5 b6 : Bool) : Str := Txt.join "" (((if b1 then [108] else []) ++ ((if b2 then [114] else []) ++ ((if b3 then [115] else []) ++ ((if b4 then [105] else []) ++ ((if b5 then [101] else []) ++ (if b6 then [97] else [])))))).map one)
theorem filter_six (p : Nat → Bool) : rights.cps.toList.filter p = (if p 108 then [108] else []) ++ ((if p 114 then [114] else []) ++ ((if p 115 then [115] else []) ++ ((if p 105 then [105] else []) ++ ((if p 101 then [101] else []) ++ (if p 97 then [97] else []))))) := by
  have e : rights.cps.toList = [108, 114, 115, 105, 101, 97] := by decide +kernel
  rw [e]
  simp only [List.filter_cons, List.filter_nil]
  cases p 108 <;> cases p 114 <;> cases p 115 <;> cases p 105 <;> cases p 101 <;> cases p 97 <;> rfl
theorem ord_bits (x : Str) : ordV x = bitsV (hasC x 108) (hasC x 114) (hasC x 115) (hasC x 105) (hasC x 101) (hasC x 97) := by
  unfold ordV bitsV
  rw [filter_six]
  rfl
theorem comp_due_bits : ∀ b1 b2 b3 b4 b5 b6 : Bool, compV (bitsV b1 b2 b3 b4 b5 b6) = dueV (bitsV b1 b2 b3 b4 b5 b6) := by decide +kernel
theorem comp_due {x : Str} (h : x = ordV x) : compV x = dueV x := by
  rw [ord_bits] at h
  rw [h]
  exact comp_due_bits _ _ _ _ _ _
theorem bits_len : ∀ b1 b2 b3 b4 b5 b6 : Bool, (bitsV b1 b2 b3 b4 b5 b6).length ≤ 6 := by decide +kernel
theorem ord_len {x : Str} (h : x = ordV x) : x.length ≤ 6 := by
  rw [ord_bits] at h
  rw [h]
  exact bits_len _ _ _ _ _ _
theorem in_lit {S : Sto} {x : Str} {c : Nat} {z : Str} (h : z = one c) : oIn2 (.str z) (.str x) S = some (.bl (hasC x c), S) := by
  subst h
  exact in_one
theorem add_ss {S : Sto} {x y : Str} (h : x.length + y.length ≤ sizeLine) : oAdd (.str x) (.str y) S = some (.str (x ++ y), S) := by
  show (if x.length + y.length ≤ sizeLine then some (D.str (x ++ y), S) else none) = _
  rw [if_pos h]
theorem completed_str {S : Sto} {x : Str} (h : TextOk x) : ∃ S', m_completed [.str x] S = .ok (if x = ordV x then .str (compV x) else .non) S' ∧ Gr S S' := by
  obtain ⟨S1, r1, r2⟩ := rights_str (S := S) (x := x)
  unfold m_completed b_completed
  generalize m_are_rights = mr at r1
  by_cases hx : x = ordV x
  · rw [decide_eq_true hx] at r1
    rw [if_pos hx]
    have ia : ∀ S1 : Sto, oIn2 (.str "a") (.str x) S1 = some (.bl (hasC x 97), S1) := fun _ => in_lit (by decide +kernel)
    have is_ : ∀ S1 : Sto, oIn2 (.str "s") (.str x) S1 = some (.bl (hasC x 115), S1) := fun _ => in_lit (by decide +kernel)
    have ie : ∀ S1 : Sto, oIn2 (.str "e") (.str x) S1 = some (.bl (hasC x 101), S1) := fun _ => in_lit (by decide +kernel)
    have hl := ord_len hx
    have lr : Str.length ("r" : Str) = 1 := by decide +kernel
    have ll : Str.length ("l" : Str) = 1 := by decide +kernel
    have a1 : ∀ S1 : Sto, oAdd (.str x) (.str "r") S1 = some (.str (x ++ ("r" : Str)), S1) := fun _ => add_ss (by rw [lr, sizeLine_eq]; omega)
    have hlr : (x ++ ("r" : Str)).length ≤ 7 := by
      have : (x ++ ("r" : Str)).length = x.length + Str.length ("r" : Str) := by
        show (x.cps ++ Str.cps "r").size = x.cps.size + (Str.cps "r").size
        exact Array.size_append
      omega
    cases h97 : hasC x 97 with
    | true =>
      refine ⟨S1, ?_, r2⟩
      have e : compV x = "lrsiea" := by unfold compV; rw [h97]; rfl
      rw [e]
      generalize m_in_order = mo
      simp only [mDef, sRet, sSeq, sIf, sExpr, sAsg, sNx, sBk, sCt, sPut, tgN, mBin, mUn, mMeth, mL, mM, mC, mVar, aNil, aCons, mTup, mLst, mIf, mSl, mChain, mAnd2, mOr2, mNot, tBl, tVal, tAnd2, tOr2, tNot2, startE, Rs.bind, Rs.bindS, lift, mCall, mCallC, mCall0, Rs.cold, List.length_cons, List.length_nil, List.map_cons, List.map_nil, List.replicate, List.append_eq, List.cons_append, List.nil_append, List.getElem?_cons_zero, List.getElem?_cons_succ, List.getElem?_nil, List.set_cons_zero, List.set_cons_succ, Nat.sub_self, Nat.reduceSub, Nat.reduceAdd, if_true, if_false, decide_true, decide_false, Option.map_some, Option.map_none, ite_true, ite_false, reduceIte, beq_self_eq_true, Bool.false_eq_true, Nat.zero_add, int_i, add_ii, sub_ii, lt_ii, gt_ii, ge_ii, le_ii, r1, truth, Bool.not_true, ia, h97]
    | false =>
      have fin : ∀ x2 : Str, ∃ S2, m_in_order [.str x2] S1 = .ok (.str (ordV x2)) S2 ∧ Gr S1 S2 := fun x2 => order_str
      generalize m_in_order = mo at fin ⊢
      have tail : ∀ x1 : Str, x1.length ≤ 7 → ∃ S2, (sSeq (sIf (tBl (mBin oNe (mVar 0) (mC (.str "")))) (sAsg (mBin oAdd (mVar 0) (mC (.str "l"))) (tgN 0)) sNx) (sRet (mCall mo (aCons (mVar 0) aNil)))) [some (.str x1)] S1 =
          .rt (.str (ordV (if (!decide (x1 = "")) = true then x1 ++ ("l" : Str) else x1))) S2 ∧ Gr S1 S2 := fun x1 hx1 => by
        cases hd : (!decide (x1 = "")) with
        | false =>
          obtain ⟨S2, k1, k2⟩ := fin x1
          refine ⟨S2, ?_, k2⟩
          simp only [mDef, sRet, sSeq, sIf, sExpr, sAsg, sNx, sBk, sCt, sPut, tgN, mBin, mUn, mMeth, mL, mM, mC, mVar, aNil, aCons, mTup, mLst, mIf, mSl, mChain, mAnd2, mOr2, mNot, tBl, tVal, tAnd2, tOr2, tNot2, startE, Rs.bind, Rs.bindS, lift, mCall, mCallC, mCall0, Rs.cold, List.length_cons, List.length_nil, List.map_cons, List.map_nil, List.replicate, List.append_eq, List.cons_append, List.nil_append, List.getElem?_cons_zero, List.getElem?_cons_succ, List.getElem?_nil, List.set_cons_zero, List.set_cons_succ, Nat.sub_self, Nat.reduceSub, Nat.reduceAdd, if_true, if_false, decide_true, decide_false, Option.map_some, Option.map_none, ite_true, ite_false, reduceIte, beq_self_eq_true, Bool.false_eq_true, Nat.zero_add, int_i, add_ii, sub_ii, lt_ii, gt_ii, ge_ii, le_ii, ne_ss, hd, k1]
        | true =>
          obtain ⟨S2, k1, k2⟩ := fin (x1 ++ ("l" : Str))
          refine ⟨S2, ?_, k2⟩
          have a2 : oAdd (.str x1) (.str "l") S1 = some (.str (x1 ++ ("l" : Str)), S1) := add_ss (by rw [ll, sizeLine_eq]; omega)
          simp only [mDef, sRet, sSeq, sIf, sExpr, sAsg, sNx, sBk, sCt, sPut, tgN, mBin, mUn, mMeth, mL, mM, mC, mVar, aNil, aCons, mTup, mLst, mIf, mSl, mChain, mAnd2, mOr2, mNot, tBl, tVal, tAnd2, tOr2, tNot2, startE, Rs.bind, Rs.bindS, lift, mCall, mCallC, mCall0, Rs.cold, List.length_cons, List.length_nil, List.map_cons, List.map_nil, List.replicate, List.append_eq, List.cons_append, List.nil_append, List.getElem?_cons_zero, List.getElem?_cons_succ, List.getElem?_nil, List.set_cons_zero, List.set_cons_succ, Nat.sub_self, Nat.reduceSub, Nat.reduceAdd, if_true, if_false, decide_true, decide_false, Option.map_some, Option.map_none, ite_true, ite_false, reduceIte, beq_self_eq_true, Bool.false_eq_true, Nat.zero_add, int_i, add_ii, sub_ii, lt_ii, gt_ii, ge_ii, le_ii, ne_ss, hd, a2, k1]
      generalize ht : (sSeq (sIf (tBl (mBin oNe (mVar 0) (mC (.str "")))) (sAsg (mBin oAdd (mVar 0) (mC (.str "l"))) (tgN 0)) sNx) (sRet (mCall mo (aCons (mVar 0) aNil)))) = tl at tail
      cases hse : (hasC x 115 || hasC x 101) with
      | true =>
        obtain ⟨S2, k1, k2⟩ := tail (x ++ ("r" : Str)) hlr
        refine ⟨S2, ?_, r2.trans k2⟩
        have e : compV x = ordV (if (!decide (x ++ ("r" : Str) = "")) = true then (x ++ ("r" : Str)) ++ ("l" : Str) else (x ++ ("r" : Str))) := by
          unfold compV; rw [h97, hse]; rfl
        rw [e]
        cases hs : hasC x 115 with
        | true => simp only [mDef, sRet, sSeq, sIf, sExpr, sAsg, sNx, sBk, sCt, sPut, tgN, mBin, mUn, mMeth, mL, mM, mC, mVar, aNil, aCons, mTup, mLst, mIf, mSl, mChain, mAnd2, mOr2, mNot, tBl, tVal, tAnd2, tOr2, tNot2, startE, Rs.bind, Rs.bindS, lift, mCall, mCallC, mCall0, Rs.cold, List.length_cons, List.length_nil, List.map_cons, List.map_nil, List.replicate, List.append_eq, List.cons_append, List.nil_append, List.getElem?_cons_zero, List.getElem?_cons_succ, List.getElem?_nil, List.set_cons_zero, List.set_cons_succ, Nat.sub_self, Nat.reduceSub, Nat.reduceAdd, if_true, if_false, decide_true, decide_false, Option.map_some, Option.map_none, ite_true, ite_false, reduceIte, beq_self_eq_true, Bool.false_eq_true, Nat.zero_add, int_i, add_ii, sub_ii, lt_ii, gt_ii, ge_ii, le_ii, r1, truth, Bool.not_true, ia, h97, is_, hs, a1, k1]
        | false =>
          rw [hs, Bool.false_or] at hse
          simp only [mDef, sRet, sSeq, sIf, sExpr, sAsg, sNx, sBk, sCt, sPut, tgN, mBin, mUn, mMeth, mL, mM, mC, mVar, aNil, aCons, mTup, mLst, mIf, mSl, mChain, mAnd2, mOr2, mNot, tBl, tVal, tAnd2, tOr2, tNot2, startE, Rs.bind, Rs.bindS, lift, mCall, mCallC, mCall0, Rs.cold, List.length_cons, List.length_nil, List.map_cons, List.map_nil, List.replicate, List.append_eq, List.cons_append, List.nil_append, List.getElem?_cons_zero, List.getElem?_cons_succ, List.getElem?_nil, List.set_cons_zero, List.set_cons_succ, Nat.sub_self, Nat.reduceSub, Nat.reduceAdd, if_true, if_false, decide_true, decide_false, Option.map_some, Option.map_none, ite_true, ite_false, reduceIte, beq_self_eq_true, Bool.false_eq_true, Nat.zero_add, int_i, add_ii, sub_ii, lt_ii, gt_ii, ge_ii, le_ii, r1, truth, Bool.not_true, ia, h97, is_, hs, ie, hse, a1, k1]
      | false =>
        obtain ⟨S2, k1, k2⟩ := tail x (by omega)
        refine ⟨S2, ?_, r2.trans k2⟩
        have e : compV x = ordV (if (!decide (x = "")) = true then x ++ ("l" : Str) else x) := by
          unfold compV; rw [h97, hse]; rfl
        rw [e]
        rw [Bool.or_eq_false_iff] at hse
        simp only [mDef, sRet, sSeq, sIf, sExpr, sAsg, sNx, sBk, sCt, sPut, tgN, mBin, mUn, mMeth, mL, mM, mC, mVar, aNil, aCons, mTup, mLst, mIf, mSl, mChain, mAnd2, mOr2, mNot, tBl, tVal, tAnd2, tOr2, tNot2, startE, Rs.bind, Rs.bindS, lift, mCall, mCallC, mCall0, Rs.cold, List.length_cons, List.length_nil, List.map_cons, List.map_nil, List.replicate, List.append_eq, List.cons_append, List.nil_append, List.getElem?_cons_zero, List.getElem?_cons_succ, List.getElem?_nil, List.set_cons_zero, List.set_cons_succ, Nat.sub_self, Nat.reduceSub, Nat.reduceAdd, if_true, if_false, decide_true, decide_false, Option.map_some, Option.map_none, ite_true, ite_false, reduceIte, beq_self_eq_true, Bool.false_eq_true, Nat.zero_add, int_i, add_ii, sub_ii, lt_ii, gt_ii, ge_ii, le_ii, r1, truth, Bool.not_true, ia, h97, is_, hse.1, ie, hse.2, k1]
  · rw [decide_eq_false hx] at r1
    rw [if_neg hx]
    refine ⟨S1, ?_, r2⟩
    simp only [mDef, sRet, sSeq, sIf, sExpr, sAsg, sNx, sBk, sCt, sPut, tgN, mBin, mUn, mMeth, mL, mM, mC, mVar, aNil, aCons, mTup, mLst, mIf, mSl, mChain, mAnd2, mOr2, mNot, tBl, tVal, tAnd2, tOr2, tNot2, startE, Rs.bind, Rs.bindS, lift, mCall, mCallC, mCall0, Rs.cold, List.length_cons, List.length_nil, List.map_cons, List.map_nil, List.replicate, List.append_eq, List.cons_append, List.nil_append, List.getElem?_cons_zero, List.getElem?_cons_succ, List.getElem?_nil, List.set_cons_zero, List.set_cons_succ, Nat.sub_self, Nat.reduceSub, Nat.reduceAdd, if_true, if_false, decide_true, decide_false, Option.map_some, Option.map_none, ite_true, ite_false, reduceIte, beq_self_eq_true, Bool.false_eq_true, Nat.zero_add, int_i, add_ii, sub_ii, lt_ii, gt_ii, ge_ii, le_ii, r1, truth, Bool.not_false]
theorem completed_not {S : Sto} {d : D} (h : NotStr S d) : m_completed [d] S = .ok .non S := by
  have r1 := rights_not h
  unfold m_completed b_completed
  generalize m_are_rights = mr at r1
  generalize m_in_order = mo
  simp only [mDef, sRet, sSeq, sIf, sExpr, sAsg, sNx, sBk, sCt, sPut, tgN, mBin, mUn, mMeth, mL, mM, mC, mVar, aNil, aCons, mTup, mLst, mIf, mSl, mChain, mAnd2, mOr2, mNot, tBl, tVal, tAnd2, tOr2, tNot2, startE, Rs.bind, Rs.bindS, lift, mCall, mCallC, mCall0, Rs.cold, List.length_cons, List.length_nil, List.map_cons, List.map_nil, List.replicate, List.append_eq, List.cons_append, List.nil_append, List.getElem?_cons_zero, List.getElem?_cons_succ, List.getElem?_nil, List.set_cons_zero, List.set_cons_succ, Nat.sub_self, Nat.reduceSub, Nat.reduceAdd, if_true, if_false, decide_true, decide_false, Option.map_some, Option.map_none, ite_true, ite_false, reduceIte, beq_self_eq_true, Bool.false_eq_true, Nat.zero_add, int_i, add_ii, sub_ii, lt_ii, gt_ii, ge_ii, le_ii, r1, truth, Bool.not_false]
end K29
end

section
set_option Elab.async false
set_option linter.all false
set_option maxRecDepth 100000
/-! P8: law k29, plainly: alike. -/
namespace K29
open PySem PySem.Spec M2 P0
set_option autoImplicit false
theorem same_bl {S : Sto} {n : Nat} {a : Bool} : m__law_same (n + 1) [.bl a, .bl a] S = .ok (.bl true) S := by
  have f1 : oIsi [.bl a, .ty "tuple"] S = some (.bl false, S) := rfl
  have f2 : oIs (.bl a) .non S = some (.bl false, S) := by cases a <;> rfl
  have f3 : oIs (.bl a) (.bl true) S = some (.bl a, S) := by cases a <;> rfl
  have f4 : oIs (.bl a) (.bl false) S = some (.bl (!a), S) := by cases a <;> rfl
  unfold m__law_same
  generalize m__law_same n = ms
  cases a with
  | true => simp only [mDef, sRet, sSeq, sIf, sExpr, sAsg, sNx, sBk, sCt, sPut, tgN, mBin, mUn, mMeth, mL, mM, mC, mVar, aNil, aCons, mTup, mLst, mIf, mSl, mChain, mAnd2, mOr2, mNot, tBl, tVal, tAnd2, tOr2, tNot2, startE, Rs.bind, Rs.bindS, lift, mCall, mCallC, mCall0, Rs.cold, List.length_cons, List.length_nil, List.map_cons, List.map_nil, List.replicate, List.append_eq, List.cons_append, List.nil_append, List.getElem?_cons_zero, List.getElem?_cons_succ, List.getElem?_nil, List.set_cons_zero, List.set_cons_succ, Nat.sub_self, Nat.reduceSub, Nat.reduceAdd, if_true, if_false, decide_true, decide_false, Option.map_some, Option.map_none, ite_true, ite_false, reduceIte, beq_self_eq_true, Bool.false_eq_true, Nat.zero_add, int_i, add_ii, sub_ii, lt_ii, gt_ii, ge_ii, le_ii, f1, f2, f3, truth]
  | false => simp only [mDef, sRet, sSeq, sIf, sExpr, sAsg, sNx, sBk, sCt, sPut, tgN, mBin, mUn, mMeth, mL, mM, mC, mVar, aNil, aCons, mTup, mLst, mIf, mSl, mChain, mAnd2, mOr2, mNot, tBl, tVal, tAnd2, tOr2, tNot2, startE, Rs.bind, Rs.bindS, lift, mCall, mCallC, mCall0, Rs.cold, List.length_cons, List.length_nil, List.map_cons, List.map_nil, List.replicate, List.append_eq, List.cons_append, List.nil_append, List.getElem?_cons_zero, List.getElem?_cons_succ, List.getElem?_nil, List.set_cons_zero, List.set_cons_succ, Nat.sub_self, Nat.reduceSub, Nat.reduceAdd, if_true, if_false, decide_true, decide_false, Option.map_some, Option.map_none, ite_true, ite_false, reduceIte, beq_self_eq_true, Bool.false_eq_true, Nat.zero_add, int_i, add_ii, sub_ii, lt_ii, gt_ii, ge_ii, le_ii, f1, f2, f3, f4, truth, Bool.not_false]
theorem same_non {S : Sto} {n : Nat} : m__law_same (n + 1) [.non, .non] S = .ok (.bl true) S := by
  have f1 : oIsi [.non, .ty "tuple"] S = some (.bl false, S) := rfl
  have f2 : oIs .non .non S = some (.bl true, S) := rfl
  unfold m__law_same
  generalize m__law_same n = ms
  simp only [mDef, sRet, sSeq, sIf, sExpr, sAsg, sNx, sBk, sCt, sPut, tgN, mBin, mUn, mMeth, mL, mM, mC, mVar, aNil, aCons, mTup, mLst, mIf, mSl, mChain, mAnd2, mOr2, mNot, tBl, tVal, tAnd2, tOr2, tNot2, startE, Rs.bind, Rs.bindS, lift, mCall, mCallC, mCall0, Rs.cold, List.length_cons, List.length_nil, List.map_cons, List.map_nil, List.replicate, List.append_eq, List.cons_append, List.nil_append, List.getElem?_cons_zero, List.getElem?_cons_succ, List.getElem?_nil, List.set_cons_zero, List.set_cons_succ, Nat.sub_self, Nat.reduceSub, Nat.reduceAdd, if_true, if_false, decide_true, decide_false, Option.map_some, Option.map_none, ite_true, ite_false, reduceIte, beq_self_eq_true, Bool.false_eq_true, Nat.zero_add, int_i, add_ii, sub_ii, lt_ii, gt_ii, ge_ii, le_ii, f1, f2, truth]
theorem same_str {S : Sto} {n : Nat} {x : Str} : m__law_same (n + 1) [.str x, .str x] S = .ok (.bl true) S := by
  have f1 : oIsi [.str x, .ty "tuple"] S = some (.bl false, S) := rfl
  have f2 : oIs (.str x) .non S = some (.bl false, S) := rfl
  have f3 : oIs (.str x) (.bl true) S = some (.bl false, S) := rfl
  have f4 : oIs (.str x) (.bl false) S = some (.bl false, S) := rfl
  have f5 : oIsi [.str x, .ty "int"] S = some (.bl false, S) := rfl
  have f6 : oIsi [.str x, .ty "str"] S = some (.bl true, S) := rfl
  have f7 : oEq (.str x) (.str x) S = some (.bl true, S) := by rw [eq_ss, decide_eq_true rfl]
  unfold m__law_same
  generalize m__law_same n = ms
  simp only [mDef, sRet, sSeq, sIf, sExpr, sAsg, sNx, sBk, sCt, sPut, tgN, mBin, mUn, mMeth, mL, mM, mC, mVar, aNil, aCons, mTup, mLst, mIf, mSl, mChain, mAnd2, mOr2, mNot, tBl, tVal, tAnd2, tOr2, tNot2, startE, Rs.bind, Rs.bindS, lift, mCall, mCallC, mCall0, Rs.cold, List.length_cons, List.length_nil, List.map_cons, List.map_nil, List.replicate, List.append_eq, List.cons_append, List.nil_append, List.getElem?_cons_zero, List.getElem?_cons_succ, List.getElem?_nil, List.set_cons_zero, List.set_cons_succ, Nat.sub_self, Nat.reduceSub, Nat.reduceAdd, if_true, if_false, decide_true, decide_false, Option.map_some, Option.map_none, ite_true, ite_false, reduceIte, beq_self_eq_true, Bool.false_eq_true, Nat.zero_add, int_i, add_ii, sub_ii, lt_ii, gt_ii, ge_ii, le_ii, f1, f2, f3, f4, f5, f6, f7, truth]
theorem ix_tup {S : Sto} {ds : List D} {k : Nat} {d : D} (h : ds[k]? = some d) : oIx (.tup ds) (.int (k : Int)) S = some (d, S) := by
  have hk : k < ds.length := (List.getElem?_eq_some_iff.mp h).1
  show (L2.atI ds (k : Int)).map (fun d => (d, S)) = _
  unfold L2.atI
  rw [ixN_nat hk]
  show (ds[k]?).map (fun d => (d, S)) = _
  rw [h]; rfl
theorem len_tup {S : Sto} {ds : List D} : oLen [.tup ds] S = some (.int ds.length, S) := rfl
theorem rg1_of {ma : MA} {n : Nat} {e : Nv} {S S1 : Sto} (h : ma e S = .ok [.int (n : Int)] S1) (hn : n < 1000) : iRg1 ma e S = .ok (itR 0 1 n) S1 := by
  simp only [iRg1, h, Rs.bind]
  have h1 : (-1000000000000 : Int) ≤ (n : Int) := by omega
  have h2 : (n : Int) < 1000000000000 := by omega
  rw [if_pos ⟨h1, h2⟩, Int.toNat_natCast]
theorem for_r1 {ma : MA} {n : Nat} {tg : Tg} {body : MS} {e : Nv} {S : Sto} (h : ma e S = .ok [.int (n : Int)] S) (hn : n < 1000) : sFor (iRg1 ma) tg body e S = loopM (itR 0 1 n) tg body n 0 e S := by
  have f := rg1_of h hn
  unfold sFor
  rw [f]
  rfl
abbrev sameBody (ms : MF) : MS := (sIf (tNot2 (tVal (mCall ms (aCons (mBin oIx (mVar 0) (mVar 2)) (aCons (mBin oIx (mVar 1) (mVar 2)) aNil))))) (sRet (mC (.bl false))) sNx)
theorem same_body {S : Sto} {ds : List D} {ms : MF} {i : Nat} {d : D} (e1 : ds[i]? = some d) (h : ms [d, d] S = .ok (.bl true) S) : sameBody ms [some (.tup ds), some (.tup ds), some (.int (i : Int))] S = .nx [some (.tup ds), some (.tup ds), some (.int (i : Int))] S := by
  have f3 := ix_tup (S := S) e1
  unfold sameBody
  simp only [mDef, sRet, sSeq, sIf, sExpr, sAsg, sNx, sBk, sCt, sPut, tgN, mBin, mUn, mMeth, mL, mM, mC, mVar, aNil, aCons, mTup, mLst, mIf, mSl, mChain, mAnd2, mOr2, mNot, tBl, tVal, tAnd2, tOr2, tNot2, startE, Rs.bind, Rs.bindS, lift, mCall, mCallC, mCall0, Rs.cold, List.length_cons, List.length_nil, List.map_cons, List.map_nil, List.replicate, List.append_eq, List.cons_append, List.nil_append, List.getElem?_cons_zero, List.getElem?_cons_succ, List.getElem?_nil, List.set_cons_zero, List.set_cons_succ, Nat.sub_self, Nat.reduceSub, Nat.reduceAdd, if_true, if_false, decide_true, decide_false, Option.map_some, Option.map_none, ite_true, ite_false, reduceIte, beq_self_eq_true, Bool.false_eq_true, Nat.zero_add, int_i, add_ii, sub_ii, lt_ii, gt_ii, ge_ii, le_ii, f3, h, truth, Bool.not_true]
theorem same_loop {S : Sto} {ds : List D} {ms : MF} (hz : ds.length < 1000) (h : ∀ d ∈ ds, ms [d, d] S = .ok (.bl true) S) :
    ∃ x, (sFor (iRg1 (aCons (mL oLen (aCons (mVar 1) aNil)) aNil)) (tgN 2) (sameBody ms)) [some (.tup ds), some (.tup ds), none] S = .nx [some (.tup ds), some (.tup ds), x] S := by
  have hr : (aCons (mL oLen (aCons (mVar 1) aNil)) aNil) [some (.tup ds), some (.tup ds), none] S = .ok [.int (ds.length : Int)] S := by simp only [mDef, sRet, sSeq, sIf, sExpr, sAsg, sNx, sBk, sCt, sPut, tgN, mBin, mUn, mMeth, mL, mM, mC, mVar, aNil, aCons, mTup, mLst, mIf, mSl, mChain, mAnd2, mOr2, mNot, tBl, tVal, tAnd2, tOr2, tNot2, startE, Rs.bind, Rs.bindS, lift, mCall, mCallC, mCall0, Rs.cold, List.length_cons, List.length_nil, List.map_cons, List.map_nil, List.replicate, List.append_eq, List.cons_append, List.nil_append, List.getElem?_cons_zero, List.getElem?_cons_succ, List.getElem?_nil, List.set_cons_zero, List.set_cons_succ, Nat.sub_self, Nat.reduceSub, Nat.reduceAdd, if_true, if_false, decide_true, decide_false, Option.map_some, Option.map_none, ite_true, ite_false, reduceIte, beq_self_eq_true, Bool.false_eq_true, Nat.zero_add, int_i, add_ii, sub_ii, lt_ii, gt_ii, ge_ii, le_ii, len_tup]
  rw [for_r1 hr hz]
  refine loop_r (Post := fun r => ∃ x, r = .nx [some (.tup ds), some (.tup ds), x] S) (fun i e S1 => ∃ x, e = [some (.tup ds), some (.tup ds), x] ∧ S1 = S) ?_ ?_ _ _ ⟨none, rfl, rfl⟩
  · rintro i e S1 hi ⟨x, rfl, rfl⟩
    have e0 : (0 : Int) + (i : Int) = (i : Int) := by omega
    have e1 : ds[i]? = some ds[i] := List.getElem?_eq_getElem hi
    have q := same_body (S := S1) e1 (h ds[i] (List.getElem_mem hi))
    rw [e0]
    simp only [List.set_cons_succ, List.set_cons_zero]
    rw [q]
    exact ⟨_, rfl, rfl⟩
  · rintro e S1 ⟨x, rfl, rfl⟩
    exact ⟨x, rfl⟩
theorem same_in {S : Sto} {ds : List D} {fl : MS} {x : Option D} (hl : fl [some (.tup ds), some (.tup ds), none] S = .nx [some (.tup ds), some (.tup ds), x] S) :
    (sSeq (sIf (tOr2 (tNot2 (tVal (mL oIsi (aCons (mVar 0) (aCons (mC (.ty "tuple")) aNil))))) (tBl (mBin oNe (mL oLen (aCons (mVar 0) aNil)) (mL oLen (aCons (mVar 1) aNil))))) (sRet (mC (.bl false))) sNx) (sSeq fl (sRet (mC (.bl true))))) [some (.tup ds), some (.tup ds), none] S = .rt (.bl true) S := by
  have f1 : oIsi [.tup ds, .ty "tuple"] S = some (.bl true, S) := rfl
  have f2 : oNe (.int (ds.length : Int)) (.int (ds.length : Int)) S = some (.bl false, S) := by rw [ne_ii, decide_eq_true rfl]; rfl
  have t1 : tOr2 (tNot2 (tVal (mL oIsi (aCons (mVar 0) (aCons (mC (.ty "tuple")) aNil))))) (tBl (mBin oNe (mL oLen (aCons (mVar 0) aNil)) (mL oLen (aCons (mVar 1) aNil)))) [some (.tup ds), some (.tup ds), none] S = .ok false S := by
    simp only [mDef, sRet, sSeq, sIf, sExpr, sAsg, sNx, sBk, sCt, sPut, tgN, mBin, mUn, mMeth, mL, mM, mC, mVar, aNil, aCons, mTup, mLst, mIf, mSl, mChain, mAnd2, mOr2, mNot, tBl, tVal, tAnd2, tOr2, tNot2, startE, Rs.bind, Rs.bindS, lift, mCall, mCallC, mCall0, Rs.cold, List.length_cons, List.length_nil, List.map_cons, List.map_nil, List.replicate, List.append_eq, List.cons_append, List.nil_append, List.getElem?_cons_zero, List.getElem?_cons_succ, List.getElem?_nil, List.set_cons_zero, List.set_cons_succ, Nat.sub_self, Nat.reduceSub, Nat.reduceAdd, if_true, if_false, decide_true, decide_false, Option.map_some, Option.map_none, ite_true, ite_false, reduceIte, beq_self_eq_true, Bool.false_eq_true, Nat.zero_add, int_i, add_ii, sub_ii, lt_ii, gt_ii, ge_ii, le_ii, f1, f2, len_tup, truth, Bool.not_true]
  generalize (tOr2 (tNot2 (tVal (mL oIsi (aCons (mVar 0) (aCons (mC (.ty "tuple")) aNil))))) (tBl (mBin oNe (mL oLen (aCons (mVar 0) aNil)) (mL oLen (aCons (mVar 1) aNil))))) = tt at t1 ⊢
  simp only [mDef, sRet, sSeq, sIf, sExpr, sAsg, sNx, sBk, sCt, sPut, tgN, mBin, mUn, mMeth, mL, mM, mC, mVar, aNil, aCons, mTup, mLst, mIf, mSl, mChain, mAnd2, mOr2, mNot, tBl, tVal, tAnd2, tOr2, tNot2, startE, Rs.bind, Rs.bindS, lift, mCall, mCallC, mCall0, Rs.cold, List.length_cons, List.length_nil, List.map_cons, List.map_nil, List.replicate, List.append_eq, List.cons_append, List.nil_append, List.getElem?_cons_zero, List.getElem?_cons_succ, List.getElem?_nil, List.set_cons_zero, List.set_cons_succ, Nat.sub_self, Nat.reduceSub, Nat.reduceAdd, if_true, if_false, decide_true, decide_false, Option.map_some, Option.map_none, ite_true, ite_false, reduceIte, beq_self_eq_true, Bool.false_eq_true, Nat.zero_add, int_i, add_ii, sub_ii, lt_ii, gt_ii, ge_ii, le_ii, t1, hl]
theorem same_tup {S : Sto} {n : Nat} {ds : List D} (hz : ds.length < 1000) (h : ∀ d ∈ ds, m__law_same n [d, d] S = .ok (.bl true) S) : m__law_same (n + 1) [.tup ds, .tup ds] S = .ok (.bl true) S := by
  have f1 : oIsi [.tup ds, .ty "tuple"] S = some (.bl true, S) := rfl
  obtain ⟨x, hl⟩ := same_loop (S := S) hz h
  have hA := same_in hl
  unfold m__law_same
  generalize m__law_same n = ms at hA ⊢
  generalize (sSeq (sIf (tOr2 (tNot2 (tVal (mL oIsi (aCons (mVar 0) (aCons (mC (.ty "tuple")) aNil))))) (tBl (mBin oNe (mL oLen (aCons (mVar 0) aNil)) (mL oLen (aCons (mVar 1) aNil))))) (sRet (mC (.bl false))) sNx) (sSeq (sFor (iRg1 (aCons (mL oLen (aCons (mVar 1) aNil)) aNil)) (tgN 2) (sameBody ms)) (sRet (mC (.bl true))))) = fA at hA ⊢
  generalize (sSeq (sIf (tBl (mBin oIs (mVar 1) (mC .non))) (sRet (mBin oIs (mVar 0) (mC .non))) sNx) _) = fB
  simp only [mDef, sRet, sSeq, sIf, sExpr, sAsg, sNx, sBk, sCt, sPut, tgN, mBin, mUn, mMeth, mL, mM, mC, mVar, aNil, aCons, mTup, mLst, mIf, mSl, mChain, mAnd2, mOr2, mNot, tBl, tVal, tAnd2, tOr2, tNot2, startE, Rs.bind, Rs.bindS, lift, mCall, mCallC, mCall0, Rs.cold, List.length_cons, List.length_nil, List.map_cons, List.map_nil, List.replicate, List.append_eq, List.cons_append, List.nil_append, List.getElem?_cons_zero, List.getElem?_cons_succ, List.getElem?_nil, List.set_cons_zero, List.set_cons_succ, Nat.sub_self, Nat.reduceSub, Nat.reduceAdd, if_true, if_false, decide_true, decide_false, Option.map_some, Option.map_none, ite_true, ite_false, reduceIte, beq_self_eq_true, Bool.false_eq_true, Nat.zero_add, int_i, add_ii, sub_ii, lt_ii, gt_ii, ge_ii, le_ii, f1, truth, hA]
end K29
end

section
set_option Elab.async false
set_option linter.all false
set_option maxRecDepth 100000
/-! P9: law k29, plainly: what is drawn. -/
namespace K29
open PySem PySem.Spec M2 P0
set_option autoImplicit false
/-- the box at b with its digits told -/
structure BoxD (S : Sto) (b k dl : Nat) (ds : List Int) : Prop where
  at_ : S[b]? = some (.lst true [.loc dl, .int (k : Int)])
  dig : S[dl]? = some (.lst true (ds.map .int))
  ne : dl ≠ b
  ok : Dig ds
/-- c draws at most -/
structure Stp (b dl : Nat) (ds : List Int) (c : Nat) (S : Sto) (k : Nat) (S' : Sto) (k' : Nat) : Prop where
  ext : Ext b S S'
  box : BoxD S' b k' dl ds
  le : k' ≤ k + c
section
variable {b dl k k' k'' c c' : Nat} {ds : List Int} {S S' S'' : Sto}
theorem BoxD.lt (h : BoxD S b k dl ds) : b < S.length := (List.getElem?_eq_some_iff.mp h.at_).1
theorem BoxD.gr (h : BoxD S b k dl ds) (g : Gr S S') : BoxD S' b k dl ds := ⟨g.get h.at_, g.get h.dig, h.ne, h.ok⟩
theorem Stp.refl (h : BoxD S b k dl ds) : Stp b dl ds 0 S k S k := ⟨Ext.refl _ _, h, Nat.le_refl _⟩
theorem Stp.trans (h : Stp b dl ds c S k S' k') (g : Stp b dl ds c' S' k' S'' k'') : Stp b dl ds (c + c') S k S'' k'' := ⟨h.ext.trans g.ext, g.box, by have := h.le; have := g.le; omega⟩
theorem Stp.gr (h : BoxD S b k dl ds) (g : Gr S S') : Stp b dl ds 0 S k S' k := ⟨g.ext b, h.gr g, Nat.le_refl _⟩
theorem Stp.mono (h : Stp b dl ds c S k S' k') (hc : c ≤ c') : Stp b dl ds c' S k S' k' := ⟨h.ext, h.box, by have := h.le; omega⟩
/-- one draw -/
theorem draw_st {many : Int} (B : BoxD S b k dl ds) (hk : k < 2 ^ 200) (hm : 0 < many) : ∃ r S', 0 ≤ r ∧ r < many ∧ m__law_draw [.loc b, .int many] S = .ok (.int r) S' ∧ Stp b dl ds 1 S k S' (k + 1) ∧ S'.length = S.length := by
  obtain ⟨r1, r2⟩ := drawV_range (ds := ds) (k := k) hm
  refine ⟨_, _, r1, r2, draw_eq B.at_ B.dig B.ne hk hm, ⟨Ext.set, ⟨?_, ?_, B.ne, B.ok⟩, by omega⟩, by simp⟩
  · rw [List.getElem?_set_self B.lt]
  · rw [List.getElem?_set_ne (Ne.symm B.ne)]; exact B.dig
end
theorem ix_mem {S : Sto} {n : Nat} {w : Bool} {ds : List D} {r : Int} (h : S[n]? = some (.lst w ds)) (h0 : 0 ≤ r) (h1 : r < ds.length) : ∃ d ∈ ds, oIx (.loc n) (.int r) S = some (d, S) := by
  have hk : r.toNat < ds.length := by omega
  have e : (r.toNat : Int) = r := by omega
  have q := ix_lst h (List.getElem?_eq_getElem hk)
  rw [e] at q
  exact ⟨_, List.getElem_mem hk, q⟩
theorem ix_str {S : Sto} {x : Str} {r : Int} (hl : x.length ≤ sizeLine) (h0 : 0 ≤ r) (h1 : r < x.length) : ∃ c ∈ x.cps.toList, oIx (.str x) (.int r) S = some (.str (one c), S) := by
  have hs : x.cps.toList.length = x.length := by simp [Str.length]
  have hk : r.toNat < x.cps.toList.length := by omega
  have e : (r.toNat : Int) = r := by omega
  refine ⟨x.cps.toList[r.toNat], List.getElem_mem hk, ?_⟩
  show (if x.length ≤ sizeLine then (L2.atI x.cps.toList r).map fun c => (D.str ⟨#[c]⟩, S) else none) = _
  rw [if_pos hl]
  have q : L2.atI x.cps.toList r = some x.cps.toList[r.toNat] := by
    unfold L2.atI
    have q2 : L2.ixN x.cps.toList.length r = some r.toNat := by rw [← e]; exact ixN_nat hk
    rw [q2]
    exact List.getElem?_eq_getElem hk
  rw [q]; rfl
abbrev SIGNS : Str := "\n !\"#$&'()*+,-./0123456789:;<=>?@ABCDEFGHIJKLMNOPQRSTUVWXYZ[\\]^_`abcdefghijklmnopqrstuvwxyz{|}~"
/-- a drawn text -/
def Word (x : Str) : Prop := x.length ≤ 100 ∧ ∀ c ∈ x.cps.toList, c ∈ SIGNS.cps.toList
theorem signs_small : ∀ c ∈ SIGNS.cps.toList, c < 0x110000 := by
  have : (SIGNS.cps.toList.all fun c => decide (c < 0x110000)) = true := by decide +kernel
  intro c hc
  have := List.all_eq_true.mp this c hc
  exact of_decide_eq_true this
theorem Word.ok {x : Str} (h : Word x) : TextOk x := by
  refine ⟨by have := h.1; omega, ?_⟩
  unfold PyData.strOk
  rw [Array.all_eq_true_iff_forall_mem]
  intro c hc
  exact decide_eq_true (signs_small c (h.2 c (by simpa using hc)))
theorem join_cs : ∀ cs : List Nat, (Txt.join "" (cs.map one)).cps.toList = cs := by
  have e0 : (("" : Str) : Str) = Str.empty := by decide +kernel
  have key : ∀ cs : List Nat, (Str.join "" (cs.map one)).cps.toList = cs := by
    intro cs
    rw [e0]
    induction cs with
    | nil => rfl
    | cons c cs ih =>
      cases cs with
      | nil => rfl
      | cons d r =>
        have e : Str.join Str.empty ((c :: d :: r).map one) = one c ++ Str.empty ++ Str.join Str.empty ((d :: r).map one) := rfl
        rw [e, Str.append_empty]
        have e2 : (one c ++ Str.join Str.empty ((d :: r).map one)).cps = (one c).cps ++ (Str.join Str.empty ((d :: r).map one)).cps := rfl
        rw [e2, Array.toList_append, ih]
        rfl
  intro cs
  have e : Txt.join "" (cs.map one) = Str.join "" (cs.map one) := PySem.StrLaws.glued_eq_join _ _
  rw [e]
  exact key cs
theorem join_word {cs : List Nat} (hl : cs.length ≤ 100) (h : ∀ c ∈ cs, c ∈ SIGNS.cps.toList) : Word (Txt.join "" (cs.map one)) := by
  have e := join_cs cs
  refine ⟨?_, fun c hc => h c (by rw [e] at hc; exact hc)⟩
  have : (Txt.join "" (cs.map one)).length = cs.length := by
    rw [← congrArg List.length e]
    simp [Str.length]
  omega
/-- the signs' rows that words are drawn of -/
def rows5 : List Str := ["abcdefghijklmnopqrstuvwxyz", "az09", "aZ-", "a b_", "ab"]
theorem rows_ok : ∀ z ∈ rows5, 0 < z.length ∧ z.length ≤ 26 ∧ ∀ c ∈ z.cps.toList, c ∈ SIGNS.cps.toList := by
  have : (rows5.all fun z => decide (0 < z.length) && (decide (z.length ≤ 26) && z.cps.toList.all fun c => decide (c ∈ SIGNS.cps.toList))) = true := by decide +kernel
  intro z hz
  have := List.all_eq_true.mp this z hz
  simp only [Bool.and_eq_true, decide_eq_true_eq, List.all_eq_true] at this
  exact this
/-- the comprehension of a word -/
theorem word_comp {S : Sto} {b k dl many : Nat} {ds : List Int} {z : Str} (B : BoxD S b k dl ds) (hk : k < 2 ^ 199) (hm : many ≤ 13) (h1 : 0 < z.length) (h2 : z.length ≤ 26) (hz : ∀ c ∈ z.cps.toList, c ∈ SIGNS.cps.toList) :
    ∃ (cs : List Nat) (S' : Sto) (k' : Nat), mLcC (iRg1 (aCons (mVar 2) aNil)) (tgN 3) tOk (mBin oIx (mVar 1) (mBin oMod (mL oInt (aCons (mCallC m__law_draw (aCons (mVar 0) (aCons (mC (.int 900)) aNil))) aNil)) (mL oLen (aCons (mVar 1) aNil)))) [3]
        [some (.loc b), some (.str z), some (.int (many : Int)), none] S = .ok (.loc S.length) S' ∧ S'[S.length]? = some (.lst true ((cs.map one).map .str)) ∧ cs.length ≤ 100 ∧ (∀ c ∈ cs, c ∈ SIGNS.cps.toList) ∧ Stp b dl ds 13 S k S' k' := by
  have hI : iRg1 (aCons (mVar 2) aNil) [some (.loc b), some (.str z), some (.int (many : Int)), none] S = .ok (itR 0 1 many) S := by
    exact rg1_of (by simp only [mDef, sRet, sSeq, sIf, sExpr, sAsg, sNx, sBk, sCt, sPut, tgN, mBin, mUn, mMeth, mL, mM, mC, mVar, aNil, aCons, mTup, mLst, mIf, mSl, mChain, mAnd2, mOr2, mNot, tBl, tVal, tAnd2, tOr2, tNot2, startE, Rs.bind, Rs.bindS, lift, mCall, mCallC, mCall0, Rs.cold, List.length_cons, List.length_nil, List.map_cons, List.map_nil, List.replicate, List.append_eq, List.cons_append, List.nil_append, List.getElem?_cons_zero, List.getElem?_cons_succ, List.getElem?_nil, List.set_cons_zero, List.set_cons_succ, Nat.sub_self, Nat.reduceSub, Nat.reduceAdd, if_true, if_false, decide_true, decide_false, Option.map_some, Option.map_none, ite_true, ite_false, reduceIte, beq_self_eq_true, Bool.false_eq_true, Nat.zero_add, int_i, add_ii, sub_ii, lt_ii, gt_ii, ge_ii, le_ii]) (by omega)
  have hbl := B.lt
  have hzl : z.length ≤ sizeLine := by rw [sizeLine_eq]; omega
  obtain ⟨ys, S', c1, c2, c3, c4, c5⟩ := lc_range (lo := 0) (cnt := many) (n := S.length) (j := 3) (me := mBin oIx (mVar 1) (mBin oMod (mL oInt (aCons (mCallC m__law_draw (aCons (mVar 0) (aCons (mC (.int 900)) aNil))) aNil)) (mL oLen (aCons (mVar 1) aNil)))) (e := wipeE [some (.loc b), some (.str z), some (.int (many : Int)), none] [3])
    (P := fun d => ∃ c, d = .str (one c) ∧ c ∈ SIGNS.cps.toList) (fun i S1 => S.length < S1.length ∧ ∃ k1, Stp b dl ds i S k S1 k1) (fun i S1 ys ⟨hl, k1, q⟩ => ⟨by rw [List.length_set]; exact hl, k1, q.ext.set_new (Nat.le_refl _), ⟨by rw [List.getElem?_set_ne (by omega)]; exact q.box.at_, by
      rw [List.getElem?_set_ne (by have := (List.getElem?_eq_some_iff.mp B.dig).1; omega)]; exact q.box.dig, q.box.ne, q.box.ok⟩, q.le⟩) (fun i S1 hi ⟨hl, k1, q⟩ => by
      have hk1 : k1 < 2 ^ 200 := by have := q.le; omega
      obtain ⟨r, S2, r1, r2, r3, r4, r5⟩ := draw_st (many := 900) q.box hk1 (by decide)
      have hm2 : oMod (.int r) (.int (z.length : Int)) S2 = some (.int (r % z.length), S2) := mod_ii (by omega)
      obtain ⟨c, hc, hx⟩ := ix_str (S := S2) (x := z) (r := r % z.length) hzl (Int.emod_nonneg _ (by omega)) (Int.emod_lt_of_pos _ (by omega))
      refine ⟨.str (one c), S2, ?_, ⟨c, rfl, hz c hc⟩, ⟨by omega, _, (q.trans r4)⟩, ?_⟩
      · generalize m__law_draw = md at r3 ⊢
        simp only [mDef, sRet, sSeq, sIf, sExpr, sAsg, sNx, sBk, sCt, sPut, tgN, mBin, mUn, mMeth, mL, mM, mC, mVar, aNil, aCons, mTup, mLst, mIf, mSl, mChain, mAnd2, mOr2, mNot, tBl, tVal, tAnd2, tOr2, tNot2, startE, Rs.bind, Rs.bindS, lift, mCall, mCallC, mCall0, Rs.cold, List.length_cons, List.length_nil, List.map_cons, List.map_nil, List.replicate, List.append_eq, List.cons_append, List.nil_append, List.getElem?_cons_zero, List.getElem?_cons_succ, List.getElem?_nil, List.set_cons_zero, List.set_cons_succ, Nat.sub_self, Nat.reduceSub, Nat.reduceAdd, if_true, if_false, decide_true, decide_false, Option.map_some, Option.map_none, ite_true, ite_false, reduceIte, beq_self_eq_true, Bool.false_eq_true, Nat.zero_add, int_i, add_ii, sub_ii, lt_ii, gt_ii, ge_ii, le_ii, wipeE, r3, len_s hzl, hm2, hx]
      · exact r4.ext.2 _ hl (by omega)) (by rw [sizeLine_eq]; omega) (S ++ [.lst true []]) ⟨by simp, k, (Stp.gr B (Gr.one _ _))⟩ (by simp)
  obtain ⟨_, k', q⟩ := c5
  have hcs : ∃ cs : List Nat, ys = (cs.map one).map .str ∧ ∀ c ∈ cs, c ∈ SIGNS.cps.toList := by
    clear c1 c2 c3
    induction ys with
    | nil => exact ⟨[], rfl, fun c hc => by cases hc⟩
    | cons y ys ih =>
      obtain ⟨c, rfl, hc⟩ := c4 y List.mem_cons_self
      obtain ⟨cs, e, h⟩ := ih fun z hz => c4 z (List.mem_cons_of_mem _ hz)
      refine ⟨c :: cs, by rw [e]; rfl, fun d hd => ?_⟩
      rcases List.mem_cons.mp hd with q | q
      · rw [q]; exact hc
      · exact h d q
  obtain ⟨cs, e, h⟩ := hcs
  refine ⟨cs, S', k', ?_, by rw [← e]; exact c2, ?_, h, q.mono hm⟩
  · unfold mLcC
    rw [hI]
    simp only [Rs.bind]
    show (loopC (itR 0 1 many) (tgN 3) tOk _ S.length _ many 0 (S ++ [.lst true []])).cold = _
    rw [c1]
    rfl
  · have := c3
    rw [e, List.length_map, List.length_map] at this
    omega

theorem join_step {e : Nv} {S S' : Sto} {ml : MV} {n : Nat} {J : Str} (w1 : ml e S = .ok (.loc n) S') (f1 : oJoin (.str "") [.loc n] S' = some (.str J, S')) : mMeth "str" oJoin (mC (.str "")) (aCons ml aNil) e S = .ok (.str J) S' := by
  have f2 : rcvD S (.str "") "str" = true := rfl
  simp only [mDef, sRet, sSeq, sIf, sExpr, sAsg, sNx, sBk, sCt, sPut, tgN, mBin, mUn, mMeth, mL, mM, mC, mVar, aNil, aCons, mTup, mLst, mIf, mSl, mChain, mAnd2, mOr2, mNot, tBl, tVal, tAnd2, tOr2, tNot2, startE, Rs.bind, Rs.bindS, lift, mCall, mCallC, mCall0, Rs.cold, List.length_cons, List.length_nil, List.map_cons, List.map_nil, List.replicate, List.append_eq, List.cons_append, List.nil_append, List.getElem?_cons_zero, List.getElem?_cons_succ, List.getElem?_nil, List.set_cons_zero, List.set_cons_succ, Nat.sub_self, Nat.reduceSub, Nat.reduceAdd, if_true, if_false, decide_true, decide_false, Option.map_some, Option.map_none, ite_true, ite_false, reduceIte, beq_self_eq_true, Bool.false_eq_true, Nat.zero_add, int_i, add_ii, sub_ii, lt_ii, gt_ii, ge_ii, le_ii, f2, w1, f1]
theorem run3 {a d1 d2 d3 : D} {S S1 S2 S3 : Sto} {x1 x2 x3 : MV} (e1 : x1 [some a, none, none, none] S = .ok d1 S1) (e2 : x2 [some a, some d1, none, none] S1 = .ok d2 S2) (e3 : x3 [some a, some d1, some d2, none] S2 = .ok d3 S3) :
    mDef 4 1 (sSeq (sAsg x1 (tgN 1)) (sSeq (sAsg x2 (tgN 2)) (sRet x3))) [a] S = .ok d3 S3 := by
  simp only [mDef, sRet, sSeq, sIf, sExpr, sAsg, sNx, sBk, sCt, sPut, tgN, mBin, mUn, mMeth, mL, mM, mC, mVar, aNil, aCons, mTup, mLst, mIf, mSl, mChain, mAnd2, mOr2, mNot, tBl, tVal, tAnd2, tOr2, tNot2, startE, Rs.bind, Rs.bindS, lift, mCall, mCallC, mCall0, Rs.cold, List.length_cons, List.length_nil, List.map_cons, List.map_nil, List.replicate, List.append_eq, List.cons_append, List.nil_append, List.getElem?_cons_zero, List.getElem?_cons_succ, List.getElem?_nil, List.set_cons_zero, List.set_cons_succ, Nat.sub_self, Nat.reduceSub, Nat.reduceAdd, if_true, if_false, decide_true, decide_false, Option.map_some, Option.map_none, ite_true, ite_false, reduceIte, beq_self_eq_true, Bool.false_eq_true, Nat.zero_add, int_i, add_ii, sub_ii, lt_ii, gt_ii, ge_ii, le_ii, e1, e2, e3]
theorem word_ok {S : Sto} {b k dl : Nat} {ds : List Int} (B : BoxD S b k dl ds) (hk : k < 2 ^ 198) : ∃ (x : Str) (S' : Sto) (k' : Nat), m__law_word [.loc b] S = .ok (.str x) S' ∧ Word x ∧ Stp b dl ds 16 S k S' k' := by
  -- the row of signs
  generalize hL : ([.str "abcdefghijklmnopqrstuvwxyz", .str "az09", .str "aZ-", .str "a b_", .str "ab"] : List D) = L
  have zL : L.length ≤ sizeLine := by rw [← hL, sizeLine_eq]; show 5 ≤ 16777216; omega
  have g1 := Stp.gr B (Gr.one S (.lst true L))
  obtain ⟨r1, S1, a1, a2, a3, a4, a5⟩ := draw_st (many := 5) g1.box (by omega) (by decide)
  have hS1 : S1[S.length]? = some (.lst true L) := by
    have q := a4.ext.2 S.length (by simp) (by have := B.lt; omega)
    rw [q]; simp
  obtain ⟨d, hd, hx⟩ := ix_mem (r := r1) hS1 a1 (by rw [← hL]; exact a2)
  have hz : ∃ z, d = .str z ∧ z ∈ rows5 := by
    rw [← hL] at hd
    have : ([.str "abcdefghijklmnopqrstuvwxyz", .str "az09", .str "aZ-", .str "a b_", .str "ab"] : List D) = rows5.map D.str := rfl
    rw [this] at hd
    obtain ⟨z, hz, rfl⟩ := List.mem_map.mp hd
    exact ⟨z, rfl, hz⟩
  obtain ⟨z, rfl, hz⟩ := hz
  obtain ⟨hz1, hz2, hz3⟩ := rows_ok z hz
  -- how many
  obtain ⟨r2, S2, b1, b2, b3, b4, b5⟩ := draw_st (many := 6) a4.box (by omega) (by decide)
  generalize hM : ([.int 1, .int (1 + r2), .int 8, .int 9, .int 12, .int 13] : List D) = M
  have zM : M.length ≤ sizeLine := by rw [← hM, sizeLine_eq]; show 6 ≤ 16777216; omega
  have g2 := Stp.gr b4.box (Gr.one S2 (.lst true M))
  obtain ⟨r3, S3, c1, c2, c3, c4, c5⟩ := draw_st (many := 6) g2.box (by omega) (by decide)
  have hS3 : S3[S2.length]? = some (.lst true M) := by
    have q := c4.ext.2 S2.length (by simp) (by have := b4.box.lt; omega)
    rw [q]; simp
  obtain ⟨d, hd, hy⟩ := ix_mem (r := r3) hS3 c1 (by rw [← hM]; exact c2)
  have hm : ∃ m : Nat, d = .int (m : Int) ∧ m ≤ 13 := by
    rw [← hM] at hd
    simp only [List.mem_cons, List.not_mem_nil, or_false] at hd
    rcases hd with q | q | q | q | q | q
    · exact ⟨1, q, by omega⟩
    · exact ⟨(1 + r2).toNat, by rw [q]; congr 1; omega, by omega⟩
    · exact ⟨8, q, by omega⟩
    · exact ⟨9, q, by omega⟩
    · exact ⟨12, q, by omega⟩
    · exact ⟨13, q, by omega⟩
  obtain ⟨m, rfl, hm⟩ := hm
  obtain ⟨cs, S', k', w1, w2, w3, w4, w5⟩ := word_comp (z := z) (many := m) c4.box (by omega) hm hz1 hz2 hz3
  have f1 := join_one w2 (by omega)
  have hW := join_word w3 w4
  generalize Txt.join "" (cs.map one) = J at f1 hW
  have f2 : rcvD S3 (.str "") "str" = true := rfl
  refine ⟨J, S', k', ?_, hW, ?_⟩
  · have e1 : mBin oIx (mLst (aCons (mC (.str "abcdefghijklmnopqrstuvwxyz")) (aCons (mC (.str "az09")) (aCons (mC (.str "aZ-")) (aCons (mC (.str "a b_")) (aCons (mC (.str "ab")) aNil)))))) (mCall m__law_draw (aCons (mVar 0) (aCons (mC (.int 5)) aNil))) [some (.loc b), none, none, none] S = .ok (.str z) S1 := by
      generalize m__law_draw = md at a3 ⊢
      simp only [mDef, sRet, sSeq, sIf, sExpr, sAsg, sNx, sBk, sCt, sPut, tgN, mBin, mUn, mMeth, mL, mM, mC, mVar, aNil, aCons, mTup, mLst, mIf, mSl, mChain, mAnd2, mOr2, mNot, tBl, tVal, tAnd2, tOr2, tNot2, startE, Rs.bind, Rs.bindS, lift, mCall, mCallC, mCall0, Rs.cold, List.length_cons, List.length_nil, List.map_cons, List.map_nil, List.replicate, List.append_eq, List.cons_append, List.nil_append, List.getElem?_cons_zero, List.getElem?_cons_succ, List.getElem?_nil, List.set_cons_zero, List.set_cons_succ, Nat.sub_self, Nat.reduceSub, Nat.reduceAdd, if_true, if_false, decide_true, decide_false, Option.map_some, Option.map_none, ite_true, ite_false, reduceIte, beq_self_eq_true, Bool.false_eq_true, Nat.zero_add, int_i, add_ii, sub_ii, lt_ii, gt_ii, ge_ii, le_ii, hL, zL, a3, hx]
    have e2 : mBin oIx (mLst (aCons (mC (.int 1)) (aCons (mBin oAdd (mC (.int 1)) (mCall m__law_draw (aCons (mVar 0) (aCons (mC (.int 6)) aNil)))) (aCons (mC (.int 8)) (aCons (mC (.int 9)) (aCons (mC (.int 12)) (aCons (mC (.int 13)) aNil))))))) (mCall m__law_draw (aCons (mVar 0) (aCons (mC (.int 6)) aNil))) [some (.loc b), some (.str z), none, none] S1 = .ok (.int (m : Int)) S3 := by
      generalize m__law_draw = md at b3 c3 ⊢
      simp only [mDef, sRet, sSeq, sIf, sExpr, sAsg, sNx, sBk, sCt, sPut, tgN, mBin, mUn, mMeth, mL, mM, mC, mVar, aNil, aCons, mTup, mLst, mIf, mSl, mChain, mAnd2, mOr2, mNot, tBl, tVal, tAnd2, tOr2, tNot2, startE, Rs.bind, Rs.bindS, lift, mCall, mCallC, mCall0, Rs.cold, List.length_cons, List.length_nil, List.map_cons, List.map_nil, List.replicate, List.append_eq, List.cons_append, List.nil_append, List.getElem?_cons_zero, List.getElem?_cons_succ, List.getElem?_nil, List.set_cons_zero, List.set_cons_succ, Nat.sub_self, Nat.reduceSub, Nat.reduceAdd, if_true, if_false, decide_true, decide_false, Option.map_some, Option.map_none, ite_true, ite_false, reduceIte, beq_self_eq_true, Bool.false_eq_true, Nat.zero_add, int_i, add_ii, sub_ii, lt_ii, gt_ii, ge_ii, le_ii, b3, hM, zM, c3, hy]
    have e3 := join_step w1 f1
    exact run3 e1 e2 e3
  · exact ((((g1.trans a4).trans b4).trans g2).trans c4 |>.trans w5).mono (by omega)
end K29
end

section
set_option Elab.async false
set_option linter.all false
set_option maxRecDepth 100000
/-! P10: law k29, plainly: things. -/
namespace K29
open PySem PySem.Spec M2 P0
set_option autoImplicit false
/-- an atom -/
def Atom (d : D) : Prop := (∃ x, d = .str x ∧ Word x) ∨ d = .non ∨ (∃ b, d = .bl b) ∨ ∃ i, d = .int i ∧ -10000 ≤ i ∧ i ≤ 10000
/-- a thing: an atom, a tuple or a list of atoms -/
def Thing (S : Sto) (d : D) : Prop := Atom d ∨ (∃ xs, d = .tup xs ∧ xs.length ≤ 20 ∧ ∀ x ∈ xs, Atom x) ∨ ∃ n xs, d = .loc n ∧ S[n]? = some (.lst true xs) ∧ xs.length ≤ 20 ∧ ∀ x ∈ xs, Atom x
/-- a comprehension over range(cnt) whose elements draw -/
theorem comp_draw {S : Sto} {b k dl cnt c j : Nat} {ds : List Int} {me : MV} {e : Nv} {P : D → Prop} (B : BoxD S b k dl ds) (hk : k < 2 ^ 190) (hc : c ≤ 100) (hn : cnt ≤ 1000)
    (hs : ∀ (i : Nat) (S1 : Sto) (k1 : Nat), i < cnt → BoxD S1 b k1 dl ds → k1 < 2 ^ 191 → ∃ y S2 k2, me ((wipeE e [j]).set j (some (.int (0 + (i : Int))))) S1 = .ok y S2 ∧ P y ∧ Stp b dl ds c S1 k1 S2 k2) :
    ∃ ys S' k', (loopC (itR 0 1 cnt) (tgN j) tOk me S.length (wipeE e [j]) cnt 0 (S ++ [.lst true []])).cold = .ok (.loc S.length) S' ∧ S'[S.length]? = some (.lst true ys) ∧ ys.length = cnt ∧ (∀ y ∈ ys, P y) ∧ Stp b dl ds (c * cnt) S k S' k' := by
  have hbl := B.lt
  obtain ⟨ys, S', c1, c2, c3, c4, c5⟩ := lc_range (lo := 0) (cnt := cnt) (n := S.length) (j := j) (me := me) (e := wipeE e [j]) (P := P) (fun i S1 => S.length < S1.length ∧ ∃ k1, Stp b dl ds (c * i) S k S1 k1)
    (fun i S1 ys ⟨hl, k1, q⟩ => ⟨by rw [List.length_set]; exact hl, k1, q.ext.set_new (Nat.le_refl _), ⟨by rw [List.getElem?_set_ne (by omega)]; exact q.box.at_, by
      rw [List.getElem?_set_ne (by have := (List.getElem?_eq_some_iff.mp B.dig).1; omega)]; exact q.box.dig, q.box.ne, q.box.ok⟩, q.le⟩) (fun i S1 hi ⟨hl, k1, q⟩ => by
      have h1 : c * i ≤ 100 * 1000 := Nat.mul_le_mul hc (by omega)
      have hk1 : k1 < 2 ^ 191 := by have := q.le; omega
      obtain ⟨y, S2, k2, r1, r2, r3⟩ := hs i S1 k1 hi q.box hk1
      refine ⟨y, S2, r1, r2, ⟨Nat.lt_of_lt_of_le hl r3.ext.1, k2, ?_⟩, r3.ext.2 _ hl (by omega)⟩
      have q2 := q.trans r3
      rw [← Nat.mul_succ] at q2
      exact q2) (by rw [sizeLine_eq]; omega) (S ++ [.lst true []]) ⟨by simp, k, (Stp.gr B (Gr.one _ _)).mono (Nat.zero_le _)⟩ (by simp)
  obtain ⟨_, k', q⟩ := c5
  refine ⟨ys, S', k', ?_, c2, c3, c4, q⟩
  rw [c1]
  rfl

theorem lcc_of {mi : Nv → Sto → Rs ItM} {tg : Tg} {me : MV} {vs : List Nat} {e : Nv} {S S1 : Sto} {cnt : Nat} {r : Res} (h : mi e S = .ok (itR 0 1 cnt) S1) (c : (loopC (itR 0 1 cnt) tg tOk me S1.length (wipeE e vs) cnt 0 (S1 ++ [.lst true []])).cold = r) : mLcC mi tg tOk me vs e S = r := by
  unfold mLcC
  rw [h]
  exact c
theorem arg_draw {md : MF} {e : Nv} {S S1 : Sto} {b : Nat} {many r : Int} (he : e[0]? = some (some (.loc b))) (h : md [.loc b, .int many] S = .ok (.int r) S1) : (aCons (mCall md (aCons (mVar 0) (aCons (mC (.int many)) aNil))) aNil) e S = .ok [.int r] S1 := by
  simp only [mDef, sRet, sSeq, sIf, sExpr, sAsg, sNx, sBk, sCt, sPut, tgN, mBin, mUn, mMeth, mL, mM, mC, mVar, aNil, aCons, mTup, mLst, mIf, mSl, mChain, mAnd2, mOr2, mNot, tBl, tVal, tAnd2, tOr2, tNot2, startE, Rs.bind, Rs.bindS, lift, mCall, mCallC, mCall0, Rs.cold, List.length_cons, List.length_nil, List.map_cons, List.map_nil, List.replicate, List.append_eq, List.cons_append, List.nil_append, List.getElem?_cons_zero, List.getElem?_cons_succ, List.getElem?_nil, List.set_cons_zero, List.set_cons_succ, Nat.sub_self, Nat.reduceSub, Nat.reduceAdd, if_true, if_false, decide_true, decide_false, Option.map_some, Option.map_none, ite_true, ite_false, reduceIte, beq_self_eq_true, Bool.false_eq_true, Nat.zero_add, int_i, add_ii, sub_ii, lt_ii, gt_ii, ge_ii, le_ii, he, h]
/-- the words of a thing -/
theorem words_ok {S : Sto} {b k dl : Nat} {ds : List Int} {y1 : Option D} (B : BoxD S b k dl ds) (hk : k < 2 ^ 189) :
    ∃ (xs : List Str) (n : Nat) (S' : Sto) (k' : Nat), mLcC (iRg1 (aCons (mCall m__law_draw (aCons (mVar 0) (aCons (mC (.int 4)) aNil))) aNil)) (tgN 2) tOk (mCallC m__law_word (aCons (mVar 0) aNil)) [2] [some (.loc b), y1, none] S = .ok (.loc n) S' ∧
      S'[n]? = some (.lst true (xs.map .str)) ∧ xs.length ≤ 3 ∧ (∀ x ∈ xs, Word x) ∧ Stp b dl ds 60 S k S' k' := by
  obtain ⟨r, S1, a1, a2, a3, a4, a5⟩ := draw_st (many := 4) B (by omega) (by decide)
  have er : ((r.toNat : Nat) : Int) = r := by omega
  have hI := rg1_of (n := r.toNat) (arg_draw (e := [some (.loc b), y1, none]) rfl (by rw [er]; exact a3)) (by omega)
  obtain ⟨ys, S', k', c1, c2, c3, c4, c5⟩ := comp_draw (S := S1) (b := b) (k := k + 1) (dl := dl) (cnt := r.toNat) (c := 16) (j := 2) (ds := ds) (me := mCallC m__law_word (aCons (mVar 0) aNil)) (e := [some (.loc b), y1, none]) (P := fun d => ∃ x, d = .str x ∧ Word x) a4.box (by omega) (by omega) (by omega) fun i S2 k1 hi B2 hk1 => by
    obtain ⟨x, S3, k3, w1, w2, w3⟩ := word_ok B2 (by omega)
    refine ⟨.str x, S3, k3, ?_, ⟨x, rfl, w2⟩, w3⟩
    generalize m__law_word = mw at w1 ⊢
    simp only [mDef, sRet, sSeq, sIf, sExpr, sAsg, sNx, sBk, sCt, sPut, tgN, mBin, mUn, mMeth, mL, mM, mC, mVar, aNil, aCons, mTup, mLst, mIf, mSl, mChain, mAnd2, mOr2, mNot, tBl, tVal, tAnd2, tOr2, tNot2, startE, Rs.bind, Rs.bindS, lift, mCall, mCallC, mCall0, Rs.cold, List.length_cons, List.length_nil, List.map_cons, List.map_nil, List.replicate, List.append_eq, List.cons_append, List.nil_append, List.getElem?_cons_zero, List.getElem?_cons_succ, List.getElem?_nil, List.set_cons_zero, List.set_cons_succ, Nat.sub_self, Nat.reduceSub, Nat.reduceAdd, if_true, if_false, decide_true, decide_false, Option.map_some, Option.map_none, ite_true, ite_false, reduceIte, beq_self_eq_true, Bool.false_eq_true, Nat.zero_add, int_i, add_ii, sub_ii, lt_ii, gt_ii, ge_ii, le_ii, wipeE, w1]
  have hxs : ∃ xs : List Str, ys = xs.map .str ∧ ∀ x ∈ xs, Word x := by
    clear c1 c2 c3
    induction ys with
    | nil => exact ⟨[], rfl, fun c hc => by cases hc⟩
    | cons y ys ih =>
      obtain ⟨c, rfl, hc⟩ := c4 y List.mem_cons_self
      obtain ⟨cs, e, h⟩ := ih fun z hz => c4 z (List.mem_cons_of_mem _ hz)
      refine ⟨c :: cs, by rw [e]; rfl, fun d hd => ?_⟩
      rcases List.mem_cons.mp hd with q | q
      · rw [q]; exact hc
      · exact h d q
  obtain ⟨xs, rfl, hx⟩ := hxs
  rw [List.length_map] at c3
  have hst : 16 * r.toNat ≤ 48 := by omega
  exact ⟨xs, S1.length, S', k', lcc_of hI c1, c2, by omega, hx, (a4.trans c5).mono (by omega)⟩

theorem sorted_strs {S : Sto} {n : Nat} {xs : List Str} (h : S[n]? = some (.lst true (xs.map .str))) (hl : xs.length < 64) : oSorted [.loc n] S = some (.loc S.length, S ++ [SO.lst true ((xs.mergeSort leS).map D.str)]) := by
  show (match S[n]? with
    | some (SO.lst _ xs) => match intsOf xs with
      | some is => some (D.loc S.length, S ++ [SO.lst true ((is.mergeSort leI).map D.int)])
      | none => match strsOf xs with
        | some ys => if ys.length < 64 then some (D.loc S.length, S ++ [SO.lst true ((ys.mergeSort leS).map D.str)]) else none
        | none => none
    | _ => none) = _
  rw [h]
  show (match intsOf (xs.map D.str) with
      | some is => some (D.loc S.length, S ++ [SO.lst true ((is.mergeSort leI).map D.int)])
      | none => match strsOf (xs.map D.str) with
        | some ys => if ys.length < 64 then some (D.loc S.length, S ++ [SO.lst true ((ys.mergeSort leS).map D.str)]) else none
        | none => none) = _
  rw [ints_none rfl, strs_some]
  cases xs with
  | nil => simp
  | cons x r =>
    show (if (x :: r).length < 64 then _ else _) = _
    rw [if_pos hl]
theorem tuple_lst {S : Sto} {n : Nat} {w : Bool} {ds : List D} (h : S[n]? = some (.lst w ds)) : oTuple [.loc n] S = some (.tup ds, S) := by
  show (match S[n]? with
    | some (SO.lst _ ds) => some ds
    | _ => none).map (fun xs => (D.tup xs, S)) = _
  rw [h]; rfl
theorem tup_sorted {e : Nv} {S S1 : Sto} {ml : MV} {n : Nat} {xs : List Str} (h : ml e S = .ok (.loc n) S1) (hn : S1[n]? = some (.lst true (xs.map .str))) (hl : xs.length < 64) :
    mL oTuple (aCons (mL oSorted (aCons ml aNil)) aNil) e S = .ok (.tup ((xs.mergeSort leS).map D.str)) (S1 ++ [SO.lst true ((xs.mergeSort leS).map D.str)]) := by
  have f1 := sorted_strs hn hl
  have f2 : oTuple [.loc S1.length] (S1 ++ [SO.lst true ((xs.mergeSort leS).map D.str)]) = some (.tup ((xs.mergeSort leS).map D.str), S1 ++ [SO.lst true ((xs.mergeSort leS).map D.str)]) := tuple_lst (w := true) (by simp)
  simp only [mDef, sRet, sSeq, sIf, sExpr, sAsg, sNx, sBk, sCt, sPut, tgN, mBin, mUn, mMeth, mL, mM, mC, mVar, aNil, aCons, mTup, mLst, mIf, mSl, mChain, mAnd2, mOr2, mNot, tBl, tVal, tAnd2, tOr2, tNot2, startE, Rs.bind, Rs.bindS, lift, mCall, mCallC, mCall0, Rs.cold, List.length_cons, List.length_nil, List.map_cons, List.map_nil, List.replicate, List.append_eq, List.cons_append, List.nil_append, List.getElem?_cons_zero, List.getElem?_cons_succ, List.getElem?_nil, List.set_cons_zero, List.set_cons_succ, Nat.sub_self, Nat.reduceSub, Nat.reduceAdd, if_true, if_false, decide_true, decide_false, Option.map_some, Option.map_none, ite_true, ite_false, reduceIte, beq_self_eq_true, Bool.false_eq_true, Nat.zero_add, int_i, add_ii, sub_ii, lt_ii, gt_ii, ge_ii, le_ii, h, f1, f2]
theorem tup_lst {e : Nv} {S S1 : Sto} {ml : MV} {n : Nat} {ds : List D} (h : ml e S = .ok (.loc n) S1) (hn : S1[n]? = some (.lst true ds)) : mL oTuple (aCons ml aNil) e S = .ok (.tup ds) S1 := by
  have f1 := tuple_lst hn
  simp only [mDef, sRet, sSeq, sIf, sExpr, sAsg, sNx, sBk, sCt, sPut, tgN, mBin, mUn, mMeth, mL, mM, mC, mVar, aNil, aCons, mTup, mLst, mIf, mSl, mChain, mAnd2, mOr2, mNot, tBl, tVal, tAnd2, tOr2, tNot2, startE, Rs.bind, Rs.bindS, lift, mCall, mCallC, mCall0, Rs.cold, List.length_cons, List.length_nil, List.map_cons, List.map_nil, List.replicate, List.append_eq, List.cons_append, List.nil_append, List.getElem?_cons_zero, List.getElem?_cons_succ, List.getElem?_nil, List.set_cons_zero, List.set_cons_succ, Nat.sub_self, Nat.reduceSub, Nat.reduceAdd, if_true, if_false, decide_true, decide_false, Option.map_some, Option.map_none, ite_true, ite_false, reduceIte, beq_self_eq_true, Bool.false_eq_true, Nat.zero_add, int_i, add_ii, sub_ii, lt_ii, gt_ii, ge_ii, le_ii, h, f1]
/-- the numbers of a thing -/
theorem nums_ok {S : Sto} {b k dl : Nat} {ds : List Int} {y1 : Option D} (B : BoxD S b k dl ds) (hk : k < 2 ^ 189) :
    ∃ (ys : List D) (n : Nat) (S' : Sto) (k' : Nat), mLcC (iRg1 (aCons (mCall m__law_draw (aCons (mVar 0) (aCons (mC (.int 4)) aNil))) aNil)) (tgN 2) tOk (mBin oAdd (mBin oSub (mCallC m__law_draw (aCons (mVar 0) (aCons (mC (.int 9)) aNil))) (mC (.int 2))) (mBin oMul (mC (.int 3)) (mVar 2))) [2] [some (.loc b), y1, none] S = .ok (.loc n) S' ∧
      S'[n]? = some (.lst true ys) ∧ ys.length ≤ 3 ∧ (∀ y ∈ ys, Atom y) ∧ Stp b dl ds 60 S k S' k' := by
  obtain ⟨r, S1, a1, a2, a3, a4, a5⟩ := draw_st (many := 4) B (by omega) (by decide)
  have er : ((r.toNat : Nat) : Int) = r := by omega
  have hI := rg1_of (n := r.toNat) (arg_draw (e := [some (.loc b), y1, none]) rfl (by rw [er]; exact a3)) (by omega)
  obtain ⟨ys, S', k', c1, c2, c3, c4, c5⟩ := comp_draw (S := S1) (b := b) (k := k + 1) (dl := dl) (cnt := r.toNat) (c := 1) (j := 2) (ds := ds) (me := mBin oAdd (mBin oSub (mCallC m__law_draw (aCons (mVar 0) (aCons (mC (.int 9)) aNil))) (mC (.int 2))) (mBin oMul (mC (.int 3)) (mVar 2))) (e := [some (.loc b), y1, none]) (P := Atom) a4.box (by omega) (by omega) (by omega) fun i S2 k1 hi B2 hk1 => by
    obtain ⟨q, S3, w1, w2, w3, w4, w5⟩ := draw_st (many := 9) B2 (by omega) (by decide)
    have m1 : oMul (.int 3) (.int (0 + (i : Int))) S3 = some (.int (3 * (0 + (i : Int))), S3) := mul_small (by decide) (by omega)
    refine ⟨.int (q - 2 + 3 * (0 + (i : Int))), S3, _, ?_, .inr (.inr (.inr ⟨_, rfl, by omega, by omega⟩)), w4⟩
    generalize m__law_draw = mw at w3 ⊢
    simp only [mDef, sRet, sSeq, sIf, sExpr, sAsg, sNx, sBk, sCt, sPut, tgN, mBin, mUn, mMeth, mL, mM, mC, mVar, aNil, aCons, mTup, mLst, mIf, mSl, mChain, mAnd2, mOr2, mNot, tBl, tVal, tAnd2, tOr2, tNot2, startE, Rs.bind, Rs.bindS, lift, mCall, mCallC, mCall0, Rs.cold, List.length_cons, List.length_nil, List.map_cons, List.map_nil, List.replicate, List.append_eq, List.cons_append, List.nil_append, List.getElem?_cons_zero, List.getElem?_cons_succ, List.getElem?_nil, List.set_cons_zero, List.set_cons_succ, Nat.sub_self, Nat.reduceSub, Nat.reduceAdd, if_true, if_false, decide_true, decide_false, Option.map_some, Option.map_none, ite_true, ite_false, reduceIte, beq_self_eq_true, Bool.false_eq_true, Nat.zero_add, int_i, add_ii, sub_ii, lt_ii, gt_ii, ge_ii, le_ii, wipeE, w3, m1]
  have hst : 1 * r.toNat ≤ 48 := by omega
  exact ⟨ys, S1.length, S', k', lcc_of hI c1, c2, by omega, c4, (a4.trans c5).mono (by omega)⟩
end K29
end

section
set_option Elab.async false
set_option linter.all false
set_option maxRecDepth 100000
/-! P11: law k29, plainly: things drawn. -/
namespace K29
open PySem PySem.Spec M2 P0
set_option autoImplicit false
theorem word_lit {x : Str} (h : (decide (x.length ≤ 100) && x.cps.toList.all fun c => decide (c ∈ SIGNS.cps.toList)) = true) : Word x := by
  simp only [Bool.and_eq_true, decide_eq_true_eq, List.all_eq_true] at h
  exact h
abbrev lit18 : MV := (mLst (aCons (mC .non) (aCons (mC (.bl true)) (aCons (mC (.int 0)) (aCons (mUn oNeg (mC (.int 3))) (aCons (mC (.int 7)) (aCons (mC (.str "")) (aCons (mLst aNil) (aCons (mTup (aCons (mC (.str "a")) (aCons (mC (.int 1)) aNil))) (aCons (mC (.str "lrsiea")) (aCons (mC (.str "ls")) (aCons (mC (.str "sl")) (aCons (mTup aNil) (aCons (mC (.str "add")) (aCons (mLst (aCons (mC (.int 1)) aNil)) (aCons (mLst (aCons (mC (.str "a")) aNil)) (aCons (mTup (aCons (mC (.bl true)) (aCons (mC (.int 2)) aNil))) (aCons (mTup (aCons (mC .non) aNil)) (aCons (mTup (aCons (mC (.int 1)) (aCons (mC (.str "a")) aNil))) aNil)))))))))))))))))))
def L18 (n : Nat) : List D := [.non, .bl true, .int 0, .int (-3), .int 7, .str "", .loc n, .tup [.str "a", .int 1], .str "lrsiea", .str "ls", .str "sl", .tup [], .str "add", .loc (n + 1), .loc (n + 2), .tup [.bl true, .int 2], .tup [.non], .tup [.int 1, .str "a"]]
def S18 (S : Sto) : Sto := S ++ [.lst true [], .lst true [.int 1], .lst true [.str "a"], .lst true (L18 S.length)]
theorem lit18_eq {e : Nv} {S : Sto} : lit18 e S = .ok (.loc (S.length + 3)) (S18 S) := by
  have z : ∀ n : Nat, n ≤ 1000 → n ≤ sizeLine := fun n h => by rw [sizeLine_eq]; omega
  have z0 : (0 ≤ sizeLine) = True := eq_true (z 0 (by omega))
  have z1 : (1 ≤ sizeLine) = True := eq_true (z 1 (by omega))
  have z2 : (2 ≤ sizeLine) = True := eq_true (z 2 (by omega))
  have z18 : (18 ≤ sizeLine) = True := eq_true (z 18 (by omega))
  have n3 : ∀ S : Sto, oNeg (.int 3) S = some (.int (-3), S) := fun _ => rfl
  have a1 : (S ++ [SO.lst true []]).length = S.length + 1 := by simp
  have a2 : (S ++ [SO.lst true []] ++ [SO.lst true [D.int 1]]).length = S.length + 2 := by simp
  have a3 : (S ++ [SO.lst true []] ++ [SO.lst true [D.int 1]] ++ [SO.lst true [D.str "a"]]).length = S.length + 3 := by simp
  unfold lit18
  simp only [mDef, sRet, sSeq, sIf, sExpr, sAsg, sNx, sBk, sCt, sPut, tgN, mBin, mUn, mMeth, mL, mM, mC, mVar, aNil, aCons, mTup, mLst, mIf, mSl, mChain, mAnd2, mOr2, mNot, tBl, tVal, tAnd2, tOr2, tNot2, startE, Rs.bind, Rs.bindS, lift, mCall, mCallC, mCall0, Rs.cold, List.length_cons, List.length_nil, List.map_cons, List.map_nil, List.replicate, List.append_eq, List.cons_append, List.nil_append, List.getElem?_cons_zero, List.getElem?_cons_succ, List.getElem?_nil, List.set_cons_zero, List.set_cons_succ, Nat.sub_self, Nat.reduceSub, Nat.reduceAdd, if_true, if_false, decide_true, decide_false, Option.map_some, Option.map_none, ite_true, ite_false, reduceIte, beq_self_eq_true, Bool.false_eq_true, Nat.zero_add, int_i, add_ii, sub_ii, lt_ii, gt_ii, ge_ii, le_ii, n3, z0, z1, z2, z18, a1, a2, a3]
  unfold S18 L18
  simp

theorem thing_run {a d : D} {kind : Int} {S S1 S2 : Sto} {x0 xw x4 x5 x6 : MV} (e0 : x0 [some a, none, none] S = .ok (.int kind) S1)
    (h : (if kind < 4 then xw else if kind = 4 then x4 else if kind = 5 then x5 else x6) [some a, some (.int kind), none] S1 = .ok d S2) :
    mDef 3 1 (sSeq (sAsg x0 (tgN 1)) (sSeq (sIf (tBl (mBin oLt (mVar 1) (mC (.int 4)))) (sRet xw) sNx) (sSeq (sIf (tBl (mBin oEq (mVar 1) (mC (.int 4)))) (sRet x4) sNx) (sSeq (sIf (tBl (mBin oEq (mVar 1) (mC (.int 5)))) (sRet x5) sNx) (sRet x6))))) [a] S = .ok d S2 := by
  by_cases h1 : kind < 4
  · rw [if_pos h1] at h
    simp only [mDef, sRet, sSeq, sIf, sExpr, sAsg, sNx, sBk, sCt, sPut, tgN, mBin, mUn, mMeth, mL, mM, mC, mVar, aNil, aCons, mTup, mLst, mIf, mSl, mChain, mAnd2, mOr2, mNot, tBl, tVal, tAnd2, tOr2, tNot2, startE, Rs.bind, Rs.bindS, lift, mCall, mCallC, mCall0, Rs.cold, List.length_cons, List.length_nil, List.map_cons, List.map_nil, List.replicate, List.append_eq, List.cons_append, List.nil_append, List.getElem?_cons_zero, List.getElem?_cons_succ, List.getElem?_nil, List.set_cons_zero, List.set_cons_succ, Nat.sub_self, Nat.reduceSub, Nat.reduceAdd, if_true, if_false, decide_true, decide_false, Option.map_some, Option.map_none, ite_true, ite_false, reduceIte, beq_self_eq_true, Bool.false_eq_true, Nat.zero_add, int_i, add_ii, sub_ii, lt_ii, gt_ii, ge_ii, le_ii, e0, decide_eq_true h1, h]
  · rw [if_neg h1] at h
    by_cases h2 : kind = 4
    · rw [if_pos h2] at h
      simp only [mDef, sRet, sSeq, sIf, sExpr, sAsg, sNx, sBk, sCt, sPut, tgN, mBin, mUn, mMeth, mL, mM, mC, mVar, aNil, aCons, mTup, mLst, mIf, mSl, mChain, mAnd2, mOr2, mNot, tBl, tVal, tAnd2, tOr2, tNot2, startE, Rs.bind, Rs.bindS, lift, mCall, mCallC, mCall0, Rs.cold, List.length_cons, List.length_nil, List.map_cons, List.map_nil, List.replicate, List.append_eq, List.cons_append, List.nil_append, List.getElem?_cons_zero, List.getElem?_cons_succ, List.getElem?_nil, List.set_cons_zero, List.set_cons_succ, Nat.sub_self, Nat.reduceSub, Nat.reduceAdd, if_true, if_false, decide_true, decide_false, Option.map_some, Option.map_none, ite_true, ite_false, reduceIte, beq_self_eq_true, Bool.false_eq_true, Nat.zero_add, int_i, add_ii, sub_ii, lt_ii, gt_ii, ge_ii, le_ii, e0, decide_eq_false h1, eq_ii, decide_eq_true h2, h]
    · rw [if_neg h2] at h
      by_cases h3 : kind = 5
      · rw [if_pos h3] at h
        simp only [mDef, sRet, sSeq, sIf, sExpr, sAsg, sNx, sBk, sCt, sPut, tgN, mBin, mUn, mMeth, mL, mM, mC, mVar, aNil, aCons, mTup, mLst, mIf, mSl, mChain, mAnd2, mOr2, mNot, tBl, tVal, tAnd2, tOr2, tNot2, startE, Rs.bind, Rs.bindS, lift, mCall, mCallC, mCall0, Rs.cold, List.length_cons, List.length_nil, List.map_cons, List.map_nil, List.replicate, List.append_eq, List.cons_append, List.nil_append, List.getElem?_cons_zero, List.getElem?_cons_succ, List.getElem?_nil, List.set_cons_zero, List.set_cons_succ, Nat.sub_self, Nat.reduceSub, Nat.reduceAdd, if_true, if_false, decide_true, decide_false, Option.map_some, Option.map_none, ite_true, ite_false, reduceIte, beq_self_eq_true, Bool.false_eq_true, Nat.zero_add, int_i, add_ii, sub_ii, lt_ii, gt_ii, ge_ii, le_ii, e0, decide_eq_false h1, eq_ii, decide_eq_false h2, decide_eq_true h3, h]
      · rw [if_neg h3] at h
        simp only [mDef, sRet, sSeq, sIf, sExpr, sAsg, sNx, sBk, sCt, sPut, tgN, mBin, mUn, mMeth, mL, mM, mC, mVar, aNil, aCons, mTup, mLst, mIf, mSl, mChain, mAnd2, mOr2, mNot, tBl, tVal, tAnd2, tOr2, tNot2, startE, Rs.bind, Rs.bindS, lift, mCall, mCallC, mCall0, Rs.cold, List.length_cons, List.length_nil, List.map_cons, List.map_nil, List.replicate, List.append_eq, List.cons_append, List.nil_append, List.getElem?_cons_zero, List.getElem?_cons_succ, List.getElem?_nil, List.set_cons_zero, List.set_cons_succ, Nat.sub_self, Nat.reduceSub, Nat.reduceAdd, if_true, if_false, decide_true, decide_false, Option.map_some, Option.map_none, ite_true, ite_false, reduceIte, beq_self_eq_true, Bool.false_eq_true, Nat.zero_add, int_i, add_ii, sub_ii, lt_ii, gt_ii, ge_ii, le_ii, e0, decide_eq_false h1, eq_ii, decide_eq_false h2, decide_eq_false h3, h]
theorem call_draw {md : MF} {e : Nv} {S S1 : Sto} {b : Nat} {many r : Int} (he : e[0]? = some (some (.loc b))) (h : md [.loc b, .int many] S = .ok (.int r) S1) : mCall md (aCons (mVar 0) (aCons (mC (.int many)) aNil)) e S = .ok (.int r) S1 := by
  simp only [mDef, sRet, sSeq, sIf, sExpr, sAsg, sNx, sBk, sCt, sPut, tgN, mBin, mUn, mMeth, mL, mM, mC, mVar, aNil, aCons, mTup, mLst, mIf, mSl, mChain, mAnd2, mOr2, mNot, tBl, tVal, tAnd2, tOr2, tNot2, startE, Rs.bind, Rs.bindS, lift, mCall, mCallC, mCall0, Rs.cold, List.length_cons, List.length_nil, List.map_cons, List.map_nil, List.replicate, List.append_eq, List.cons_append, List.nil_append, List.getElem?_cons_zero, List.getElem?_cons_succ, List.getElem?_nil, List.set_cons_zero, List.set_cons_succ, Nat.sub_self, Nat.reduceSub, Nat.reduceAdd, if_true, if_false, decide_true, decide_false, Option.map_some, Option.map_none, ite_true, ite_false, reduceIte, beq_self_eq_true, Bool.false_eq_true, Nat.zero_add, int_i, add_ii, sub_ii, lt_ii, gt_ii, ge_ii, le_ii, he, h]
theorem call_one {md : MF} {e : Nv} {S S1 : Sto} {a d : D} (he : e[0]? = some (some a)) (h : md [a] S = .ok d S1) : mCall md (aCons (mVar 0) aNil) e S = .ok d S1 := by
  simp only [mDef, sRet, sSeq, sIf, sExpr, sAsg, sNx, sBk, sCt, sPut, tgN, mBin, mUn, mMeth, mL, mM, mC, mVar, aNil, aCons, mTup, mLst, mIf, mSl, mChain, mAnd2, mOr2, mNot, tBl, tVal, tAnd2, tOr2, tNot2, startE, Rs.bind, Rs.bindS, lift, mCall, mCallC, mCall0, Rs.cold, List.length_cons, List.length_nil, List.map_cons, List.map_nil, List.replicate, List.append_eq, List.cons_append, List.nil_append, List.getElem?_cons_zero, List.getElem?_cons_succ, List.getElem?_nil, List.set_cons_zero, List.set_cons_succ, Nat.sub_self, Nat.reduceSub, Nat.reduceAdd, if_true, if_false, decide_true, decide_false, Option.map_some, Option.map_none, ite_true, ite_false, reduceIte, beq_self_eq_true, Bool.false_eq_true, Nat.zero_add, int_i, add_ii, sub_ii, lt_ii, gt_ii, ge_ii, le_ii, he, h]
theorem ix_step {e : Nv} {S S1 S2 : Sto} {x y : MV} {a b d : D} (h1 : x e S = .ok a S1) (h2 : y e S1 = .ok b S2) (h3 : oIx a b S2 = some (d, S2)) : mBin oIx x y e S = .ok d S2 := by
  simp only [mDef, sRet, sSeq, sIf, sExpr, sAsg, sNx, sBk, sCt, sPut, tgN, mBin, mUn, mMeth, mL, mM, mC, mVar, aNil, aCons, mTup, mLst, mIf, mSl, mChain, mAnd2, mOr2, mNot, tBl, tVal, tAnd2, tOr2, tNot2, startE, Rs.bind, Rs.bindS, lift, mCall, mCallC, mCall0, Rs.cold, List.length_cons, List.length_nil, List.map_cons, List.map_nil, List.replicate, List.append_eq, List.cons_append, List.nil_append, List.getElem?_cons_zero, List.getElem?_cons_succ, List.getElem?_nil, List.set_cons_zero, List.set_cons_succ, Nat.sub_self, Nat.reduceSub, Nat.reduceAdd, if_true, if_false, decide_true, decide_false, Option.map_some, Option.map_none, ite_true, ite_false, reduceIte, beq_self_eq_true, Bool.false_eq_true, Nat.zero_add, int_i, add_ii, sub_ii, lt_ii, gt_ii, ge_ii, le_ii, h1, h2, h3]
theorem atom_lit {x : Str} (h : (decide (x.length ≤ 100) && x.cps.toList.all fun c => decide (c ∈ SIGNS.cps.toList)) = true) : Atom (.str x) := .inl ⟨x, rfl, word_lit h⟩
theorem atom_int {i : Int} (h : -10000 ≤ i ∧ i ≤ 10000) : Atom (.int i) := .inr (.inr (.inr ⟨i, rfl, h⟩))
theorem atom_bl {k : Bool} : Atom (.bl k) := .inr (.inr (.inl ⟨k, rfl⟩))
theorem atom_non : Atom .non := .inr (.inl rfl)
theorem L18_things {S : Sto} {n : Nat} (h0 : S[n]? = some (.lst true [])) (h1 : S[n + 1]? = some (.lst true [.int 1])) (h2 : S[n + 2]? = some (.lst true [.str "a"])) : ∀ d ∈ L18 n, Thing S d := by
  have sa : Atom (.str "a") := atom_lit (by decide +kernel)
  have tup : ∀ xs : List D, xs.length ≤ 20 → (∀ x ∈ xs, Atom x) → Thing S (.tup xs) := fun xs hl hx => .inr (.inl ⟨xs, rfl, hl, hx⟩)
  have lst : ∀ (m : Nat) (xs : List D), S[m]? = some (.lst true xs) → xs.length ≤ 20 → (∀ x ∈ xs, Atom x) → Thing S (.loc m) := fun m xs e hl hx => .inr (.inr ⟨m, xs, rfl, e, hl, hx⟩)
  have two : ∀ {a b : D}, Atom a → Atom b → ∀ x ∈ [a, b], Atom x := fun ha hb x hx => by
    simp only [List.mem_cons, List.not_mem_nil, or_false] at hx
    rcases hx with q | q
    · rw [q]; exact ha
    · rw [q]; exact hb
  have one_ : ∀ {a : D}, Atom a → ∀ x ∈ [a], Atom x := fun ha x hx => by
    rw [List.mem_singleton.mp hx]; exact ha
  intro d hd
  unfold L18 at hd
  simp only [List.mem_cons, List.not_mem_nil, or_false] at hd
  rcases hd with q | q | q | q | q | q | q | q | q | q | q | q | q | q | q | q | q | q <;> subst q
  · exact .inl atom_non
  · exact .inl atom_bl
  · exact .inl (atom_int (by decide))
  · exact .inl (atom_int (by decide))
  · exact .inl (atom_int (by decide))
  · exact .inl (atom_lit (by decide +kernel))
  · exact lst n [] h0 (by decide) (fun x hx => by cases hx)
  · exact tup _ (by simp) (two sa (atom_int (by decide)))
  · exact .inl (atom_lit (by decide +kernel))
  · exact .inl (atom_lit (by decide +kernel))
  · exact .inl (atom_lit (by decide +kernel))
  · exact tup _ (by simp) (fun x hx => by cases hx)
  · exact .inl (atom_lit (by decide +kernel))
  · exact lst _ _ h1 (by simp) (one_ (atom_int (by decide)))
  · exact lst _ _ h2 (by simp) (one_ sa)
  · exact tup _ (by simp) (two atom_bl (atom_int (by decide)))
  · exact tup _ (by simp) (one_ atom_non)
  · exact tup _ (by simp) (two (atom_int (by decide)) sa)

theorem L18_len (n : Nat) : (L18 n).length = 18 := rfl
theorem thing_ok {S : Sto} {b k dl : Nat} {ds : List Int} (B : BoxD S b k dl ds) (hk : k < 2 ^ 180) : ∃ (d : D) (S' : Sto) (k' : Nat), m__law_thing [.loc b] S = .ok d S' ∧ Thing S' d ∧ Stp b dl ds 70 S k S' k' := by
  obtain ⟨kind, S1, a1, a2, a3, a4, a5⟩ := draw_st (many := 9) B (by omega) (by decide)
  have e0 := call_draw (e := [some (.loc b), none, none]) rfl a3
  have hk1 : k + 1 < 2 ^ 181 := by omega
  by_cases h1 : kind < 4
  · obtain ⟨x, S2, k2, w1, w2, w3⟩ := word_ok a4.box (by omega)
    have r := call_one (e := [some (.loc b), some (.int kind), none]) rfl w1
    exact ⟨.str x, S2, k2, thing_run e0 (by rw [if_pos h1]; exact r), .inl (.inl ⟨x, rfl, w2⟩), (a4.trans w3).mono (by omega)⟩
  · by_cases h2 : kind = 4
    · obtain ⟨xs, n, S2, k2, w1, w2, w3, w4, w5⟩ := words_ok (y1 := some (.int kind)) a4.box (by omega)
      have r := tup_sorted w1 w2 (by omega)
      refine ⟨_, _, k2, thing_run e0 (by rw [if_neg h1, if_pos h2]; exact r), .inr (.inl ⟨_, rfl, ?_, fun y hy => ?_⟩), ((a4.trans w5).trans (Stp.gr w5.box (Gr.one _ _))).mono (by omega)⟩
      · rw [List.length_map, List.length_mergeSort]; omega
      · obtain ⟨x, hx, rfl⟩ := List.mem_map.mp hy
        exact .inl ⟨x, rfl, w4 x ((List.mergeSort_perm _ _).mem_iff.mp hx)⟩
    · by_cases h3 : kind = 5
      · obtain ⟨ys, n, S2, k2, w1, w2, w3, w4, w5⟩ := nums_ok (y1 := some (.int kind)) a4.box (by omega)
        have r := tup_lst w1 w2
        exact ⟨_, _, k2, thing_run e0 (by rw [if_neg h1, if_neg h2, if_pos h3]; exact r), .inr (.inl ⟨_, rfl, by omega, w4⟩), (a4.trans w5).mono (by omega)⟩
      · have g1 : Gr S1 (S18 S1) := ⟨_, rfl⟩
        have s1 := Stp.gr a4.box g1
        obtain ⟨r, S2, c1, c2, c3, c4, c5⟩ := draw_st (many := 18) s1.box (by omega) (by decide)
        have hb := a4.box.lt
        have keep : ∀ (n : Nat) (o : SO), (S18 S1)[n]? = some o → n ≠ b → S2[n]? = some o := fun n o e hn => c4.ext.get e hn
        have hL : S2[S1.length + 3]? = some (.lst true (L18 S1.length)) := keep _ _ (by unfold S18; simp) (by omega)
        obtain ⟨d, hd, hx⟩ := ix_mem (r := r) hL c1 (by rw [L18_len]; exact c2)
        have r6 := ix_step (lit18_eq (e := [some (.loc b), some (.int kind), none]) (S := S1)) (call_draw (e := [some (.loc b), some (.int kind), none]) rfl c3) hx
        refine ⟨d, S2, _, thing_run e0 (by rw [if_neg h1, if_neg h2, if_neg h3]; exact r6), ?_, ((a4.trans s1).trans c4).mono (by omega)⟩
        exact L18_things (keep _ _ (by unfold S18; simp) (by omega)) (keep _ _ (by unfold S18; simp) (by omega)) (keep _ _ (by unfold S18; simp) (by omega)) d hd
end K29
end

section
set_option Elab.async false
set_option linter.all false
set_option maxRecDepth 100000
/-! P12: law k29, plainly: deeds drawn. -/
namespace K29
open PySem PySem.Spec M2 P0
set_option autoImplicit false
abbrev lit6 : MV := (mLst (aCons (mTup (aCons (mC (.str "make")) (aCons (mC (.str "a")) aNil))) (aCons (mTup (aCons (mC (.str "unmake")) (aCons (mC (.int 3)) aNil))) (aCons (mTup (aCons (mC (.str "rename")) (aCons (mC (.int 4)) (aCons (mC (.str "b1")) aNil)))) (aCons (mTup (aCons (mC (.str "grant")) (aCons (mC (.int 3)) (aCons (mC (.str "bo")) (aCons (mC (.str "lr")) aNil))))) (aCons (mTup (aCons (mC (.str "put")) (aCons (mC (.int 0)) (aCons (mTup (aCons (mC (.str "a")) (aCons (mC (.str "b")) aNil))) (aCons (mC (.str "text")) aNil))))) (aCons (mTup (aCons (mC (.str "flag")) (aCons (mUn oNeg (mC (.int 1))) (aCons (mTup (aCons (mUn oNeg (mC (.int 2))) (aCons (mC (.int 5)) aNil))) (aCons (mC (.str "set")) (aCons (mTup aNil) aNil)))))) aNil)))))))
abbrev lit7 : MV := (mLst (aCons (mTup (aCons (mC (.str "copy")) (aCons (mC (.int 0)) (aCons (mTup (aCons (mC (.int 1)) (aCons (mC (.int 2)) aNil))) (aCons (mC (.int 3)) aNil))))) (aCons (mTup (aCons (mC (.str "move")) (aCons (mC (.int 0)) (aCons (mTup aNil) (aCons (mUn oNeg (mC (.int 4))) aNil))))) (aCons (mTup (aCons (mC (.str "take")) (aCons (mC (.int 1)) (aCons (mTup (aCons (mC (.int 9)) aNil)) aNil)))) (aCons (mTup (aCons (mC (.str "leave")) (aCons (mC (.int 8)) aNil))) (aCons (mTup (aCons (mC (.str "filter")) (aCons (mC (.str "")) aNil))) (aCons (mTup (aCons (mC (.str "send")) (aCons (mTup (aCons (mC (.str "a@b")) (aCons (mC (.str "")) aNil))) (aCons (mC (.str "x")) aNil)))) (aCons (mTup (aCons (mC (.str "back")) (aCons (mC (.int 1)) (aCons (mC (.int 2)) aNil)))) aNil))))))))
def D6 : List (List D) := [[.str "make", .str "a"], [.str "unmake", .int 3], [.str "rename", .int 4, .str "b1"], [.str "grant", .int 3, .str "bo", .str "lr"], [.str "put", .int 0, .tup [.str "a", .str "b"], .str "text"], [.str "flag", .int (-1), .tup [.int (-2), .int 5], .str "set", .tup []]]
def D7 : List (List D) := [[.str "copy", .int 0, .tup [.int 1, .int 2], .int 3], [.str "move", .int 0, .tup [], .int (-4)], [.str "take", .int 1, .tup [.int 9]], [.str "leave", .int 8], [.str "filter", .str ""], [.str "send", .tup [.str "a@b", .str ""], .str "x"], [.str "back", .int 1, .int 2]]
theorem lit6_eq {e : Nv} {S : Sto} : lit6 e S = .ok (.loc S.length) (S ++ [.lst true (D6.map .tup)]) := by
  have z : ∀ n : Nat, n ≤ 1000 → n ≤ sizeLine := fun n h => by rw [sizeLine_eq]; omega
  have z0 : (0 ≤ sizeLine) = True := eq_true (z 0 (by omega))
  have z2 : (2 ≤ sizeLine) = True := eq_true (z 2 (by omega))
  have z3 : (3 ≤ sizeLine) = True := eq_true (z 3 (by omega))
  have z4 : (4 ≤ sizeLine) = True := eq_true (z 4 (by omega))
  have z5 : (5 ≤ sizeLine) = True := eq_true (z 5 (by omega))
  have z6 : (6 ≤ sizeLine) = True := eq_true (z 6 (by omega))
  have n1 : ∀ S : Sto, oNeg (.int 1) S = some (.int (-1), S) := fun _ => rfl
  have n2 : ∀ S : Sto, oNeg (.int 2) S = some (.int (-2), S) := fun _ => rfl
  unfold lit6
  simp only [mDef, sRet, sSeq, sIf, sExpr, sAsg, sNx, sBk, sCt, sPut, tgN, mBin, mUn, mMeth, mL, mM, mC, mVar, aNil, aCons, mTup, mLst, mIf, mSl, mChain, mAnd2, mOr2, mNot, tBl, tVal, tAnd2, tOr2, tNot2, startE, Rs.bind, Rs.bindS, lift, mCall, mCallC, mCall0, Rs.cold, List.length_cons, List.length_nil, List.map_cons, List.map_nil, List.replicate, List.append_eq, List.cons_append, List.nil_append, List.getElem?_cons_zero, List.getElem?_cons_succ, List.getElem?_nil, List.set_cons_zero, List.set_cons_succ, Nat.sub_self, Nat.reduceSub, Nat.reduceAdd, if_true, if_false, decide_true, decide_false, Option.map_some, Option.map_none, ite_true, ite_false, reduceIte, beq_self_eq_true, Bool.false_eq_true, Nat.zero_add, int_i, add_ii, sub_ii, lt_ii, gt_ii, ge_ii, le_ii, n1, n2, z0, z2, z3, z4, z5, z6]
  rfl
theorem lit7_eq {e : Nv} {S : Sto} : lit7 e S = .ok (.loc S.length) (S ++ [.lst true (D7.map .tup)]) := by
  have z : ∀ n : Nat, n ≤ 1000 → n ≤ sizeLine := fun n h => by rw [sizeLine_eq]; omega
  have z0 : (0 ≤ sizeLine) = True := eq_true (z 0 (by omega))
  have z1 : (1 ≤ sizeLine) = True := eq_true (z 1 (by omega))
  have z2 : (2 ≤ sizeLine) = True := eq_true (z 2 (by omega))
  have z3 : (3 ≤ sizeLine) = True := eq_true (z 3 (by omega))
  have z4 : (4 ≤ sizeLine) = True := eq_true (z 4 (by omega))
  have z7 : (7 ≤ sizeLine) = True := eq_true (z 7 (by omega))
  have n4 : ∀ S : Sto, oNeg (.int 4) S = some (.int (-4), S) := fun _ => rfl
  unfold lit7
  simp only [mDef, sRet, sSeq, sIf, sExpr, sAsg, sNx, sBk, sCt, sPut, tgN, mBin, mUn, mMeth, mL, mM, mC, mVar, aNil, aCons, mTup, mLst, mIf, mSl, mChain, mAnd2, mOr2, mNot, tBl, tVal, tAnd2, tOr2, tNot2, startE, Rs.bind, Rs.bindS, lift, mCall, mCallC, mCall0, Rs.cold, List.length_cons, List.length_nil, List.map_cons, List.map_nil, List.replicate, List.append_eq, List.cons_append, List.nil_append, List.getElem?_cons_zero, List.getElem?_cons_succ, List.getElem?_nil, List.set_cons_zero, List.set_cons_succ, Nat.sub_self, Nat.reduceSub, Nat.reduceAdd, if_true, if_false, decide_true, decide_false, Option.map_some, Option.map_none, ite_true, ite_false, reduceIte, beq_self_eq_true, Bool.false_eq_true, Nat.zero_add, int_i, add_ii, sub_ii, lt_ii, gt_ii, ge_ii, le_ii, n4, z0, z1, z2, z3, z4, z7]
  rfl
/-- a part of a drawn deed, by a test -/
def atomB : D → Bool
  | .str x => decide (x.length ≤ 100) && x.cps.toList.all fun c => decide (c ∈ SIGNS.cps.toList)
  | .int i => decide (-10000 ≤ i ∧ i ≤ 10000)
  | .bl _ => true
  | .non => true
  | _ => false
theorem atomB_ok {d : D} (h : atomB d = true) : Atom d := by
  cases d with
  | str x => exact atom_lit h
  | int i => exact atom_int (of_decide_eq_true h)
  | bl b => exact atom_bl
  | non => exact atom_non
  | _ => cases h
def partB : D → Bool
  | .tup xs => decide (xs.length ≤ 20) && xs.all atomB
  | d => atomB d
theorem partB_ok {S : Sto} {d : D} (h : partB d = true) : Thing S d := by
  cases d with
  | tup xs =>
    have h : (decide (xs.length ≤ 20) && xs.all atomB) = true := h
    rw [Bool.and_eq_true, List.all_eq_true] at h
    exact .inr (.inl ⟨xs, rfl, of_decide_eq_true h.1, fun x hx => atomB_ok (h.2 x hx)⟩)
  | _ => exact .inl (atomB_ok h)
theorem D13_ok : ∀ xs ∈ D6 ++ D7, 1 ≤ xs.length ∧ xs.length ≤ 5 ∧ ∀ x ∈ xs, partB x = true := by
  have : ((D6 ++ D7).all fun xs => decide (1 ≤ xs.length) && (decide (xs.length ≤ 5) && xs.all partB)) = true := by decide +kernel
  intro xs hx
  have := List.all_eq_true.mp this xs hx
  simp only [Bool.and_eq_true, decide_eq_true_eq, List.all_eq_true] at this
  exact this

theorem cut_sub {ds : List D} {lo hi : Option Int} : (M2.cutD ds lo hi).length ≤ ds.length ∧ ∀ x ∈ M2.cutD ds lo hi, x ∈ ds := by
  unfold M2.cutD
  constructor
  · rw [List.length_take, List.length_drop]; omega
  · intro x hx
    exact List.mem_of_mem_drop (List.mem_of_mem_take hx)
theorem sl_tup {S : Sto} {ds : List D} {lo hi : Option Int} : oSl (.tup ds) lo hi S = some (.tup (M2.cutD ds lo hi), S) := rfl
theorem add_tt {S : Sto} {xs ys : List D} (h : xs.length + ys.length ≤ 1000) : oAdd (.tup xs) (.tup ys) S = some (.tup (xs ++ ys), S) := by
  show (if xs.length + ys.length ≤ sizeLine then some (D.tup (xs ++ ys), S) else none) = _
  rw [if_pos (by rw [sizeLine_eq]; omega)]
theorem add_ll {S : Sto} {m n : Nat} {xs ys : List D} (h1 : S[m]? = some (.lst true xs)) (h2 : S[n]? = some (.lst true ys)) (h : xs.length + ys.length ≤ 1000) : oAdd (.loc m) (.loc n) S = some (.loc S.length, S ++ [.lst true (xs ++ ys)]) := by
  show (match S[m]?, S[n]? with
    | some (.lst true xs), some (.lst true ys) => if xs.length + ys.length ≤ sizeLine then some (D.loc S.length, S ++ [SO.lst true (xs ++ ys)]) else none
    | _, _ => none) = _
  rw [h1, h2]
  show (if xs.length + ys.length ≤ sizeLine then some (D.loc S.length, S ++ [SO.lst true (xs ++ ys)]) else none) = _
  rw [if_pos (by rw [sizeLine_eq]; omega)]
theorem head_run {a : D} {S S1 S2 S3 S4 : Sto} {l6 l7 dr : MV} {p q n : D} {ds : List D} {i : Int} {rest : MS} (h1 : l6 [some a, none, none, none] S = .ok p S1) (h2 : l7 [some a, some p, none, none] S1 = .ok q S2) (h3 : oAdd p q S2 = some (n, S3))
    (h4 : dr [some a, some n, none, none] S3 = .ok (.int i) S4) (h5 : oIx n (.int i) S4 = some (.tup ds, S4)) :
    (sSeq (sAsg l6 (tgN 1)) (sSeq (sAsg (mBin oAdd (mVar 1) l7) (tgN 1)) (sSeq (sAsg (mBin oIx (mVar 1) dr) (tgN 2)) rest))) [some a, none, none, none] S = rest [some a, some n, some (.tup ds), none] S4 := by
  simp only [mDef, sRet, sSeq, sIf, sExpr, sAsg, sNx, sBk, sCt, sPut, tgN, mBin, mUn, mMeth, mL, mM, mC, mVar, aNil, aCons, mTup, mLst, mIf, mSl, mChain, mAnd2, mOr2, mNot, tBl, tVal, tAnd2, tOr2, tNot2, startE, Rs.bind, Rs.bindS, lift, mCall, mCallC, mCall0, Rs.cold, List.length_cons, List.length_nil, List.map_cons, List.map_nil, List.replicate, List.append_eq, List.cons_append, List.nil_append, List.getElem?_cons_zero, List.getElem?_cons_succ, List.getElem?_nil, List.set_cons_zero, List.set_cons_succ, Nat.sub_self, Nat.reduceSub, Nat.reduceAdd, if_true, if_false, decide_true, decide_false, Option.map_some, Option.map_none, ite_true, ite_false, reduceIte, beq_self_eq_true, Bool.false_eq_true, Nat.zero_add, int_i, add_ii, sub_ii, lt_ii, gt_ii, ge_ii, le_ii, h1, h2, h3, h4, h5]
theorem ret_run {e : Nv} {S S1 : Sto} {d3 : MV} {rest : MS} {ds : List D} {r : Int} (he : e[2]? = some (some (.tup ds))) (h1 : d3 e S = .ok (.int r) S1) : (sSeq (sIf (tBl (mBin oEq d3 (mC (.int 0)))) (sRet (mVar 2)) sNx) rest) e S = if r = 0 then .rt (.tup ds) S1 else rest e S1 := by
  by_cases h : r = 0
  · rw [if_pos h]
    simp only [mDef, sRet, sSeq, sIf, sExpr, sAsg, sNx, sBk, sCt, sPut, tgN, mBin, mUn, mMeth, mL, mM, mC, mVar, aNil, aCons, mTup, mLst, mIf, mSl, mChain, mAnd2, mOr2, mNot, tBl, tVal, tAnd2, tOr2, tNot2, startE, Rs.bind, Rs.bindS, lift, mCall, mCallC, mCall0, Rs.cold, List.length_cons, List.length_nil, List.map_cons, List.map_nil, List.replicate, List.append_eq, List.cons_append, List.nil_append, List.getElem?_cons_zero, List.getElem?_cons_succ, List.getElem?_nil, List.set_cons_zero, List.set_cons_succ, Nat.sub_self, Nat.reduceSub, Nat.reduceAdd, if_true, if_false, decide_true, decide_false, Option.map_some, Option.map_none, ite_true, ite_false, reduceIte, beq_self_eq_true, Bool.false_eq_true, Nat.zero_add, int_i, add_ii, sub_ii, lt_ii, gt_ii, ge_ii, le_ii, h1, eq_ii, decide_eq_true h, he]
  · rw [if_neg h]
    simp only [mDef, sRet, sSeq, sIf, sExpr, sAsg, sNx, sBk, sCt, sPut, tgN, mBin, mUn, mMeth, mL, mM, mC, mVar, aNil, aCons, mTup, mLst, mIf, mSl, mChain, mAnd2, mOr2, mNot, tBl, tVal, tAnd2, tOr2, tNot2, startE, Rs.bind, Rs.bindS, lift, mCall, mCallC, mCall0, Rs.cold, List.length_cons, List.length_nil, List.map_cons, List.map_nil, List.replicate, List.append_eq, List.cons_append, List.nil_append, List.getElem?_cons_zero, List.getElem?_cons_succ, List.getElem?_nil, List.set_cons_zero, List.set_cons_succ, Nat.sub_self, Nat.reduceSub, Nat.reduceAdd, if_true, if_false, decide_true, decide_false, Option.map_some, Option.map_none, ite_true, ite_false, reduceIte, beq_self_eq_true, Bool.false_eq_true, Nat.zero_add, int_i, add_ii, sub_ii, lt_ii, gt_ii, ge_ii, le_ii, h1, eq_ii, decide_eq_false h]
theorem at_run {a n : D} {S S1 : Sto} {dr : MV} {rest : MS} {ds : List D} {r : Int} (hl : 0 < ds.length) (h1 : dr [some a, some n, some (.tup ds), none] S = .ok (.int r) S1) :
    (sSeq (sAsg (mBin oMod (mL oInt (aCons dr aNil)) (mL oLen (aCons (mVar 2) aNil))) (tgN 3)) rest) [some a, some n, some (.tup ds), none] S = rest [some a, some n, some (.tup ds), some (.int (r % ds.length))] S1 := by
  have m : oMod (.int r) (.int (ds.length : Int)) S1 = some (.int (r % ds.length), S1) := mod_ii (by omega)
  simp only [mDef, sRet, sSeq, sIf, sExpr, sAsg, sNx, sBk, sCt, sPut, tgN, mBin, mUn, mMeth, mL, mM, mC, mVar, aNil, aCons, mTup, mLst, mIf, mSl, mChain, mAnd2, mOr2, mNot, tBl, tVal, tAnd2, tOr2, tNot2, startE, Rs.bind, Rs.bindS, lift, mCall, mCallC, mCall0, Rs.cold, List.length_cons, List.length_nil, List.map_cons, List.map_nil, List.replicate, List.append_eq, List.cons_append, List.nil_append, List.getElem?_cons_zero, List.getElem?_cons_succ, List.getElem?_nil, List.set_cons_zero, List.set_cons_succ, Nat.sub_self, Nat.reduceSub, Nat.reduceAdd, if_true, if_false, decide_true, decide_false, Option.map_some, Option.map_none, ite_true, ite_false, reduceIte, beq_self_eq_true, Bool.false_eq_true, Nat.zero_add, int_i, add_ii, sub_ii, lt_ii, gt_ii, ge_ii, le_ii, h1, len_tup, m]
theorem drop_run {a n : D} {S S1 : Sto} {d6 : MV} {rest : MS} {ds : List D} {r at_ : Int} (hz : ds.length ≤ 20) (h1 : d6 [some a, some n, some (.tup ds), some (.int at_)] S = .ok (.int r) S1) :
    (sSeq (sIf (tBl (mBin oEq d6 (mC (.int 0)))) (sRet (mBin oAdd (mSl (mVar 2) pNo (pAt (mVar 3))) (mSl (mVar 2) (pAt (mBin oAdd (mVar 3) (mC (.int 1)))) pNo))) sNx) rest) [some a, some n, some (.tup ds), some (.int at_)] S =
      if r = 0 then .rt (.tup (M2.cutD ds none (some at_) ++ M2.cutD ds (some (at_ + 1)) none)) S1 else rest [some a, some n, some (.tup ds), some (.int at_)] S1 := by
  have c1 := (cut_sub (ds := ds) (lo := none) (hi := some at_)).1
  have c2 := (cut_sub (ds := ds) (lo := some (at_ + 1)) (hi := none)).1
  have f1 := add_tt (S := S1) (xs := M2.cutD ds none (some at_)) (ys := M2.cutD ds (some (at_ + 1)) none) (by omega)
  by_cases h : r = 0
  · rw [if_pos h]
    simp only [mDef, sRet, sSeq, sIf, sExpr, sAsg, sNx, sBk, sCt, sPut, tgN, mBin, mUn, mMeth, mL, mM, mC, mVar, aNil, aCons, mTup, mLst, mIf, mSl, mChain, mAnd2, mOr2, mNot, tBl, tVal, tAnd2, tOr2, tNot2, startE, Rs.bind, Rs.bindS, lift, mCall, mCallC, mCall0, Rs.cold, List.length_cons, List.length_nil, List.map_cons, List.map_nil, List.replicate, List.append_eq, List.cons_append, List.nil_append, List.getElem?_cons_zero, List.getElem?_cons_succ, List.getElem?_nil, List.set_cons_zero, List.set_cons_succ, Nat.sub_self, Nat.reduceSub, Nat.reduceAdd, if_true, if_false, decide_true, decide_false, Option.map_some, Option.map_none, ite_true, ite_false, reduceIte, beq_self_eq_true, Bool.false_eq_true, Nat.zero_add, int_i, add_ii, sub_ii, lt_ii, gt_ii, ge_ii, le_ii, h1, eq_ii, decide_eq_true h, pNo, pAt, sl_tup, f1]
  · rw [if_neg h]
    simp only [mDef, sRet, sSeq, sIf, sExpr, sAsg, sNx, sBk, sCt, sPut, tgN, mBin, mUn, mMeth, mL, mM, mC, mVar, aNil, aCons, mTup, mLst, mIf, mSl, mChain, mAnd2, mOr2, mNot, tBl, tVal, tAnd2, tOr2, tNot2, startE, Rs.bind, Rs.bindS, lift, mCall, mCallC, mCall0, Rs.cold, List.length_cons, List.length_nil, List.map_cons, List.map_nil, List.replicate, List.append_eq, List.cons_append, List.nil_append, List.getElem?_cons_zero, List.getElem?_cons_succ, List.getElem?_nil, List.set_cons_zero, List.set_cons_succ, Nat.sub_self, Nat.reduceSub, Nat.reduceAdd, if_true, if_false, decide_true, decide_false, Option.map_some, Option.map_none, ite_true, ite_false, reduceIte, beq_self_eq_true, Bool.false_eq_true, Nat.zero_add, int_i, add_ii, sub_ii, lt_ii, gt_ii, ge_ii, le_ii, h1, eq_ii, decide_eq_false h]
theorem put_run {a n d : D} {S S1 : Sto} {th : MV} {ds : List D} {at_ : Int} (hz : ds.length ≤ 20) (h1 : th [some a, some n, some (.tup ds), some (.int at_)] S = .ok d S1) :
    (sRet (mBin oAdd (mBin oAdd (mSl (mVar 2) pNo (pAt (mVar 3))) (mTup (aCons th aNil))) (mSl (mVar 2) (pAt (mBin oAdd (mVar 3) (mC (.int 1)))) pNo))) [some a, some n, some (.tup ds), some (.int at_)] S =
      .rt (.tup ((M2.cutD ds none (some at_) ++ [d]) ++ M2.cutD ds (some (at_ + 1)) none)) S1 := by
  have c1 := (cut_sub (ds := ds) (lo := none) (hi := some at_)).1
  have c2 := (cut_sub (ds := ds) (lo := some (at_ + 1)) (hi := none)).1
  have z1 : (1 ≤ sizeLine) = True := eq_true (by rw [sizeLine_eq]; omega)
  have f1 := add_tt (S := S1) (xs := M2.cutD ds none (some at_)) (ys := [d]) (by simp; omega)
  have f2 := add_tt (S := S1) (xs := M2.cutD ds none (some at_) ++ [d]) (ys := M2.cutD ds (some (at_ + 1)) none) (by simp; omega)
  simp only [mDef, sRet, sSeq, sIf, sExpr, sAsg, sNx, sBk, sCt, sPut, tgN, mBin, mUn, mMeth, mL, mM, mC, mVar, aNil, aCons, mTup, mLst, mIf, mSl, mChain, mAnd2, mOr2, mNot, tBl, tVal, tAnd2, tOr2, tNot2, startE, Rs.bind, Rs.bindS, lift, mCall, mCallC, mCall0, Rs.cold, List.length_cons, List.length_nil, List.map_cons, List.map_nil, List.replicate, List.append_eq, List.cons_append, List.nil_append, List.getElem?_cons_zero, List.getElem?_cons_succ, List.getElem?_nil, List.set_cons_zero, List.set_cons_succ, Nat.sub_self, Nat.reduceSub, Nat.reduceAdd, if_true, if_false, decide_true, decide_false, Option.map_some, Option.map_none, ite_true, ite_false, reduceIte, beq_self_eq_true, Bool.false_eq_true, Nat.zero_add, int_i, add_ii, sub_ii, lt_ii, gt_ii, ge_ii, le_ii, h1, pNo, pAt, sl_tup, z1, f1, f2]

theorem def4_rt {a d : D} {S S1 : Sto} {body : MS} (h : body [some a, none, none, none] S = .rt d S1) : mDef 4 1 body [a] S = .ok d S1 := by
  simp only [mDef, sRet, sSeq, sIf, sExpr, sAsg, sNx, sBk, sCt, sPut, tgN, mBin, mUn, mMeth, mL, mM, mC, mVar, aNil, aCons, mTup, mLst, mIf, mSl, mChain, mAnd2, mOr2, mNot, tBl, tVal, tAnd2, tOr2, tNot2, startE, Rs.bind, Rs.bindS, lift, mCall, mCallC, mCall0, Rs.cold, List.length_cons, List.length_nil, List.map_cons, List.map_nil, List.replicate, List.append_eq, List.cons_append, List.nil_append, List.getElem?_cons_zero, List.getElem?_cons_succ, List.getElem?_nil, List.set_cons_zero, List.set_cons_succ, Nat.sub_self, Nat.reduceSub, Nat.reduceAdd, if_true, if_false, decide_true, decide_false, Option.map_some, Option.map_none, ite_true, ite_false, reduceIte, beq_self_eq_true, Bool.false_eq_true, Nat.zero_add, int_i, add_ii, sub_ii, lt_ii, gt_ii, ge_ii, le_ii, h]
theorem draws_ok {S : Sto} {b k dl : Nat} {ds : List Int} (B : BoxD S b k dl ds) (hk : k < 2 ^ 170) : ∃ (xs : List D) (S' : Sto) (k' : Nat), m__law_deed_drawn [.loc b] S = .ok (.tup xs) S' ∧ xs.length ≤ 20 ∧ (∀ x ∈ xs, Thing S' x) ∧ Stp b dl ds 80 S k S' k' := by
  generalize hS1 : S ++ [SO.lst true (D6.map .tup)] = S1
  generalize hS2 : S1 ++ [SO.lst true (D7.map .tup)] = S2
  generalize hS3 : S2 ++ [SO.lst true (D6.map .tup ++ D7.map .tup)] = S3
  have g : Gr S S3 := by rw [← hS3, ← hS2, ← hS1]; exact ((Gr.one _ _).trans (Gr.one _ _)).trans (Gr.one _ _)
  have s0 := Stp.gr B g
  have hb := B.lt
  have l1 : S1.length = S.length + 1 := by rw [← hS1]; simp
  have l2 : S2.length = S.length + 2 := by rw [← hS2]; simp [l1]
  have p1 : S2[S.length]? = some (.lst true (D6.map .tup)) := by rw [← hS2, ← hS1]; simp
  have p2 : S2[S1.length]? = some (.lst true (D7.map .tup)) := by rw [← hS2]; simp
  have f3 : oAdd (.loc S.length) (.loc S1.length) S2 = some (.loc S2.length, S3) := by rw [← hS3]; exact add_ll p1 p2 (by decide)
  obtain ⟨r, S4, a1, a2, a3, a4, a5⟩ := draw_st (many := 13) s0.box (by omega) (by decide)
  have p3 : S4[S2.length]? = some (.lst true (D6.map .tup ++ D7.map .tup)) := a4.ext.get (by rw [← hS3]; simp) (by omega)
  obtain ⟨d, hd, hx⟩ := ix_mem (r := r) p3 a1 (by rw [← List.map_append, List.length_map]; exact a2)
  rw [← List.map_append] at hd
  obtain ⟨ds0, hds, rfl⟩ := List.mem_map.mp hd
  obtain ⟨d1, d2, d3⟩ := D13_ok ds0 hds
  obtain ⟨r2, S5, b1, b2, b3, b4, b5⟩ := draw_st (many := 3) a4.box (by omega) (by decide)
  have e1 := lit6_eq (e := [some (.loc b), none, none, none]) (S := S)
  have e2 := lit7_eq (e := [some (.loc b), some (.loc S.length), none, none]) (S := S1)
  rw [hS1] at e1
  rw [hS2] at e2
  have e3 := call_draw (e := [some (.loc b), some (.loc S2.length), none, none]) rfl a3
  have e4 := call_draw (e := [some (.loc b), some (.loc S2.length), some (.tup ds0), none]) rfl b3
  have part : ∀ S' : Sto, ∀ x ∈ ds0, Thing S' x := fun S' x hx => partB_ok (d3 x hx)
  by_cases h0 : r2 = 0
  · refine ⟨ds0, S5, _, def4_rt ?_, by omega, part S5, ((s0.trans a4).trans b4).mono (by omega)⟩
    refine (head_run e1 e2 f3 e3 hx).trans ?_
    refine (ret_run rfl e4).trans ?_
    rw [if_pos h0]
  · obtain ⟨r3, S6, c1, c2, c3, c4, c5⟩ := draw_st (many := 900) b4.box (by omega) (by decide)
    have e5 := call_draw (e := [some (.loc b), some (.loc S2.length), some (.tup ds0), none]) rfl c3
    generalize hat : r3 % (ds0.length : Int) = at_
    obtain ⟨r4, S7, g1, g2, g3, g4, g5⟩ := draw_st (many := 6) c4.box (by omega) (by decide)
    have e6 := call_draw (e := [some (.loc b), some (.loc S2.length), some (.tup ds0), some (.int at_)]) rfl g3
    have k1 := cut_sub (ds := ds0) (lo := none) (hi := some at_)
    have k2 := cut_sub (ds := ds0) (lo := some (at_ + 1)) (hi := none)
    have stp := ((s0.trans a4).trans b4).trans c4 |>.trans g4
    by_cases h1 : r4 = 0
    · refine ⟨M2.cutD ds0 none (some at_) ++ M2.cutD ds0 (some (at_ + 1)) none, S7, _, def4_rt ?_, by rw [List.length_append]; omega, fun x hx => ?_, stp.mono (by omega)⟩
      · refine (head_run e1 e2 f3 e3 hx).trans ?_
        refine (ret_run rfl e4).trans ?_
        rw [if_neg h0]
        refine (at_run (by omega) e5).trans ?_
        rw [hat]
        refine (drop_run (by omega) e6).trans ?_
        rw [if_pos h1]
      · rcases List.mem_append.mp hx with q | q
        · exact part _ x (k1.2 x q)
        · exact part _ x (k2.2 x q)
    · obtain ⟨th, S8, k8, t1, t2, t3⟩ := thing_ok g4.box (by omega)
      have e7 := call_one (e := [some (.loc b), some (.loc S2.length), some (.tup ds0), some (.int at_)]) rfl t1
      refine ⟨(M2.cutD ds0 none (some at_) ++ [th]) ++ M2.cutD ds0 (some (at_ + 1)) none, S8, k8, def4_rt ?_, by rw [List.length_append, List.length_append, List.length_singleton]; omega, fun x hx => ?_, (stp.trans t3).mono (by omega)⟩
      · refine (head_run e1 e2 f3 e3 hx).trans ?_
        refine (ret_run rfl e4).trans ?_
        rw [if_neg h0]
        refine (at_run (by omega) e5).trans ?_
        rw [hat]
        refine (drop_run (by omega) e6).trans ?_
        rw [if_neg h1]
        exact put_run (by omega) e7
      · rcases List.mem_append.mp hx with q | q
        · rcases List.mem_append.mp q with q | q
          · exact part _ x (k1.2 x q)
          · rw [List.mem_singleton.mp q]; exact t2
        · exact part _ x (k2.2 x q)
end K29
end

section
set_option Elab.async false
set_option linter.all false
set_option maxRecDepth 100000
/-! P13: law k29, plainly: things are as the lemmas ask. -/
namespace K29
open PySem PySem.Spec M2 P0
set_option autoImplicit false
/-- an atom as data -/
theorem atom_p {S : Sto} {d : D} (h : Atom d) : ∃ p, toP 1 S d = some p ∧ p.canLay0 = true ∧ p.depth = 0 := by
  rcases h with ⟨x, rfl, hx⟩ | rfl | ⟨b, rfl⟩ | ⟨i, rfl, _⟩
  · exact ⟨.str x, rfl, hx.ok.2, rfl⟩
  · exact ⟨.none, rfl, rfl, rfl⟩
  · exact ⟨.bool b, rfl, rfl, rfl⟩
  · exact ⟨.int i, rfl, rfl, rfl⟩
theorem atoms_p {S : Sto} {n : Nat} (hn : 1 ≤ n) : ∀ {xs : List D}, (∀ x ∈ xs, Atom x) → ∃ ps, xs.mapM (toP n S) = some ps ∧ PyData.canLayAll0 ps = true ∧ PyData.depthAll ps = 0
  | [], _ => ⟨[], rfl, rfl, rfl⟩
  | x :: xs, h => by
    obtain ⟨p, h1, h2, h3⟩ := atom_p (S := S) (h x List.mem_cons_self)
    obtain ⟨ps, k1, k2, k3⟩ := atoms_p hn fun y hy => h y (List.mem_cons_of_mem _ hy)
    refine ⟨p :: ps, ?_, ?_, ?_⟩
    · rw [List.mapM_cons, toP_mono h1 hn (Gr.refl _), k1]; rfl
    · show (PyData.canLay0 p && PyData.canLayAll0 ps) = true
      rw [h2, k2]; rfl
    · show max (PyData.depth p) (PyData.depthAll ps) = 0
      omega
theorem Atom.pd {S : Sto} {d : D} (h : Atom d) : PD S d := by
  obtain ⟨p, h1, h2, h3⟩ := atom_p (S := S) h
  exact ⟨p, toP_mono h1 (by decide) (Gr.refl _), h2, by omega⟩
theorem Thing.pd {S : Sto} {d : D} (h : Thing S d) : PD S d := by
  rcases h with h | ⟨xs, rfl, _, hx⟩ | ⟨n, xs, rfl, e, _, hx⟩
  · exact h.pd
  · obtain ⟨ps, k1, k2, k3⟩ := atoms_p (S := S) (n := 39) (by decide) hx
    refine ⟨.tuple ps, ?_, k2, ?_⟩
    · show (xs.mapM (toP 39 S)).map PyData.tuple = _
      rw [k1]; rfl
    · show PyData.depthAll ps + 1 ≤ 40
      omega
  · obtain ⟨ps, k1, k2, k3⟩ := atoms_p (S := S) (n := 39) (by decide) hx
    refine ⟨.list ps, ?_, k2, ?_⟩
    · show (match S[n]? with
        | some (.lst _ ds) => (ds.mapM (toP 39 S)).map PyData.list
        | _ => none) = _
      rw [e]
      show (xs.mapM (toP 39 S)).map PyData.list = _
      rw [k1]; rfl
    · show PyData.depthAll ps + 1 ≤ 40
      omega
theorem Thing.wf {S : Sto} {d : D} (h : Thing S d) : WF S d := by
  have p := h.pd
  rcases h with (⟨x, rfl, hx⟩ | rfl | ⟨b, rfl⟩ | ⟨i, rfl, _⟩) | ⟨xs, rfl, _, _⟩ | ⟨n, xs, rfl, e, _, _⟩
  · exact .inl ⟨x, rfl, hx.ok⟩
  · exact .inr ⟨⟨"NoneType", rfl, by decide⟩, p⟩
  · exact .inr ⟨⟨"bool", rfl, by decide⟩, p⟩
  · exact .inr ⟨⟨"int", rfl, by decide⟩, p⟩
  · exact .inr ⟨⟨"tuple", rfl, by decide⟩, p⟩
  · refine .inr ⟨⟨"list", ?_, by decide⟩, p⟩
    show (match S[n]? with
      | some (.lst _ _) => some "list"
      | some (.dic _) => some "dict"
      | none => none) = _
    rw [e]
theorem Atom.low {d : D} (h : Atom d) : Low d := by
  intro i e
  subst e
  rcases h with ⟨x, e, _⟩ | e | ⟨b, e⟩ | ⟨j, e, h1, _⟩
  · cases e
  · cases e
  · cases e
  · cases e
    unfold low30
    omega
theorem Atom.thing {S : Sto} {d : D} (h : Atom d) : Thing S d := .inl h
theorem Thing.gr {S S' : Sto} {d : D} (h : Thing S d) (g : Gr S S') : Thing S' d := by
  rcases h with h | h | ⟨n, xs, e, h1, h2⟩
  · exact .inl h
  · exact .inr (.inl h)
  · exact .inr (.inr ⟨n, xs, e, g.get h1, h2⟩)
end K29
end

section
set_option Elab.async false
set_option linter.all false
set_option maxRecDepth 100000
/-! P14: law k29, plainly: what each test tells of a thing. -/
namespace K29
open PySem PySem.Spec M2 P0
set_option autoImplicit false
theorem thing_tup {S : Sto} {xs : List D} (h : Thing S (.tup xs)) : xs.length ≤ 20 ∧ ∀ x ∈ xs, Atom x := by
  rcases h with (⟨x, e, _⟩ | e | ⟨b, e⟩ | ⟨i, e, _⟩) | ⟨ys, e, h1, h2⟩ | ⟨n, ys, e, _⟩
  · cases e
  · cases e
  · cases e
  · cases e
  · cases e; exact ⟨h1, h2⟩
  · cases e
/-- a tuple, or something else that has a type -/
theorem tup_or {S : Sto} {d : D} (h : Thing S d) : (∃ xs, d = .tup xs ∧ xs.length ≤ 20 ∧ ∀ x ∈ xs, Atom x) ∨ ((∀ xs, d ≠ .tup xs) ∧ ∃ t, tyD S d = some t ∧ t ≠ "tuple" ∧ L2.kitB t "tuple" = some false) := by
  have w := h.wf
  rcases h with (⟨x, rfl, hx⟩ | rfl | ⟨b, rfl⟩ | ⟨i, rfl, _⟩) | ⟨xs, rfl, h1, h2⟩ | ⟨n, xs, rfl, e, _, _⟩
  · exact .inr ⟨fun xs e => (by cases e), "str", rfl, by decide, rfl⟩
  · exact .inr ⟨fun xs e => (by cases e), "NoneType", rfl, by decide, rfl⟩
  · exact .inr ⟨fun xs e => (by cases e), "bool", rfl, by decide, rfl⟩
  · exact .inr ⟨fun xs e => (by cases e), "int", rfl, by decide, rfl⟩
  · exact .inl ⟨xs, rfl, h1, h2⟩
  · refine .inr ⟨fun xs e => (by cases e), "list", ?_, by decide, rfl⟩
    show (match S[n]? with
      | some (.lst _ _) => some "list"
      | some (.dic _) => some "dict"
      | none => none) = _
    rw [e]
def tupT (f : List D → Bool) : D → Bool
  | .tup xs => f xs
  | _ => false
theorem tupT_not {f : List D → Bool} {d : D} (h : ∀ xs, d ≠ .tup xs) : tupT f d = false := by
  cases d with
  | tup xs => exact absurd rfl (h xs)
  | _ => rfl
theorem atoms_wf {S : Sto} {xs : List D} (h : ∀ x ∈ xs, Atom x) : ∀ x ∈ xs, WF S x := fun x hx => (Atom.thing (S := S) (h x hx)).wf
theorem flags_thing {S : Sto} {d : D} (h : Thing S d) : ∃ S', m_are_flags [d] S = .ok (.bl (tupT flagsB d)) S' ∧ Gr S S' := by
  rcases tup_or h with ⟨xs, rfl, h1, h2⟩ | ⟨hn, t, h1, h2, h3⟩
  · exact flags_tup (by omega) (atoms_wf h2)
  · refine ⟨S, ?_, Gr.refl _⟩
    rw [tupT_not hn]
    have f1 := type_of h1
    have f2 : oIsNot (.ty t) (.ty "tuple") S = some (.bl true, S) := by rw [isNot_ty, decide_eq_false h2]; rfl
    unfold m_are_flags b_are_flags
    generalize mLcC _ _ _ _ _ = mm
    generalize m_are_ascending = ma
    simp only [mDef, sRet, sSeq, sIf, sExpr, sAsg, sNx, sBk, sCt, sPut, tgN, mBin, mUn, mMeth, mL, mM, mC, mVar, aNil, aCons, mTup, mLst, mIf, mSl, mChain, mAnd2, mOr2, mNot, tBl, tVal, tAnd2, tOr2, tNot2, startE, Rs.bind, Rs.bindS, lift, mCall, mCallC, mCall0, Rs.cold, List.length_cons, List.length_nil, List.map_cons, List.map_nil, List.replicate, List.append_eq, List.cons_append, List.nil_append, List.getElem?_cons_zero, List.getElem?_cons_succ, List.getElem?_nil, List.set_cons_zero, List.set_cons_succ, Nat.sub_self, Nat.reduceSub, Nat.reduceAdd, if_true, if_false, decide_true, decide_false, Option.map_some, Option.map_none, ite_true, ite_false, reduceIte, beq_self_eq_true, Bool.false_eq_true, Nat.zero_add, int_i, add_ii, sub_ii, lt_ii, gt_ii, ge_ii, le_ii, f1, f2]
theorem uids_thing {S : Sto} {d : D} (h : Thing S d) : ∃ S', m_are_uids [d] S = .ok (.bl (tupT uidsB d)) S' ∧ Gr S S' := by
  rcases tup_or h with ⟨xs, rfl, h1, h2⟩ | ⟨hn, t, h1, h2, h3⟩
  · exact uids_tup (by omega) (atoms_wf h2)
  · refine ⟨S, ?_, Gr.refl _⟩
    rw [tupT_not hn]
    have f1 := type_of h1
    have f2 : oIsNot (.ty t) (.ty "tuple") S = some (.bl true, S) := by rw [isNot_ty, decide_eq_false h2]; rfl
    unfold m_are_uids b_are_uids
    generalize mLcC _ _ _ _ _ = mm
    generalize m_are_ascending = ma
    simp only [mDef, sRet, sSeq, sIf, sExpr, sAsg, sNx, sBk, sCt, sPut, tgN, mBin, mUn, mMeth, mL, mM, mC, mVar, aNil, aCons, mTup, mLst, mIf, mSl, mChain, mAnd2, mOr2, mNot, tBl, tVal, tAnd2, tOr2, tNot2, startE, Rs.bind, Rs.bindS, lift, mCall, mCallC, mCall0, Rs.cold, List.length_cons, List.length_nil, List.map_cons, List.map_nil, List.replicate, List.append_eq, List.cons_append, List.nil_append, List.getElem?_cons_zero, List.getElem?_cons_succ, List.getElem?_nil, List.set_cons_zero, List.set_cons_succ, Nat.sub_self, Nat.reduceSub, Nat.reduceAdd, if_true, if_false, decide_true, decide_false, Option.map_some, Option.map_none, ite_true, ite_false, reduceIte, beq_self_eq_true, Bool.false_eq_true, Nat.zero_add, int_i, add_ii, sub_ii, lt_ii, gt_ii, ge_ii, le_ii, f1, f2]
theorem lflags_thing {S : Sto} {d : D} (h : Thing S d) : ∃ S', m__law_flags [d] S = .ok (.bl (tupT flagsB d)) S' ∧ Gr S S' := by
  rcases tup_or h with ⟨xs, rfl, h1, h2⟩ | ⟨hn, t, h1, h2, h3⟩
  · exact lflags_tup (by omega) (atoms_wf h2)
  · refine ⟨S, ?_, Gr.refl _⟩
    rw [tupT_not hn]
    have f1 := isi_of h1 h3
    unfold m__law_flags b__law_flags
    generalize mLcC _ _ _ _ _ = mm
    simp only [mDef, sRet, sSeq, sIf, sExpr, sAsg, sNx, sBk, sCt, sPut, tgN, mBin, mUn, mMeth, mL, mM, mC, mVar, aNil, aCons, mTup, mLst, mIf, mSl, mChain, mAnd2, mOr2, mNot, tBl, tVal, tAnd2, tOr2, tNot2, startE, Rs.bind, Rs.bindS, lift, mCall, mCallC, mCall0, Rs.cold, List.length_cons, List.length_nil, List.map_cons, List.map_nil, List.replicate, List.append_eq, List.cons_append, List.nil_append, List.getElem?_cons_zero, List.getElem?_cons_succ, List.getElem?_nil, List.set_cons_zero, List.set_cons_succ, Nat.sub_self, Nat.reduceSub, Nat.reduceAdd, if_true, if_false, decide_true, decide_false, Option.map_some, Option.map_none, ite_true, ite_false, reduceIte, beq_self_eq_true, Bool.false_eq_true, Nat.zero_add, int_i, add_ii, sub_ii, lt_ii, gt_ii, ge_ii, le_ii, f1]
theorem luids_thing {S : Sto} {d : D} (h : Thing S d) : ∃ S', m__law_uids [d] S = .ok (.bl (tupT uidsB d)) S' ∧ Gr S S' := by
  rcases tup_or h with ⟨xs, rfl, h1, h2⟩ | ⟨hn, t, h1, h2, h3⟩
  · exact luids_tup (by omega) (atoms_wf h2) fun x hx => (h2 x hx).low
  · refine ⟨S, ?_, Gr.refl _⟩
    rw [tupT_not hn]
    have f1 := isi_of h1 h3
    unfold m__law_uids b__law_uids
    generalize mLcC _ _ _ _ _ = mm
    simp only [mDef, sRet, sSeq, sIf, sExpr, sAsg, sNx, sBk, sCt, sPut, tgN, mBin, mUn, mMeth, mL, mM, mC, mVar, aNil, aCons, mTup, mLst, mIf, mSl, mChain, mAnd2, mOr2, mNot, tBl, tVal, tAnd2, tOr2, tNot2, startE, Rs.bind, Rs.bindS, lift, mCall, mCallC, mCall0, Rs.cold, List.length_cons, List.length_nil, List.map_cons, List.map_nil, List.replicate, List.append_eq, List.cons_append, List.nil_append, List.getElem?_cons_zero, List.getElem?_cons_succ, List.getElem?_nil, List.set_cons_zero, List.set_cons_succ, Nat.sub_self, Nat.reduceSub, Nat.reduceAdd, if_true, if_false, decide_true, decide_false, Option.map_some, Option.map_none, ite_true, ite_false, reduceIte, beq_self_eq_true, Bool.false_eq_true, Nat.zero_add, int_i, add_ii, sub_ii, lt_ii, gt_ii, ge_ii, le_ii, f1, truth, Bool.not_false]
/-- of a text -/
def strT (f : Str → Bool) : D → Bool
  | .str x => f x
  | _ => false
theorem strT_not {S : Sto} {f : Str → Bool} {d : D} (h : NotStr S d) : strT f d = false := by
  cases d with
  | str x =>
    obtain ⟨t, h1, h2⟩ := h
    cases h1
    exact absurd rfl h2
  | _ => rfl
theorem name_thing {S : Sto} {d : D} (h : Thing S d) : m_is_name [d] S = .ok (.bl (strT nameB d)) S := by
  rcases h.wf with ⟨x, rfl, hx⟩ | ⟨hn, _⟩
  · exact name_str hx
  · rw [strT_not hn]; exact name_not hn
theorem lname_thing {S : Sto} {d : D} (h : Thing S d) : ∃ S', m__law_name [d] S = .ok (.bl (strT nameB d)) S' ∧ Gr S S' := by
  rcases h.wf with ⟨x, rfl, hx⟩ | ⟨hn, _⟩
  · exact lname_str hx
  · rw [strT_not hn]; exact ⟨S, lname_not hn, Gr.refl _⟩
theorem rights_thing {S : Sto} {d : D} (h : Thing S d) : ∃ S', m_are_rights [d] S = .ok (.bl (strT (fun x => decide (x = ordV x)) d)) S' ∧ Gr S S' := by
  rcases h.wf with ⟨x, rfl, hx⟩ | ⟨hn, _⟩
  · exact rights_str
  · rw [strT_not hn]; exact ⟨S, rights_not hn, Gr.refl _⟩
theorem letters_thing {S : Sto} {d : D} (h : Thing S d) : ∃ S', m__law_letters [d] S = .ok (.bl (strT (fun x => decide (x = ordV x)) d)) S' ∧ Gr S S' := by
  rcases h.wf with ⟨x, rfl, hx⟩ | ⟨hn, _⟩
  · exact letters_str
  · rw [strT_not hn]; exact ⟨S, letters_not hn, Gr.refl _⟩
end K29
end

section
set_option Elab.async false
set_option linter.all false
set_option maxRecDepth 100000
/-! P15: law k29, plainly: the other parts of deeds. -/
namespace K29
open PySem PySem.Spec M2 P0
set_option autoImplicit false
def isStrB : D → Bool
  | .str _ => true
  | _ => false
theorem box_thing {S : Sto} {d : D} (h : Thing S d) : m_is_box [d] S = .ok (.bl (intB d)) S := by
  obtain ⟨t, ht⟩ := h.wf.ty
  have f1 := integer_ty ht
  unfold m_is_box b_is_box
  generalize m_is_integer = mi at f1
  simp only [mDef, sRet, sSeq, sIf, sExpr, sAsg, sNx, sBk, sCt, sPut, tgN, mBin, mUn, mMeth, mL, mM, mC, mVar, aNil, aCons, mTup, mLst, mIf, mSl, mChain, mAnd2, mOr2, mNot, tBl, tVal, tAnd2, tOr2, tNot2, startE, Rs.bind, Rs.bindS, lift, mCall, mCallC, mCall0, Rs.cold, List.length_cons, List.length_nil, List.map_cons, List.map_nil, List.replicate, List.append_eq, List.cons_append, List.nil_append, List.getElem?_cons_zero, List.getElem?_cons_succ, List.getElem?_nil, List.set_cons_zero, List.set_cons_succ, Nat.sub_self, Nat.reduceSub, Nat.reduceAdd, if_true, if_false, decide_true, decide_false, Option.map_some, Option.map_none, ite_true, ite_false, reduceIte, beq_self_eq_true, Bool.false_eq_true, Nat.zero_add, int_i, add_ii, sub_ii, lt_ii, gt_ii, ge_ii, le_ii, f1]
theorem Thing.low {S : Sto} {d : D} (h : Thing S d) : Low d := by
  rcases h with h | ⟨xs, rfl, _⟩ | ⟨n, xs, rfl, _⟩
  · exact h.low
  · intro i e; cases e
  · intro i e; cases e
theorem lbox_thing {S : Sto} {d : D} (h : Thing S d) : m__law_box [d] S = .ok (.bl (intB d)) S := by
  obtain ⟨t, ht⟩ := h.wf.ty
  have f1 : m__law_number [d, .int low30] S = .ok (.bl (intB d)) S := by rw [number_ty ht, num_low h.low]
  have k2 : oNeg (.int 1000000000000000000000000000000) S = some (.int low30, S) := rfl
  unfold m__law_box b__law_box
  generalize m__law_number = mn at f1
  simp only [mDef, sRet, sSeq, sIf, sExpr, sAsg, sNx, sBk, sCt, sPut, tgN, mBin, mUn, mMeth, mL, mM, mC, mVar, aNil, aCons, mTup, mLst, mIf, mSl, mChain, mAnd2, mOr2, mNot, tBl, tVal, tAnd2, tOr2, tNot2, startE, Rs.bind, Rs.bindS, lift, mCall, mCallC, mCall0, Rs.cold, List.length_cons, List.length_nil, List.map_cons, List.map_nil, List.replicate, List.append_eq, List.cons_append, List.nil_append, List.getElem?_cons_zero, List.getElem?_cons_succ, List.getElem?_nil, List.set_cons_zero, List.set_cons_succ, Nat.sub_self, Nat.reduceSub, Nat.reduceAdd, if_true, if_false, decide_true, decide_false, Option.map_some, Option.map_none, ite_true, ite_false, reduceIte, beq_self_eq_true, Bool.false_eq_true, Nat.zero_add, int_i, add_ii, sub_ii, lt_ii, gt_ii, ge_ii, le_ii, neg30, k2, f1]
theorem count_thing {S : Sto} {d : D} (h : Thing S d) : m_is_count [d] S = .ok (.bl (numB 1 d)) S := by
  obtain ⟨t, ht⟩ := h.wf.ty
  have f1 := integer_ty ht
  unfold m_is_count b_is_count
  generalize m_is_integer = mi at f1
  cases d with
  | int i =>
    have f1 : mi [.int i] S = .ok (.bl true) S := f1
    simp only [mDef, sRet, sSeq, sIf, sExpr, sAsg, sNx, sBk, sCt, sPut, tgN, mBin, mUn, mMeth, mL, mM, mC, mVar, aNil, aCons, mTup, mLst, mIf, mSl, mChain, mAnd2, mOr2, mNot, tBl, tVal, tAnd2, tOr2, tNot2, startE, Rs.bind, Rs.bindS, lift, mCall, mCallC, mCall0, Rs.cold, List.length_cons, List.length_nil, List.map_cons, List.map_nil, List.replicate, List.append_eq, List.cons_append, List.nil_append, List.getElem?_cons_zero, List.getElem?_cons_succ, List.getElem?_nil, List.set_cons_zero, List.set_cons_succ, Nat.sub_self, Nat.reduceSub, Nat.reduceAdd, if_true, if_false, decide_true, decide_false, Option.map_some, Option.map_none, ite_true, ite_false, reduceIte, beq_self_eq_true, Bool.false_eq_true, Nat.zero_add, int_i, add_ii, sub_ii, lt_ii, gt_ii, ge_ii, le_ii, f1]
    rfl
  | _ =>
    simp only [intB] at f1
    simp only [mDef, sRet, sSeq, sIf, sExpr, sAsg, sNx, sBk, sCt, sPut, tgN, mBin, mUn, mMeth, mL, mM, mC, mVar, aNil, aCons, mTup, mLst, mIf, mSl, mChain, mAnd2, mOr2, mNot, tBl, tVal, tAnd2, tOr2, tNot2, startE, Rs.bind, Rs.bindS, lift, mCall, mCallC, mCall0, Rs.cold, List.length_cons, List.length_nil, List.map_cons, List.map_nil, List.replicate, List.append_eq, List.cons_append, List.nil_append, List.getElem?_cons_zero, List.getElem?_cons_succ, List.getElem?_nil, List.set_cons_zero, List.set_cons_succ, Nat.sub_self, Nat.reduceSub, Nat.reduceAdd, if_true, if_false, decide_true, decide_false, Option.map_some, Option.map_none, ite_true, ite_false, reduceIte, beq_self_eq_true, Bool.false_eq_true, Nat.zero_add, int_i, add_ii, sub_ii, lt_ii, gt_ii, ge_ii, le_ii, f1]
    rfl
theorem text_thing {S : Sto} {d : D} (h : Thing S d) : m_is_text [d] S = .ok (.bl (isStrB d)) S := by
  unfold m_is_text b_is_text
  rcases h with (⟨x, rfl, hx⟩ | rfl | ⟨b, rfl⟩ | ⟨i, rfl, _⟩) | ⟨xs, rfl, h1, h2⟩ | ⟨n, xs, rfl, e, _, _⟩
  · have f1 : oType [.str x] S = some (.ty "str", S) := rfl
    have f2 : oIs (.ty "str") (.ty "str") S = some (.bl true, S) := rfl
    have f3 : m_consists_of [.str x, .str SIGNS] S = _ := consists_eq (S := S) (y := SIGNS) hx.ok.sz
    have e : allIn x SIGNS = true := List.all_eq_true.mpr fun c hc => decide_eq_true (hx.2 c hc)
    rw [e] at f3
    generalize m_consists_of = mc at f3 ⊢
    simp only [mDef, sRet, sSeq, sIf, sExpr, sAsg, sNx, sBk, sCt, sPut, tgN, mBin, mUn, mMeth, mL, mM, mC, mVar, aNil, aCons, mTup, mLst, mIf, mSl, mChain, mAnd2, mOr2, mNot, tBl, tVal, tAnd2, tOr2, tNot2, startE, Rs.bind, Rs.bindS, lift, mCall, mCallC, mCall0, Rs.cold, List.length_cons, List.length_nil, List.map_cons, List.map_nil, List.replicate, List.append_eq, List.cons_append, List.nil_append, List.getElem?_cons_zero, List.getElem?_cons_succ, List.getElem?_nil, List.set_cons_zero, List.set_cons_succ, Nat.sub_self, Nat.reduceSub, Nat.reduceAdd, if_true, if_false, decide_true, decide_false, Option.map_some, Option.map_none, ite_true, ite_false, reduceIte, beq_self_eq_true, Bool.false_eq_true, Nat.zero_add, int_i, add_ii, sub_ii, lt_ii, gt_ii, ge_ii, le_ii, f1, f2, f3]
    rfl
  all_goals generalize m_consists_of = mc
  · have f1 : oType [.non] S = some (.ty "NoneType", S) := rfl
    have f2 : oIs (.ty "NoneType") (.ty "str") S = some (.bl false, S) := rfl
    simp only [mDef, sRet, sSeq, sIf, sExpr, sAsg, sNx, sBk, sCt, sPut, tgN, mBin, mUn, mMeth, mL, mM, mC, mVar, aNil, aCons, mTup, mLst, mIf, mSl, mChain, mAnd2, mOr2, mNot, tBl, tVal, tAnd2, tOr2, tNot2, startE, Rs.bind, Rs.bindS, lift, mCall, mCallC, mCall0, Rs.cold, List.length_cons, List.length_nil, List.map_cons, List.map_nil, List.replicate, List.append_eq, List.cons_append, List.nil_append, List.getElem?_cons_zero, List.getElem?_cons_succ, List.getElem?_nil, List.set_cons_zero, List.set_cons_succ, Nat.sub_self, Nat.reduceSub, Nat.reduceAdd, if_true, if_false, decide_true, decide_false, Option.map_some, Option.map_none, ite_true, ite_false, reduceIte, beq_self_eq_true, Bool.false_eq_true, Nat.zero_add, int_i, add_ii, sub_ii, lt_ii, gt_ii, ge_ii, le_ii, f1, f2]
    rfl
  · have f1 : oType [.bl b] S = some (.ty "bool", S) := rfl
    have f2 : oIs (.ty "bool") (.ty "str") S = some (.bl false, S) := rfl
    simp only [mDef, sRet, sSeq, sIf, sExpr, sAsg, sNx, sBk, sCt, sPut, tgN, mBin, mUn, mMeth, mL, mM, mC, mVar, aNil, aCons, mTup, mLst, mIf, mSl, mChain, mAnd2, mOr2, mNot, tBl, tVal, tAnd2, tOr2, tNot2, startE, Rs.bind, Rs.bindS, lift, mCall, mCallC, mCall0, Rs.cold, List.length_cons, List.length_nil, List.map_cons, List.map_nil, List.replicate, List.append_eq, List.cons_append, List.nil_append, List.getElem?_cons_zero, List.getElem?_cons_succ, List.getElem?_nil, List.set_cons_zero, List.set_cons_succ, Nat.sub_self, Nat.reduceSub, Nat.reduceAdd, if_true, if_false, decide_true, decide_false, Option.map_some, Option.map_none, ite_true, ite_false, reduceIte, beq_self_eq_true, Bool.false_eq_true, Nat.zero_add, int_i, add_ii, sub_ii, lt_ii, gt_ii, ge_ii, le_ii, f1, f2]
    rfl
  · have f1 : oType [.int i] S = some (.ty "int", S) := rfl
    have f2 : oIs (.ty "int") (.ty "str") S = some (.bl false, S) := rfl
    simp only [mDef, sRet, sSeq, sIf, sExpr, sAsg, sNx, sBk, sCt, sPut, tgN, mBin, mUn, mMeth, mL, mM, mC, mVar, aNil, aCons, mTup, mLst, mIf, mSl, mChain, mAnd2, mOr2, mNot, tBl, tVal, tAnd2, tOr2, tNot2, startE, Rs.bind, Rs.bindS, lift, mCall, mCallC, mCall0, Rs.cold, List.length_cons, List.length_nil, List.map_cons, List.map_nil, List.replicate, List.append_eq, List.cons_append, List.nil_append, List.getElem?_cons_zero, List.getElem?_cons_succ, List.getElem?_nil, List.set_cons_zero, List.set_cons_succ, Nat.sub_self, Nat.reduceSub, Nat.reduceAdd, if_true, if_false, decide_true, decide_false, Option.map_some, Option.map_none, ite_true, ite_false, reduceIte, beq_self_eq_true, Bool.false_eq_true, Nat.zero_add, int_i, add_ii, sub_ii, lt_ii, gt_ii, ge_ii, le_ii, f1, f2]
    rfl
  · have f1 : oType [.tup xs] S = some (.ty "tuple", S) := rfl
    have f2 : oIs (.ty "tuple") (.ty "str") S = some (.bl false, S) := rfl
    simp only [mDef, sRet, sSeq, sIf, sExpr, sAsg, sNx, sBk, sCt, sPut, tgN, mBin, mUn, mMeth, mL, mM, mC, mVar, aNil, aCons, mTup, mLst, mIf, mSl, mChain, mAnd2, mOr2, mNot, tBl, tVal, tAnd2, tOr2, tNot2, startE, Rs.bind, Rs.bindS, lift, mCall, mCallC, mCall0, Rs.cold, List.length_cons, List.length_nil, List.map_cons, List.map_nil, List.replicate, List.append_eq, List.cons_append, List.nil_append, List.getElem?_cons_zero, List.getElem?_cons_succ, List.getElem?_nil, List.set_cons_zero, List.set_cons_succ, Nat.sub_self, Nat.reduceSub, Nat.reduceAdd, if_true, if_false, decide_true, decide_false, Option.map_some, Option.map_none, ite_true, ite_false, reduceIte, beq_self_eq_true, Bool.false_eq_true, Nat.zero_add, int_i, add_ii, sub_ii, lt_ii, gt_ii, ge_ii, le_ii, f1, f2]
    rfl
  · have f1 : oType [.loc n] S = some (.ty "list", S) := type_of (by
      show (match S[n]? with
        | some (.lst _ _) => some "list"
        | some (.dic _) => some "dict"
        | none => none) = _
      rw [e])
    have f2 : oIs (.ty "list") (.ty "str") S = some (.bl false, S) := rfl
    simp only [mDef, sRet, sSeq, sIf, sExpr, sAsg, sNx, sBk, sCt, sPut, tgN, mBin, mUn, mMeth, mL, mM, mC, mVar, aNil, aCons, mTup, mLst, mIf, mSl, mChain, mAnd2, mOr2, mNot, tBl, tVal, tAnd2, tOr2, tNot2, startE, Rs.bind, Rs.bindS, lift, mCall, mCallC, mCall0, Rs.cold, List.length_cons, List.length_nil, List.map_cons, List.map_nil, List.replicate, List.append_eq, List.cons_append, List.nil_append, List.getElem?_cons_zero, List.getElem?_cons_succ, List.getElem?_nil, List.set_cons_zero, List.set_cons_succ, Nat.sub_self, Nat.reduceSub, Nat.reduceAdd, if_true, if_false, decide_true, decide_false, Option.map_some, Option.map_none, ite_true, ite_false, reduceIte, beq_self_eq_true, Bool.false_eq_true, Nat.zero_add, int_i, add_ii, sub_ii, lt_ii, gt_ii, ge_ii, le_ii, f1, f2]
    rfl
theorem content_thing {S : Sto} {d : D} (h : Thing S d) : m_is_content [d] S = .ok (.bl (isStrB d)) S := by
  have f1 := text_thing h
  unfold m_is_content b_is_content
  generalize m_is_text = mi at f1
  simp only [mDef, sRet, sSeq, sIf, sExpr, sAsg, sNx, sBk, sCt, sPut, tgN, mBin, mUn, mMeth, mL, mM, mC, mVar, aNil, aCons, mTup, mLst, mIf, mSl, mChain, mAnd2, mOr2, mNot, tBl, tVal, tAnd2, tOr2, tNot2, startE, Rs.bind, Rs.bindS, lift, mCall, mCallC, mCall0, Rs.cold, List.length_cons, List.length_nil, List.map_cons, List.map_nil, List.replicate, List.append_eq, List.cons_append, List.nil_append, List.getElem?_cons_zero, List.getElem?_cons_succ, List.getElem?_nil, List.set_cons_zero, List.set_cons_succ, Nat.sub_self, Nat.reduceSub, Nat.reduceAdd, if_true, if_false, decide_true, decide_false, Option.map_some, Option.map_none, ite_true, ite_false, reduceIte, beq_self_eq_true, Bool.false_eq_true, Nat.zero_add, int_i, add_ii, sub_ii, lt_ii, gt_ii, ge_ii, le_ii, f1]
theorem texts_thing {S : Sto} {d : D} (h : Thing S d) : ∃ S', m_are_texts [d] S = .ok (.bl (tupT (fun xs => xs.all isStrB) d)) S' ∧ Gr S S' := by
  rcases tup_or h with ⟨xs, rfl, h1, h2⟩ | ⟨hn, t, h1, h2, h3⟩
  · obtain ⟨S', c1, c2, c3⟩ := comp_all (S := S) (ds := xs) (f := m_is_text) isStrB (by rw [sizeLine_eq]; omega) fun d hd S1 hg => text_thing (Atom.thing (h2 d hd))
    refine ⟨S', ?_, c2⟩
    have f1 : oType [.tup xs] S = some (.ty "tuple", S) := rfl
    have f2 : oIs (.ty "tuple") (.ty "tuple") S = some (.bl true, S) := rfl
    unfold m_are_texts b_are_texts
    generalize mLcC (iAny (mVar 0)) (tgN 1) tOk (mCallC m_is_text (aCons (mVar 1) aNil)) [1] = mm at c1 ⊢
    simp only [mDef, sRet, sSeq, sIf, sExpr, sAsg, sNx, sBk, sCt, sPut, tgN, mBin, mUn, mMeth, mL, mM, mC, mVar, aNil, aCons, mTup, mLst, mIf, mSl, mChain, mAnd2, mOr2, mNot, tBl, tVal, tAnd2, tOr2, tNot2, startE, Rs.bind, Rs.bindS, lift, mCall, mCallC, mCall0, Rs.cold, List.length_cons, List.length_nil, List.map_cons, List.map_nil, List.replicate, List.append_eq, List.cons_append, List.nil_append, List.getElem?_cons_zero, List.getElem?_cons_succ, List.getElem?_nil, List.set_cons_zero, List.set_cons_succ, Nat.sub_self, Nat.reduceSub, Nat.reduceAdd, if_true, if_false, decide_true, decide_false, Option.map_some, Option.map_none, ite_true, ite_false, reduceIte, beq_self_eq_true, Bool.false_eq_true, Nat.zero_add, int_i, add_ii, sub_ii, lt_ii, gt_ii, ge_ii, le_ii, f1, f2, c1, c3]
    rfl
  · refine ⟨S, ?_, Gr.refl _⟩
    rw [tupT_not hn]
    have f1 := type_of h1
    have f2 : oIs (.ty t) (.ty "tuple") S = some (.bl false, S) := by rw [is_ty, decide_eq_false h2]
    unfold m_are_texts b_are_texts
    generalize mLcC _ _ _ _ _ = mm
    simp only [mDef, sRet, sSeq, sIf, sExpr, sAsg, sNx, sBk, sCt, sPut, tgN, mBin, mUn, mMeth, mL, mM, mC, mVar, aNil, aCons, mTup, mLst, mIf, mSl, mChain, mAnd2, mOr2, mNot, tBl, tVal, tAnd2, tOr2, tNot2, startE, Rs.bind, Rs.bindS, lift, mCall, mCallC, mCall0, Rs.cold, List.length_cons, List.length_nil, List.map_cons, List.map_nil, List.replicate, List.append_eq, List.cons_append, List.nil_append, List.getElem?_cons_zero, List.getElem?_cons_succ, List.getElem?_nil, List.set_cons_zero, List.set_cons_succ, Nat.sub_self, Nat.reduceSub, Nat.reduceAdd, if_true, if_false, decide_true, decide_false, Option.map_some, Option.map_none, ite_true, ite_false, reduceIte, beq_self_eq_true, Bool.false_eq_true, Nat.zero_add, int_i, add_ii, sub_ii, lt_ii, gt_ii, ge_ii, le_ii, f1, f2]
end K29
end

section
set_option Elab.async false
set_option linter.all false
set_option maxRecDepth 100000
/-! P16: law k29, plainly: modes. -/
namespace K29
open PySem PySem.Spec M2 P0
set_option autoImplicit false
def modes : List Str := ["add", "drop", "set"]
def modeB : D → Bool := strT fun x => decide (x ∈ modes)
theorem modes_p {S : Sto} : toP 65 S c_MODES = some (.tuple (modes.map .str)) := rfl
theorem in_modes {S : Sto} {d : D} (h : Thing S d) : oIn2 d c_MODES S = some (.bl (modeB d), S) := by
  obtain ⟨p, h1, h2, h3⟩ := h.pd
  have e1 := toP_mono h1 (m := 65) (by decide) (Gr.refl S)
  have s1 : SeqAt.shaped p = true := by
    show (PyData.canLay0 p && decide (PyData.depth p ≤ 64)) = true
    rw [h2, decide_eq_true (by omega)]; rfl
  have s2 : SeqAt.shaped (.list (modes.map PyData.str)) = true := by decide +kernel
  have e2 : ((modes.map PyData.str).any fun z => PyData.eqv z p) = modeB d := by
    rcases h with (⟨x, rfl, hx⟩ | rfl | ⟨b, rfl⟩ | ⟨i, rfl, _⟩) | ⟨xs, rfl, _, _⟩ | ⟨n, xs, rfl, e, _, _⟩
    · cases h1
      show ((modes.map PyData.str).any fun z => PyData.eqv z (.str x)) = decide (x ∈ modes)
      rw [Bool.eq_iff_iff, List.any_eq_true, decide_eq_true_eq]
      constructor
      · rintro ⟨z, hz, q⟩
        obtain ⟨y, hy, rfl⟩ := List.mem_map.mp hz
        have q : (y == x) = true := q
        rw [← beq_iff_eq.mp q]; exact hy
      · intro q
        exact ⟨.str x, List.mem_map.mpr ⟨x, q, rfl⟩, by show (x == x) = true; simp⟩
    · cases h1; rfl
    · cases h1; rfl
    · cases h1; rfl
    · have h1 : (xs.mapM (toP 39 S)).map PyData.tuple = some p := h1
      obtain ⟨ps, _, q⟩ := map_some h1
      subst q; rfl
    · have h1 : (match S[n]? with
        | some (.lst _ ds) => (ds.mapM (toP 39 S)).map PyData.list
        | _ => none) = some p := h1
      rw [e] at h1
      obtain ⟨ps, _, q⟩ := map_some h1
      subst q; rfl
  have e3 : inD2 S d c_MODES = some (modeB d) := by
    show (match toP 65 S d, toP 65 S c_MODES with
      | some p, some (.list ds) => if (SeqAt.shaped p && SeqAt.shaped (.list ds)) = true then some (ds.any fun z => PyData.eqv z p) else none
      | some p, some (.tuple ds) => if (SeqAt.shaped p && SeqAt.shaped (.list ds)) = true then some (ds.any fun z => PyData.eqv z p) else none
      | _, _ => none) = _
    rw [e1, modes_p]
    show (if (SeqAt.shaped p && SeqAt.shaped (.list (modes.map PyData.str))) = true then some ((modes.map PyData.str).any fun z => PyData.eqv z p) else none) = _
    rw [s1, s2, e2]
    rfl
  show (inD2 S d c_MODES).map (fun k => (D.bl k, S)) = _
  rw [e3]; rfl
theorem mode_thing {S : Sto} {d : D} (h : Thing S d) : m_is_mode [d] S = .ok (.bl (modeB d)) S := by
  have f1 := in_modes h
  unfold m_is_mode b_is_mode
  generalize c_MODES = c at f1
  simp only [mDef, sRet, sSeq, sIf, sExpr, sAsg, sNx, sBk, sCt, sPut, tgN, mBin, mUn, mMeth, mL, mM, mC, mVar, aNil, aCons, mTup, mLst, mIf, mSl, mChain, mAnd2, mOr2, mNot, tBl, tVal, tAnd2, tOr2, tNot2, startE, Rs.bind, Rs.bindS, lift, mCall, mCallC, mCall0, Rs.cold, List.length_cons, List.length_nil, List.map_cons, List.map_nil, List.replicate, List.append_eq, List.cons_append, List.nil_append, List.getElem?_cons_zero, List.getElem?_cons_succ, List.getElem?_nil, List.set_cons_zero, List.set_cons_succ, Nat.sub_self, Nat.reduceSub, Nat.reduceAdd, if_true, if_false, decide_true, decide_false, Option.map_some, Option.map_none, ite_true, ite_false, reduceIte, beq_self_eq_true, Bool.false_eq_true, Nat.zero_add, int_i, add_ii, sub_ii, lt_ii, gt_ii, ge_ii, le_ii, f1]
end K29
end

section
set_option Elab.async false
set_option linter.all false
set_option maxRecDepth 100000
/-! P17: law k29, plainly: is_deed. -/
namespace K29
open PySem PySem.Spec M2 P0
set_option autoImplicit false
def textsT : D → Bool := tupT fun xs => xs.all isStrB
def rightsB : D → Bool := strT fun x => decide (x = ordV x)
/-- what the test of this name tells -/
def chk (f : Str) : Option (D → Bool) := if f = "is_name" then some (strT nameB) else if f = "is_box" then some intB else if f = "are_rights" then some rightsB else if f = "are_flags" then some (tupT flagsB) else if f = "is_content" then some isStrB else if f = "are_uids" then some (tupT uidsB) else if f = "is_mode" then some modeB else if f = "are_texts" then some textsT else if f = "is_count" then some (numB 1) else none
theorem held_ok {f : Str} {c : D → Bool} (hc : chk f = some c) : ∃ mf, F_held f = some mf ∧ ∀ (S : Sto) (d : D), Thing S d → ∃ S', mf [d] S = .ok (.bl (c d)) S' ∧ Gr S S' := by
  unfold chk at hc
  unfold F_held
  split at hc
  · cases hc; exact ⟨_, by rw [if_pos ‹_›], fun S d h => ⟨S, name_thing h, Gr.refl _⟩⟩
  rw [if_neg ‹_›]
  split at hc
  · cases hc; exact ⟨_, by rw [if_pos ‹_›], fun S d h => ⟨S, box_thing h, Gr.refl _⟩⟩
  rw [if_neg ‹_›]
  split at hc
  · cases hc; exact ⟨_, by rw [if_pos ‹_›], fun S d h => rights_thing h⟩
  rw [if_neg ‹_›]
  split at hc
  · cases hc; exact ⟨_, by rw [if_pos ‹_›], fun S d h => flags_thing h⟩
  rw [if_neg ‹_›]
  split at hc
  · cases hc; exact ⟨_, by rw [if_pos ‹_›], fun S d h => ⟨S, content_thing h, Gr.refl _⟩⟩
  rw [if_neg ‹_›]
  split at hc
  · cases hc; exact ⟨_, by rw [if_pos ‹_›], fun S d h => uids_thing h⟩
  rw [if_neg ‹_›]
  split at hc
  · cases hc; exact ⟨_, by rw [if_pos ‹_›], fun S d h => ⟨S, mode_thing h, Gr.refl _⟩⟩
  rw [if_neg ‹_›]
  split at hc
  · cases hc; exact ⟨_, by rw [if_pos ‹_›], fun S d h => texts_thing h⟩
  rw [if_neg ‹_›]
  split at hc
  · cases hc; exact ⟨_, by rw [if_pos ‹_›], fun S d h => ⟨S, count_thing h, Gr.refl _⟩⟩
  cases hc

/-- a loop over fixed items -/
theorem loop_items {it : ItM} {ys : List D} {tg : Tg} {body : MS} {Post : SRes → Prop} (I : Nat → Nv → Sto → Prop) (hit : ∀ i S, it.at_ i S = some ys[i]?)
    (hs : ∀ (i : Nat) (e : Nv) (S : Sto) (d : D), ys[i]? = some d → I i e S → ∃ e1, tg d e = some e1 ∧ match body e1 S with
      | .nx e2 S2 => I (i + 1) e2 S2
      | .ct e2 S2 => I (i + 1) e2 S2
      | .bk e2 S2 => Post (.nx e2 S2)
      | r => Post r) (he : ∀ e S, I ys.length e S → Post (.nx e S)) (e : Nv) (S : Sto) (h0 : I 0 e S) : Post (loopM it tg body ys.length 0 e S) := by
  have key : ∀ (m i : Nat) (e : Nv) (S : Sto), i + m = ys.length → I i e S → Post (loopM it tg body m i e S) := by
    intro m
    induction m with
    | zero =>
      intro i e S hi h
      have e1 : i = ys.length := by omega
      have e2 : ys[i]? = none := List.getElem?_eq_none_iff.mpr (by omega)
      unfold loopM
      simp only [hit, e2]
      rw [e1] at h
      exact he e S h
    | succ m ih =>
      intro i e S hi h
      have hlt : i < ys.length := by omega
      have e1 : ys[i]? = some ys[i] := List.getElem?_eq_getElem hlt
      obtain ⟨e2, h1, q⟩ := hs i e S _ e1 h
      unfold loopM
      simp only [hit, e1, h1]
      cases hb : body e2 S with
      | nx e2 S2 => rw [hb] at q; exact ih (i + 1) e2 S2 (by omega) q
      | ct e2 S2 => rw [hb] at q; exact ih (i + 1) e2 S2 (by omega) q
      | bk e2 S2 => rw [hb] at q; exact q
      | rt d S2 => rw [hb] at q; exact q
      | exc c fs e2 S2 => rw [hb] at q; exact q
      | stuck => rw [hb] at q; exact q
  exact key ys.length 0 e S (by omega) h0
/-- do all parts pass their tests -/
def passB : List (Str × D) → Bool
  | [] => true
  | p :: r => (match chk p.1 with | some c => c p.2 | none => false) && passB r
abbrev bodyH : MS := (sIf (tNot2 (tVal (mCallV 2 F_held (aCons (mVar 3) aNil)))) (sRet (mC (.bl false))) sNx)
theorem bodyH_eq {e0 e1 : Option D} {S S' : Sto} {f : Str} {d : D} {mf : MF} {k : Bool} (h1 : F_held f = some mf) (h2 : mf [d] S = .ok (.bl k) S') :
    bodyH [e0, e1, some (.fn f), some d] S = if k = true then .nx [e0, e1, some (.fn f), some d] S' else .rt (.bl false) S' := by
  have f1 : mCallV 2 F_held (aCons (mVar 3) aNil) [e0, e1, some (.fn f), some d] S = .ok (.bl k) S' := by
    show (match F_held f with
      | some mf => ((aCons (mVar 3) aNil) [e0, e1, some (.fn f), some d] S).bind fun ds S1 => (mf ds S1).cold
      | none => .stuck) = _
    rw [h1]
    show (mf [d] S).cold = _
    rw [h2]; rfl
  unfold bodyH
  generalize mCallV 2 F_held (aCons (mVar 3) aNil) = mm at f1
  cases k with
  | true => simp only [mDef, sRet, sSeq, sIf, sExpr, sAsg, sNx, sBk, sCt, sPut, tgN, mBin, mUn, mMeth, mL, mM, mC, mVar, aNil, aCons, mTup, mLst, mIf, mSl, mChain, mAnd2, mOr2, mNot, tBl, tVal, tAnd2, tOr2, tNot2, startE, Rs.bind, Rs.bindS, lift, mCall, mCallC, mCall0, Rs.cold, List.length_cons, List.length_nil, List.map_cons, List.map_nil, List.replicate, List.append_eq, List.cons_append, List.nil_append, List.getElem?_cons_zero, List.getElem?_cons_succ, List.getElem?_nil, List.set_cons_zero, List.set_cons_succ, Nat.sub_self, Nat.reduceSub, Nat.reduceAdd, if_true, if_false, decide_true, decide_false, Option.map_some, Option.map_none, ite_true, ite_false, reduceIte, beq_self_eq_true, Bool.false_eq_true, Nat.zero_add, int_i, add_ii, sub_ii, lt_ii, gt_ii, ge_ii, le_ii, f1, truth, Bool.not_true]
  | false => simp only [mDef, sRet, sSeq, sIf, sExpr, sAsg, sNx, sBk, sCt, sPut, tgN, mBin, mUn, mMeth, mL, mM, mC, mVar, aNil, aCons, mTup, mLst, mIf, mSl, mChain, mAnd2, mOr2, mNot, tBl, tVal, tAnd2, tOr2, tNot2, startE, Rs.bind, Rs.bindS, lift, mCall, mCallC, mCall0, Rs.cold, List.length_cons, List.length_nil, List.map_cons, List.map_nil, List.replicate, List.append_eq, List.cons_append, List.nil_append, List.getElem?_cons_zero, List.getElem?_cons_succ, List.getElem?_nil, List.set_cons_zero, List.set_cons_succ, Nat.sub_self, Nat.reduceSub, Nat.reduceAdd, if_true, if_false, decide_true, decide_false, Option.map_some, Option.map_none, ite_true, ite_false, reduceIte, beq_self_eq_true, Bool.false_eq_true, Nat.zero_add, int_i, add_ii, sub_ii, lt_ii, gt_ii, ge_ii, le_ii, f1, truth, Bool.not_false]
/-- the loop of is_deed -/
theorem loopH {e0 e1 : Option D} {S : Sto} {fs : List Str} {xs : List D} {it : ItM} (hf : ∀ f ∈ fs, (chk f).isSome = true) (hx : ∀ x ∈ xs, Thing S x) (hit : ∀ i S, it.at_ i S = some ((List.zip fs xs).map fun p => D.tup [.fn p.1, p.2])[i]?) :
    ∃ S', Gr S S' ∧ ((passB (List.zip fs xs) = true ∧ ∃ e2 e3, loopM it (tgT [(tgN 2), (tgN 3)]) bodyH (List.zip fs xs).length 0 [e0, e1, none, none] S = .nx [e0, e1, e2, e3] S') ∨
      (passB (List.zip fs xs) = false ∧ loopM it (tgT [(tgN 2), (tgN 3)]) bodyH (List.zip fs xs).length 0 [e0, e1, none, none] S = .rt (.bl false) S')) := by
  have hl : (List.zip fs xs).length = ((List.zip fs xs).map fun p => D.tup [.fn p.1, p.2]).length := by rw [List.length_map]
  rw [hl]
  refine loop_items (Post := fun r => ∃ S', Gr S S' ∧ ((passB (List.zip fs xs) = true ∧ ∃ e2 e3, r = .nx [e0, e1, e2, e3] S') ∨ (passB (List.zip fs xs) = false ∧ r = .rt (.bl false) S')))
    (fun i e S1 => (∃ e2 e3, e = [e0, e1, e2, e3]) ∧ Gr S S1 ∧ passB (List.zip fs xs) = passB ((List.zip fs xs).drop i)) hit (fun i e S1 d hd ⟨⟨e2, e3, he⟩, hg, hp⟩ => ?_) (fun e S1 ⟨⟨e2, e3, he⟩, hg, hp⟩ => ?_) _ _ ⟨⟨none, none, rfl⟩, Gr.refl _, rfl⟩
  · subst he
    rw [List.getElem?_map] at hd
    obtain ⟨p, hp0, rfl⟩ := map_some hd
    have hmem := List.mem_of_getElem? hp0
    have hpf : p.1 ∈ fs := (List.of_mem_zip hmem).1
    have hpx : p.2 ∈ xs := (List.of_mem_zip hmem).2
    cases hc : chk p.1 with
    | none => have := hf _ hpf; rw [hc] at this; cases this
    | some c =>
      obtain ⟨mf, m1, m2⟩ := held_ok hc
      obtain ⟨S2, n1, n2⟩ := m2 S1 p.2 ((hx _ hpx).gr hg)
      have hdrop : (List.zip fs xs).drop i = p :: (List.zip fs xs).drop (i + 1) := by
        have hlt : i < (List.zip fs xs).length := (List.getElem?_eq_some_iff.mp hp0).1
        rw [List.drop_eq_getElem_cons hlt]
        congr 1
        exact (List.getElem?_eq_some_iff.mp hp0).2
      have hps : passB (List.zip fs xs) = (c p.2 && passB ((List.zip fs xs).drop (i + 1))) := by
        rw [hp, hdrop]
        show ((match chk p.1 with | some c => c p.2 | none => false) && _) = _
        rw [hc]
      refine ⟨[e0, e1, some (.fn p.1), some p.2], rfl, ?_⟩
      rw [bodyH_eq m1 n1]
      cases hk : c p.2 with
      | true =>
        rw [hk, Bool.true_and] at hps
        exact ⟨⟨_, _, rfl⟩, hg.trans n2, hps⟩
      | false =>
        rw [hk, Bool.false_and] at hps
        exact ⟨S2, hg.trans n2, .inr ⟨hps, rfl⟩⟩
  · subst he
    rw [List.length_map, List.drop_length] at hp
    exact ⟨S1, hg, .inl ⟨hp, _, _, rfl⟩⟩
end K29
end

section
set_option Elab.async false
set_option linter.all false
set_option maxRecDepth 100000
/-! P18: law k29, plainly: is_deed of a tuple of things. -/
namespace K29
open PySem PySem.Spec M2 P0
set_option autoImplicit false
def partsF : List (Str × List Str) := [("make", ["is_name"]), ("unmake", ["is_box"]), ("rename", ["is_box", "is_name"]), ("grant", ["is_box", "is_name", "are_rights"]), ("put", ["is_box", "are_flags", "is_content"]), ("flag", ["is_box", "are_uids", "is_mode", "are_flags"]), ("copy", ["is_box", "are_uids", "is_box"]), ("move", ["is_box", "are_uids", "is_box"]), ("take", ["is_box", "are_uids"]), ("leave", ["is_box"]), ("filter", ["is_content"]), ("send", ["are_texts", "is_content"]), ("back", ["is_count", "is_count"])]
theorem parts_eq : c_PARTS = partsF.map fun p => (p.1, D.tup (p.2.map .fn)) := rfl
def kindsOf (z : Str) : Option (List Str) := (partsF.find? fun t => decide (t.1 = z)).map (·.2)
theorem getT_map {α : Type} (g : α → D) (z : Str) : ∀ l : List (Str × α), getT (l.map fun p => (p.1, g p.2)) z = ((l.find? fun t => decide (t.1 = z)).map (·.2)).map g
  | [] => rfl
  | p :: l => by
    have ih := getT_map g z l
    unfold getT at ih ⊢
    rw [List.map_cons, List.find?_cons, List.find?_cons]
    cases decide (p.1 = z) with
    | true => rfl
    | false => exact ih
theorem get_parts (z : Str) : getT c_PARTS z = (kindsOf z).map fun fs => D.tup (fs.map .fn) := by
  rw [parts_eq]
  exact getT_map (fun fs : List Str => D.tup (fs.map .fn)) z partsF
theorem kinds_ok {z : Str} {fs : List Str} (h : kindsOf z = some fs) : fs.length ≤ 4 ∧ ∀ f ∈ fs, (chk f).isSome = true := by
  have key : (partsF.all fun p => decide (p.2.length ≤ 4) && p.2.all fun f => (chk f).isSome) = true := by decide +kernel
  unfold kindsOf at h
  obtain ⟨p, hp, rfl⟩ := map_some h
  have := List.all_eq_true.mp key p (List.mem_of_find?_eq_some hp)
  simp only [Bool.and_eq_true, decide_eq_true_eq, List.all_eq_true] at this
  exact this
def deedB : List D → Bool
  | .str z :: rest => (match kindsOf z with | some fs => decide (rest.length = fs.length) && passB (List.zip fs rest) | none => false)
  | _ => false
theorem eq_tnil {S : Sto} {ds : List D} (h : ∀ d ∈ ds, PD S d) : eqD S (.tup ds) (.tup []) = some ds.isEmpty := by
  obtain ⟨ps, k1, k2, k3, k4⟩ := mapM_pd (n := 64) (by decide) h
  have e1 : toP 65 S (.tup ds) = some (.tuple ps) := by
    show (ds.mapM (toP 64 S)).map PyData.tuple = _
    rw [k1]; rfl
  have e2 : toP 65 S (.tup []) = some (.tuple []) := rfl
  have s1 : SeqAt.shaped (.tuple ps) = true := by
    show (PyData.canLayAll0 ps && decide (PyData.depthAll ps + 1 ≤ 64)) = true
    rw [k2, decide_eq_true (by omega)]; rfl
  show (match toP 65 S (.tup ds), toP 65 S (.tup []) with
    | some p, some q => if (SeqAt.shaped p && SeqAt.shaped q) = true then some (PyData.eqv p q) else none
    | _, _ => none) = _
  rw [e1, e2]
  show (if (SeqAt.shaped (.tuple ps) && true) = true then some (PyData.eqv (.tuple ps) (.tuple [])) else none) = _
  rw [s1]
  cases ps with
  | nil =>
    cases ds with
    | nil => rfl
    | cons d ds => simp at k4
  | cons p ps =>
    cases ds with
    | nil => simp at k4
    | cons d ds => rfl
/-- the first test of is_deed -/
abbrev test1 : MT := (tOr2 (tBl (mBin oIsNot (mL oType (aCons (mVar 0) aNil)) (mC (.ty "tuple")))) (tOr2 (tBl (mBin oEq (mVar 0) (mTup aNil))) (tNot2 (tVal (mL oIsi (aCons (mBin oIx (mVar 0) (mC (.int 0))) (aCons (mC (.ty "str")) aNil)))))))
def noStr : List D → Bool
  | .str _ :: _ => false
  | _ => true
theorem test1_eq {S : Sto} {xs : List D} {x1 x2 x3 : Option D} (h : ∀ x ∈ xs, Thing S x) : test1 [some (.tup xs), x1, x2, x3] S = .ok (noStr xs) S := by
  have f1 : oType [.tup xs] S = some (.ty "tuple", S) := rfl
  have f2 : oIsNot (.ty "tuple") (.ty "tuple") S = some (.bl false, S) := rfl
  have f3 : oEq (.tup xs) (.tup []) S = some (.bl xs.isEmpty, S) := by
    show (eqD _ _ _).map _ = _
    rw [eq_tnil fun d hd => (h d hd).pd]; rfl
  have z0 : (0 ≤ sizeLine) = True := eq_true (Nat.zero_le _)
  unfold test1
  cases xs with
  | nil =>
    have f3 : oEq (.tup []) (.tup []) S = some (.bl true, S) := f3
    simp only [mDef, sRet, sSeq, sIf, sExpr, sAsg, sNx, sBk, sCt, sPut, tgN, mBin, mUn, mMeth, mL, mM, mC, mVar, aNil, aCons, mTup, mLst, mIf, mSl, mChain, mAnd2, mOr2, mNot, tBl, tVal, tAnd2, tOr2, tNot2, startE, Rs.bind, Rs.bindS, lift, mCall, mCallC, mCall0, Rs.cold, List.length_cons, List.length_nil, List.map_cons, List.map_nil, List.replicate, List.append_eq, List.cons_append, List.nil_append, List.getElem?_cons_zero, List.getElem?_cons_succ, List.getElem?_nil, List.set_cons_zero, List.set_cons_succ, Nat.sub_self, Nat.reduceSub, Nat.reduceAdd, if_true, if_false, decide_true, decide_false, Option.map_some, Option.map_none, ite_true, ite_false, reduceIte, beq_self_eq_true, Bool.false_eq_true, Nat.zero_add, int_i, add_ii, sub_ii, lt_ii, gt_ii, ge_ii, le_ii, f1, f2, f3, z0]
    rfl
  | cons d ds =>
    have f3 : oEq (.tup (d :: ds)) (.tup []) S = some (.bl false, S) := f3
    have f4 : oIx (.tup (d :: ds)) (.int 0) S = some (d, S) := ix_tup (k := 0) rfl
    rcases (h d List.mem_cons_self).wf with ⟨x, rfl, _⟩ | ⟨⟨t, h1, h2⟩, _⟩
    · have f5 : oIsi [.str x, .ty "str"] S = some (.bl true, S) := rfl
      simp only [mDef, sRet, sSeq, sIf, sExpr, sAsg, sNx, sBk, sCt, sPut, tgN, mBin, mUn, mMeth, mL, mM, mC, mVar, aNil, aCons, mTup, mLst, mIf, mSl, mChain, mAnd2, mOr2, mNot, tBl, tVal, tAnd2, tOr2, tNot2, startE, Rs.bind, Rs.bindS, lift, mCall, mCallC, mCall0, Rs.cold, List.length_cons, List.length_nil, List.map_cons, List.map_nil, List.replicate, List.append_eq, List.cons_append, List.nil_append, List.getElem?_cons_zero, List.getElem?_cons_succ, List.getElem?_nil, List.set_cons_zero, List.set_cons_succ, Nat.sub_self, Nat.reduceSub, Nat.reduceAdd, if_true, if_false, decide_true, decide_false, Option.map_some, Option.map_none, ite_true, ite_false, reduceIte, beq_self_eq_true, Bool.false_eq_true, Nat.zero_add, int_i, add_ii, sub_ii, lt_ii, gt_ii, ge_ii, le_ii, f1, f2, f3, f4, f5, z0, truth, Bool.not_true]
      rfl
    · have f5 := isi_of h1 (kit_str h2 ⟨S, d, h1⟩)
      have e : noStr (d :: ds) = true := by
        cases d with
        | str x => cases h1; exact absurd rfl h2
        | _ => rfl
      rw [e]
      simp only [mDef, sRet, sSeq, sIf, sExpr, sAsg, sNx, sBk, sCt, sPut, tgN, mBin, mUn, mMeth, mL, mM, mC, mVar, aNil, aCons, mTup, mLst, mIf, mSl, mChain, mAnd2, mOr2, mNot, tBl, tVal, tAnd2, tOr2, tNot2, startE, Rs.bind, Rs.bindS, lift, mCall, mCallC, mCall0, Rs.cold, List.length_cons, List.length_nil, List.map_cons, List.map_nil, List.replicate, List.append_eq, List.cons_append, List.nil_append, List.getElem?_cons_zero, List.getElem?_cons_succ, List.getElem?_nil, List.set_cons_zero, List.set_cons_succ, Nat.sub_self, Nat.reduceSub, Nat.reduceAdd, if_true, if_false, decide_true, decide_false, Option.map_some, Option.map_none, ite_true, ite_false, reduceIte, beq_self_eq_true, Bool.false_eq_true, Nat.zero_add, int_i, add_ii, sub_ii, lt_ii, gt_ii, ge_ii, le_ii, f1, f2, f3, f4, f5, z0, truth, Bool.not_false]

theorem stepA {e : Nv} {S : Sto} {tt : MT} {k : Bool} {rest : MS} (h : tt e S = .ok k S) : (sSeq (sIf tt (sRet (mC (.bl false))) sNx) rest) e S = if k = true then .rt (.bl false) S else rest e S := by
  cases k with
  | true => simp only [mDef, sRet, sSeq, sIf, sExpr, sAsg, sNx, sBk, sCt, sPut, tgN, mBin, mUn, mMeth, mL, mM, mC, mVar, aNil, aCons, mTup, mLst, mIf, mSl, mChain, mAnd2, mOr2, mNot, tBl, tVal, tAnd2, tOr2, tNot2, startE, Rs.bind, Rs.bindS, lift, mCall, mCallC, mCall0, Rs.cold, List.length_cons, List.length_nil, List.map_cons, List.map_nil, List.replicate, List.append_eq, List.cons_append, List.nil_append, List.getElem?_cons_zero, List.getElem?_cons_succ, List.getElem?_nil, List.set_cons_zero, List.set_cons_succ, Nat.sub_self, Nat.reduceSub, Nat.reduceAdd, if_true, if_false, decide_true, decide_false, Option.map_some, Option.map_none, ite_true, ite_false, reduceIte, beq_self_eq_true, Bool.false_eq_true, Nat.zero_add, int_i, add_ii, sub_ii, lt_ii, gt_ii, ge_ii, le_ii, h]
  | false => simp only [mDef, sRet, sSeq, sIf, sExpr, sAsg, sNx, sBk, sCt, sPut, tgN, mBin, mUn, mMeth, mL, mM, mC, mVar, aNil, aCons, mTup, mLst, mIf, mSl, mChain, mAnd2, mOr2, mNot, tBl, tVal, tAnd2, tOr2, tNot2, startE, Rs.bind, Rs.bindS, lift, mCall, mCallC, mCall0, Rs.cold, List.length_cons, List.length_nil, List.map_cons, List.map_nil, List.replicate, List.append_eq, List.cons_append, List.nil_append, List.getElem?_cons_zero, List.getElem?_cons_succ, List.getElem?_nil, List.set_cons_zero, List.set_cons_succ, Nat.sub_self, Nat.reduceSub, Nat.reduceAdd, if_true, if_false, decide_true, decide_false, Option.map_some, Option.map_none, ite_true, ite_false, reduceIte, beq_self_eq_true, Bool.false_eq_true, Nat.zero_add, int_i, add_ii, sub_ii, lt_ii, gt_ii, ge_ii, le_ii, h]
theorem stepB {S : Sto} {tb : List (Str × D)} {z : Str} {ds : List D} {rest : MS} : (sSeq (sAsg (mKget tb (mBin oIx (mVar 0) (mC (.int 0)))) (tgN 1)) rest) [some (.tup (.str z :: ds)), none, none, none] S = rest [some (.tup (.str z :: ds)), some ((getT tb z).getD .non), none, none] S := by
  have f4 : oIx (.tup (.str z :: ds)) (.int 0) S = some (.str z, S) := ix_tup (k := 0) rfl
  simp only [mDef, sRet, sSeq, sIf, sExpr, sAsg, sNx, sBk, sCt, sPut, tgN, mBin, mUn, mMeth, mL, mM, mC, mVar, aNil, aCons, mTup, mLst, mIf, mSl, mChain, mAnd2, mOr2, mNot, tBl, tVal, tAnd2, tOr2, tNot2, startE, Rs.bind, Rs.bindS, lift, mCall, mCallC, mCall0, Rs.cold, List.length_cons, List.length_nil, List.map_cons, List.map_nil, List.replicate, List.append_eq, List.cons_append, List.nil_append, List.getElem?_cons_zero, List.getElem?_cons_succ, List.getElem?_nil, List.set_cons_zero, List.set_cons_succ, Nat.sub_self, Nat.reduceSub, Nat.reduceAdd, if_true, if_false, decide_true, decide_false, Option.map_some, Option.map_none, ite_true, ite_false, reduceIte, beq_self_eq_true, Bool.false_eq_true, Nat.zero_add, int_i, add_ii, sub_ii, lt_ii, gt_ii, ge_ii, le_ii, mKget, f4]
abbrev test2 : MT := (tOr2 (tBl (mBin oIs (mVar 1) (mC .non))) (tBl (mBin oNe (mL oLen (aCons (mVar 0) aNil)) (mBin oAdd (mL oLen (aCons (mVar 1) aNil)) (mC (.int 1))))))
theorem test2_non {S : Sto} {x0 x2 x3 : Option D} : test2 [x0, some .non, x2, x3] S = .ok true S := by
  have f1 : oIs .non .non S = some (.bl true, S) := rfl
  unfold test2
  simp only [mDef, sRet, sSeq, sIf, sExpr, sAsg, sNx, sBk, sCt, sPut, tgN, mBin, mUn, mMeth, mL, mM, mC, mVar, aNil, aCons, mTup, mLst, mIf, mSl, mChain, mAnd2, mOr2, mNot, tBl, tVal, tAnd2, tOr2, tNot2, startE, Rs.bind, Rs.bindS, lift, mCall, mCallC, mCall0, Rs.cold, List.length_cons, List.length_nil, List.map_cons, List.map_nil, List.replicate, List.append_eq, List.cons_append, List.nil_append, List.getElem?_cons_zero, List.getElem?_cons_succ, List.getElem?_nil, List.set_cons_zero, List.set_cons_succ, Nat.sub_self, Nat.reduceSub, Nat.reduceAdd, if_true, if_false, decide_true, decide_false, Option.map_some, Option.map_none, ite_true, ite_false, reduceIte, beq_self_eq_true, Bool.false_eq_true, Nat.zero_add, int_i, add_ii, sub_ii, lt_ii, gt_ii, ge_ii, le_ii, f1]
theorem test2_tup {S : Sto} {xs cs : List D} {x2 x3 : Option D} : test2 [some (.tup xs), some (.tup cs), x2, x3] S = .ok (!decide ((xs.length : Int) = (cs.length : Int) + 1)) S := by
  have f1 : oIs (.tup cs) .non S = some (.bl false, S) := rfl
  unfold test2
  simp only [mDef, sRet, sSeq, sIf, sExpr, sAsg, sNx, sBk, sCt, sPut, tgN, mBin, mUn, mMeth, mL, mM, mC, mVar, aNil, aCons, mTup, mLst, mIf, mSl, mChain, mAnd2, mOr2, mNot, tBl, tVal, tAnd2, tOr2, tNot2, startE, Rs.bind, Rs.bindS, lift, mCall, mCallC, mCall0, Rs.cold, List.length_cons, List.length_nil, List.map_cons, List.map_nil, List.replicate, List.append_eq, List.cons_append, List.nil_append, List.getElem?_cons_zero, List.getElem?_cons_succ, List.getElem?_nil, List.set_cons_zero, List.set_cons_succ, Nat.sub_self, Nat.reduceSub, Nat.reduceAdd, if_true, if_false, decide_true, decide_false, Option.map_some, Option.map_none, ite_true, ite_false, reduceIte, beq_self_eq_true, Bool.false_eq_true, Nat.zero_add, int_i, add_ii, sub_ii, lt_ii, gt_ii, ge_ii, le_ii, f1, len_tup, ne_ii]
theorem loop_at {e : Nv} {S : Sto} {fs : List Str} {d : D} {rest : List D} (h0 : e[0]? = some (some (.tup (d :: rest)))) (h1 : e[1]? = some (some (.tup (fs.map .fn)))) :
    (iZip (aCons (mVar 1) (aCons (mSl (mVar 0) (pAt (mC (.int 1))) pNo) aNil))) e S = .ok (itZT (fs.map .fn) rest) S := by
  have f1 : oSl (.tup (d :: rest)) (some 1) none S = some (.tup rest, S) := by
    show some (D.tup (M2.cutD (d :: rest) (some 1) none), S) = _
    rw [cut1]
  have a1 : (aCons (mVar 1) (aCons (mSl (mVar 0) (pAt (mC (.int 1))) pNo) aNil)) e S = .ok [.tup (fs.map .fn), .tup rest] S := by
    simp only [mDef, sRet, sSeq, sIf, sExpr, sAsg, sNx, sBk, sCt, sPut, tgN, mBin, mUn, mMeth, mL, mM, mC, mVar, aNil, aCons, mTup, mLst, mIf, mSl, mChain, mAnd2, mOr2, mNot, tBl, tVal, tAnd2, tOr2, tNot2, startE, Rs.bind, Rs.bindS, lift, mCall, mCallC, mCall0, Rs.cold, List.length_cons, List.length_nil, List.map_cons, List.map_nil, List.replicate, List.append_eq, List.cons_append, List.nil_append, List.getElem?_cons_zero, List.getElem?_cons_succ, List.getElem?_nil, List.set_cons_zero, List.set_cons_succ, Nat.sub_self, Nat.reduceSub, Nat.reduceAdd, if_true, if_false, decide_true, decide_false, Option.map_some, Option.map_none, ite_true, ite_false, reduceIte, beq_self_eq_true, Bool.false_eq_true, Nat.zero_add, int_i, add_ii, sub_ii, lt_ii, gt_ii, ge_ii, le_ii, h0, h1, pAt, pNo, f1]
  show (((aCons (mVar 1) (aCons (mSl (mVar 0) (pAt (mC (.int 1))) pNo) aNil)) e S).bind fun ds S1 => match ds with
    | [.loc n, .loc m] => match S1[n]?, S1[m]? with
      | some (.lst _ xs), some (.lst _ ys) => Rs.ok (itZL n m (min xs.length ys.length)) S1
      | _, _ => .stuck
    | [.tup xs, .tup ys] => .ok (itZT xs ys) S1
    | _ => .stuck) = _
  rw [a1]
  rfl
theorem deedH {S : Sto} {fs : List Str} {z : Str} {rest : List D} (hf : ∀ f ∈ fs, (chk f).isSome = true) (hx : ∀ x ∈ rest, Thing S x) (hl : rest.length = fs.length) :
    ∃ S', (sSeq (sFor (iZip (aCons (mVar 1) (aCons (mSl (mVar 0) (pAt (mC (.int 1))) pNo) aNil))) (tgT [(tgN 2), (tgN 3)]) bodyH) (sRet (mC (.bl true)))) [some (.tup (.str z :: rest)), some (.tup (fs.map .fn)), none, none] S = .rt (.bl (passB (List.zip fs rest))) S' ∧ Gr S S' := by
  have hI := loop_at (e := [some (.tup (.str z :: rest)), some (.tup (fs.map .fn)), none, none]) (S := S) (fs := fs) (d := .str z) (rest := rest) rfl rfl
  have hcnt : (itZT (fs.map D.fn) rest).cnt = (List.zip fs rest).length := by
    show min (fs.map D.fn).length rest.length = _
    rw [List.length_map, List.length_zip]
  obtain ⟨S', g, h⟩ := loopH (e0 := some (.tup (.str z :: rest))) (e1 := some (.tup (fs.map .fn))) (it := itZT (fs.map D.fn) rest) hf hx fun i S1 => by
    show some (zipAt (fs.map D.fn) rest i) = _
    rw [zipAt_zip]
    congr 2
    rw [List.zip_map_left, List.map_map]
    rfl
  have hfor : sFor (iZip (aCons (mVar 1) (aCons (mSl (mVar 0) (pAt (mC (.int 1))) pNo) aNil))) (tgT [(tgN 2), (tgN 3)]) bodyH [some (.tup (.str z :: rest)), some (.tup (fs.map .fn)), none, none] S = loopM (itZT (fs.map D.fn) rest) (tgT [(tgN 2), (tgN 3)]) bodyH (List.zip fs rest).length 0 [some (.tup (.str z :: rest)), some (.tup (fs.map .fn)), none, none] S := by
    unfold sFor
    rw [hI]
    show loopM _ _ _ (itZT (fs.map D.fn) rest).cnt 0 _ S = _
    rw [hcnt]
  refine ⟨S', ?_, g⟩
  rcases h with ⟨hp, e2, e3, h⟩ | ⟨hp, h⟩
  · rw [hp]
    rw [h] at hfor
    generalize sFor (iZip (aCons (mVar 1) (aCons (mSl (mVar 0) (pAt (mC (.int 1))) pNo) aNil))) (tgT [(tgN 2), (tgN 3)]) bodyH = fl at hfor ⊢
    simp only [mDef, sRet, sSeq, sIf, sExpr, sAsg, sNx, sBk, sCt, sPut, tgN, mBin, mUn, mMeth, mL, mM, mC, mVar, aNil, aCons, mTup, mLst, mIf, mSl, mChain, mAnd2, mOr2, mNot, tBl, tVal, tAnd2, tOr2, tNot2, startE, Rs.bind, Rs.bindS, lift, mCall, mCallC, mCall0, Rs.cold, List.length_cons, List.length_nil, List.map_cons, List.map_nil, List.replicate, List.append_eq, List.cons_append, List.nil_append, List.getElem?_cons_zero, List.getElem?_cons_succ, List.getElem?_nil, List.set_cons_zero, List.set_cons_succ, Nat.sub_self, Nat.reduceSub, Nat.reduceAdd, if_true, if_false, decide_true, decide_false, Option.map_some, Option.map_none, ite_true, ite_false, reduceIte, beq_self_eq_true, Bool.false_eq_true, Nat.zero_add, int_i, add_ii, sub_ii, lt_ii, gt_ii, ge_ii, le_ii, hfor]
  · rw [hp]
    rw [h] at hfor
    generalize sFor (iZip (aCons (mVar 1) (aCons (mSl (mVar 0) (pAt (mC (.int 1))) pNo) aNil))) (tgT [(tgN 2), (tgN 3)]) bodyH = fl at hfor ⊢
    simp only [mDef, sRet, sSeq, sIf, sExpr, sAsg, sNx, sBk, sCt, sPut, tgN, mBin, mUn, mMeth, mL, mM, mC, mVar, aNil, aCons, mTup, mLst, mIf, mSl, mChain, mAnd2, mOr2, mNot, tBl, tVal, tAnd2, tOr2, tNot2, startE, Rs.bind, Rs.bindS, lift, mCall, mCallC, mCall0, Rs.cold, List.length_cons, List.length_nil, List.map_cons, List.map_nil, List.replicate, List.append_eq, List.cons_append, List.nil_append, List.getElem?_cons_zero, List.getElem?_cons_succ, List.getElem?_nil, List.set_cons_zero, List.set_cons_succ, Nat.sub_self, Nat.reduceSub, Nat.reduceAdd, if_true, if_false, decide_true, decide_false, Option.map_some, Option.map_none, ite_true, ite_false, reduceIte, beq_self_eq_true, Bool.false_eq_true, Nat.zero_add, int_i, add_ii, sub_ii, lt_ii, gt_ii, ge_ii, le_ii, hfor]
theorem isdeed_ok {S : Sto} {xs : List D} (h : ∀ x ∈ xs, Thing S x) : ∃ S', m_is_deed [.tup xs] S = .ok (.bl (deedB xs)) S' ∧ Gr S S' := by
  have run : ∀ {k : Bool} {S' : Sto}, b_is_deed [some (.tup xs), none, none, none] S = .rt (.bl k) S' → m_is_deed [.tup xs] S = .ok (.bl k) S' := fun e => def4_rt e
  cases hn : noStr xs with
  | true =>
    refine ⟨S, run ?_, Gr.refl _⟩
    refine (stepA (test1_eq h)).trans ?_
    rw [hn, if_pos rfl]
    congr 2
    cases xs with
    | nil => rfl
    | cons d ds =>
      cases d with
      | str z => cases hn
      | _ => rfl
  | false =>
    obtain ⟨z, rest, rfl⟩ : ∃ z rest, xs = D.str z :: rest := by
      cases xs with
      | nil => cases hn
      | cons d ds =>
        cases d with
        | str z => exact ⟨z, ds, rfl⟩
        | _ => cases hn
    cases hk : kindsOf z with
    | none =>
      refine ⟨S, run ?_, Gr.refl _⟩
      refine (stepA (test1_eq h)).trans ?_
      rw [hn, if_neg Bool.false_ne_true]
      refine stepB.trans ?_
      rw [get_parts, hk]
      refine (stepA test2_non).trans ?_
      rw [if_pos rfl]
      congr 2
      show _ = (match kindsOf z with | some fs => decide (rest.length = fs.length) && passB (List.zip fs rest) | none => false)
      rw [hk]
    | some fs =>
      obtain ⟨k1, k2⟩ := kinds_ok hk
      have hd : deedB (.str z :: rest) = (decide (rest.length = fs.length) && passB (List.zip fs rest)) := by
        show (match kindsOf z with | some fs => decide (rest.length = fs.length) && passB (List.zip fs rest) | none => false) = _
        rw [hk]
      by_cases hl : rest.length = fs.length
      · obtain ⟨S', r, g⟩ := deedH (z := z) k2 (fun x hx => h x (List.mem_cons_of_mem _ hx)) hl
        refine ⟨S', run ?_, g⟩
        refine (stepA (test1_eq h)).trans ?_
        rw [hn, if_neg Bool.false_ne_true]
        refine stepB.trans ?_
        rw [get_parts, hk]
        refine (stepA test2_tup).trans ?_
        rw [List.length_cons, List.length_map, decide_eq_true (by omega), Bool.not_true, if_neg Bool.false_ne_true, hd, decide_eq_true hl, Bool.true_and]
        exact r
      · refine ⟨S, run ?_, Gr.refl _⟩
        refine (stepA (test1_eq h)).trans ?_
        rw [hn, if_neg Bool.false_ne_true]
        refine stepB.trans ?_
        rw [get_parts, hk]
        refine (stepA test2_tup).trans ?_
        rw [List.length_cons, List.length_map, decide_eq_false (by omega), Bool.not_false, if_pos rfl, hd, decide_eq_false hl, Bool.false_and]
end K29
end

section
set_option Elab.async false
set_option linter.all false
set_option maxRecDepth 100000
/-! P19: law k29, plainly: dicts of letters. -/
namespace K29
open PySem PySem.Spec M2 P0
open L2 (Key)
set_option autoImplicit false
theorem test1_not {S : Sto} {d : D} {t : String} {x1 x2 x3 : Option D} (h1 : tyD S d = some t) (h2 : t ≠ "tuple") : test1 [some d, x1, x2, x3] S = .ok true S := by
  have f1 := type_of h1
  have f2 : oIsNot (.ty t) (.ty "tuple") S = some (.bl true, S) := by rw [isNot_ty, decide_eq_false h2]; rfl
  unfold test1
  simp only [mDef, sRet, sSeq, sIf, sExpr, sAsg, sNx, sBk, sCt, sPut, tgN, mBin, mUn, mMeth, mL, mM, mC, mVar, aNil, aCons, mTup, mLst, mIf, mSl, mChain, mAnd2, mOr2, mNot, tBl, tVal, tAnd2, tOr2, tNot2, startE, Rs.bind, Rs.bindS, lift, mCall, mCallC, mCall0, Rs.cold, List.length_cons, List.length_nil, List.map_cons, List.map_nil, List.replicate, List.append_eq, List.cons_append, List.nil_append, List.getElem?_cons_zero, List.getElem?_cons_succ, List.getElem?_nil, List.set_cons_zero, List.set_cons_succ, Nat.sub_self, Nat.reduceSub, Nat.reduceAdd, if_true, if_false, decide_true, decide_false, Option.map_some, Option.map_none, ite_true, ite_false, reduceIte, beq_self_eq_true, Bool.false_eq_true, Nat.zero_add, int_i, add_ii, sub_ii, lt_ii, gt_ii, ge_ii, le_ii, f1, f2]
/-- is_deed of a thing -/
theorem isdeed_thing {S : Sto} {d : D} (h : Thing S d ∨ ∃ xs, d = .tup xs ∧ ∀ x ∈ xs, Thing S x) : ∃ S', m_is_deed [d] S = .ok (.bl (tupT deedB d)) S' ∧ Gr S S' := by
  have key : ∀ xs : List D, (∀ x ∈ xs, Thing S x) → ∃ S', m_is_deed [.tup xs] S = .ok (.bl (tupT deedB (.tup xs))) S' ∧ Gr S S' := fun xs hx => isdeed_ok hx
  rcases h with h | ⟨xs, rfl, hx⟩
  · rcases tup_or h with ⟨xs, rfl, _, hx⟩ | ⟨hn, t, h1, h2, h3⟩
    · exact key xs fun x hm => (hx x hm).thing
    · refine ⟨S, ?_, Gr.refl _⟩
      rw [tupT_not hn]
      exact def4_rt ((stepA (test1_not h1 h2)).trans (if_pos rfl))
  · exact key xs hx
/-! ### the dict of kinds -/
def kD1 : List (Str × Str) := [("make", "n"), ("unmake", "b"), ("rename", "bn"), ("grant", "bnl"), ("put", "bft"), ("flag", "bumf"), ("copy", "bub"), ("move", "bub")]
def kD2 : List (Str × Str) := [("take", "bu"), ("leave", "b"), ("filter", "t"), ("send", "at"), ("back", "oo")]
def asK (l : List (Str × Str)) : List (Key × D) := l.map fun p => (.inr p.1, .str p.2)
theorem pairs_lit {e : Nv} {S : Sto} : ∀ l : List (Str × Str), mPairs (l.map fun p => (mC (.str p.1), mC (.str p.2))) e S = .ok (l.map fun p => (D.str p.1, D.str p.2)) S
  | [] => rfl
  | p :: l => by
    have ih := pairs_lit (e := e) (S := S) l
    show (mPairs (l.map fun p => (mC (.str p.1), mC (.str p.2))) e S).bind (fun ps S3 => .ok ((D.str p.1, D.str p.2) :: ps) S3) = _
    rw [ih]; rfl
theorem keysD_map {α : Type} (f : α → Str) (g : α → D) : ∀ l : List α, keysD (l.map fun p => (D.str (f p), g p)) = some (l.map fun p => (.inr (f p), g p))
  | [] => rfl
  | p :: l => by
    show (keysD (l.map fun p => (D.str (f p), g p))).map _ = _
    rw [keysD_map f g l]; rfl
/-- keys that are unlike are put one behind the other -/
theorem put_new {kvs : List (Key × D)} {k : Key} {d : D} (h : (kvs.any fun kv => decide (kv.1 = k)) = false) : putD kvs k d = kvs ++ [(k, d)] := by
  unfold putD
  rw [h]; rfl
theorem any_map {α : Type} (f : α → Str) (g : α → D) (k : Str) : ∀ l : List α, ((l.map fun p => ((.inr (f p), g p) : Key × D)).any fun kv => decide (kv.1 = .inr k)) = l.any fun p => decide (f p = k)
  | [] => rfl
  | p :: l => by
    rw [List.map_cons, List.any_cons, List.any_cons, any_map f g k l]
    congr 1
    rw [Bool.eq_iff_iff, decide_eq_true_eq, decide_eq_true_eq]
    constructor
    · intro h; cases h; rfl
    · intro h; rw [h]
theorem merge_map {α : Type} (f : α → Str) (g : α → D) : ∀ (l m : List α), ((m ++ l).map f).Nodup → mergeD (m.map fun p => ((.inr (f p), g p) : Key × D)) (l.map fun p => (.inr (f p), g p)) = (m ++ l).map fun p => (.inr (f p), g p)
  | [], m, _ => by rw [List.append_nil]; rfl
  | p :: l, m, h => by
    show mergeD (putD (m.map fun p => ((.inr (f p), g p) : Key × D)) (.inr (f p)) (g p)) (l.map fun p => (.inr (f p), g p)) = _
    rw [put_new]
    · have e : (m.map fun p => ((.inr (f p), g p) : Key × D)) ++ [(.inr (f p), g p)] = (m ++ [p]).map fun p => (.inr (f p), g p) := by rw [List.map_append]; rfl
      rw [e, merge_map f g l (m ++ [p]) (by rw [List.append_assoc]; exact h), List.append_assoc]
      rfl
    · rw [any_map, List.any_eq_false]
      intro q hq
      simp only [decide_eq_true_eq]
      intro e
      rw [List.map_append, List.nodup_append] at h
      exact h.2.2 (f q) (List.mem_map.mpr ⟨q, hq, rfl⟩) (f p) (by rw [List.map_cons]; exact List.mem_cons_self) e
theorem get_map {α : Type} (f : α → Str) (g : α → D) (z : Str) : ∀ l : List α, getD' (l.map fun p => ((.inr (f p), g p) : Key × D)) (.inr z) = (l.find? fun p => decide (f p = z)).map g
  | [] => rfl
  | p :: l => by
    have ih := get_map f g z l
    unfold getD' at ih ⊢
    rw [List.map_cons, List.find?_cons, List.find?_cons]
    have e : decide ((Sum.inr (f p) : Key) = .inr z) = decide (f p = z) := by
      rw [Bool.eq_iff_iff, decide_eq_true_eq, decide_eq_true_eq]
      constructor
      · intro h; cases h; rfl
      · intro h; rw [h]
    show ((match decide ((Sum.inr (f p) : Key) = .inr z) with | true => some _ | false => _) : Option (Key × D)).map (·.2) = _
    rw [e]
    cases decide (f p = z) with
    | true => rfl
    | false => exact ih
theorem oPut_dic {S : Sto} {n : Nat} {kvs : List (Key × D)} {k : Str} {d : D} (h : S[n]? = some (.dic kvs)) (hl : kvs.length < 100) : oPut (.loc n) (.str k) d S = some (S.set n (.dic (putD kvs (.inr k) d))) := by
  show (match S[n]? with
    | some (.lst true ds) => _
    | some (.dic kvs) => match keyD (.str k) with
      | some k => if kvs.length < sizeLine then some (S.set n (.dic (putD kvs k d))) else none
      | none => none
    | _ => none) = _
  rw [h]
  show (if kvs.length < sizeLine then some (S.set n (.dic (putD kvs (.inr k) d))) else none) = _
  rw [if_pos (by rw [sizeLine_eq]; omega)]
theorem kD_nodup : ((kD1 ++ kD2).map (·.1)).Nodup := by decide +kernel
theorem dict_kinds {e : Nv} {S : Sto} : mDict (kD1.map fun p => (mC (.str p.1), mC (.str p.2))) e S = .ok (.loc S.length) (S ++ [.dic (asK kD1)]) := by
  unfold mDict
  rw [pairs_lit]
  have h1 : (S ++ [SO.dic []])[S.length]? = some (.dic []) := by simp
  have h2 : keysD (kD1.map fun p => (D.str p.1, D.str p.2)) = some (asK kD1) := keysD_map (fun p : Str × Str => p.1) (fun p => .str p.2) kD1
  have h3 : mergeD [] (asK kD1) = asK kD1 := merge_map (fun p : Str × Str => p.1) (fun p => .str p.2) kD1 [] (by
    have := kD_nodup
    rw [List.map_append, List.nodup_append] at this
    exact this.1)
  have h4 : (asK kD1).length ≤ 15 := by show 8 ≤ 15; omega
  simp only [Rs.bind, h1, h2, h3, if_pos h4]
  rw [List.set_append_right _ _ (Nat.le_refl _), Nat.sub_self]
  rfl
theorem put_kind {e : Nv} {S : Sto} {l : List (Str × Str)} {k v : Str} {j : Nat} (he : e[j]? = some (some (.loc S.length))) (hl : l.length < 100) (hk : (l.any fun p => decide (p.1 = k)) = false) : sPut (mC (.str v)) (mVar j) (mC (.str k)) e (S ++ [.dic (asK l)]) = .nx e (S ++ [.dic (asK (l ++ [(k, v)]))]) := by
  have h1 : (S ++ [SO.dic (asK l)])[S.length]? = some (.dic (asK l)) := by simp
  have f1 := oPut_dic (k := k) (d := .str v) h1 (by unfold asK; rw [List.length_map]; exact hl)
  have e1 : putD (asK l) (.inr k) (.str v) = asK (l ++ [(k, v)]) := by
    rw [put_new (by unfold asK; exact (any_map (fun p : Str × Str => p.1) (fun p => .str p.2) k l).trans hk)]
    unfold asK
    rw [List.map_append]; rfl
  have e2 : (S ++ [SO.dic (asK l)]).set S.length (.dic (putD (asK l) (.inr k) (.str v))) = S ++ [.dic (asK (l ++ [(k, v)]))] := by
    rw [List.set_append_right _ _ (Nat.le_refl _), Nat.sub_self, e1]; rfl
  rw [e2] at f1
  simp only [mDef, sRet, sSeq, sIf, sExpr, sAsg, sNx, sBk, sCt, sPut, tgN, mBin, mUn, mMeth, mL, mM, mC, mVar, aNil, aCons, mTup, mLst, mIf, mSl, mChain, mAnd2, mOr2, mNot, tBl, tVal, tAnd2, tOr2, tNot2, startE, Rs.bind, Rs.bindS, lift, mCall, mCallC, mCall0, Rs.cold, List.length_cons, List.length_nil, List.map_cons, List.map_nil, List.replicate, List.append_eq, List.cons_append, List.nil_append, List.getElem?_cons_zero, List.getElem?_cons_succ, List.getElem?_nil, List.set_cons_zero, List.set_cons_succ, Nat.sub_self, Nat.reduceSub, Nat.reduceAdd, if_true, if_false, decide_true, decide_false, Option.map_some, Option.map_none, ite_true, ite_false, reduceIte, beq_self_eq_true, Bool.false_eq_true, Nat.zero_add, int_i, add_ii, sub_ii, lt_ii, gt_ii, ge_ii, le_ii, he, f1]
end K29
end

section
set_option Elab.async false
set_option linter.all false
set_option maxRecDepth 100000
/-! P20: law k29, plainly: the dict of what is good. -/
namespace K29
open PySem PySem.Spec M2 P0
open L2 (Key)
set_option autoImplicit false
def lf (s : Str) : Str := if s = "n" then "is_name" else if s = "b" then "is_box" else if s = "l" then "are_rights" else if s = "f" then "are_flags" else if s = "t" then "is_content" else if s = "u" then "are_uids" else if s = "m" then "is_mode" else if s = "a" then "are_texts" else "is_count"
def gv (d : D) (s : Str) : Bool := match chk (lf s) with | some c => c d | none => false
theorem gv_of {d : D} {s f : Str} {c : D → Bool} (h1 : lf s = f) (h2 : chk f = some c) : gv d s = c d := by
  unfold gv
  rw [h1, h2]
theorem lf_n : lf "n" = "is_name" := by decide +kernel
theorem lf_b : lf "b" = "is_box" := by decide +kernel
theorem lf_l : lf "l" = "are_rights" := by decide +kernel
theorem lf_f : lf "f" = "are_flags" := by decide +kernel
theorem lf_t : lf "t" = "is_content" := by decide +kernel
theorem lf_u : lf "u" = "are_uids" := by decide +kernel
theorem lf_m : lf "m" = "is_mode" := by decide +kernel
theorem lf_a : lf "a" = "are_texts" := by decide +kernel
theorem lf_o : lf "o" = "is_count" := by decide +kernel
theorem chk_n : chk "is_name" = some (strT nameB) := rfl
theorem chk_b : chk "is_box" = some intB := rfl
theorem chk_l : chk "are_rights" = some rightsB := rfl
theorem chk_f : chk "are_flags" = some (tupT flagsB) := rfl
theorem chk_t : chk "is_content" = some isStrB := rfl
theorem chk_u : chk "are_uids" = some (tupT uidsB) := rfl
theorem chk_m : chk "is_mode" = some modeB := rfl
theorem chk_a : chk "are_texts" = some textsT := rfl
theorem chk_o : chk "is_count" = some (numB 1) := rfl
/-- a value that may lay lists on its way -/
def Evl (S0 : Sto) (e : Nv) (mv : MV) (k : Bool) : Prop := ∀ S, Gr S0 S → ∃ S', mv e S = .ok (.bl k) S' ∧ Gr S S'
theorem pairs_gr {e : Nv} {S0 : Sto} (v : Str → Bool) : ∀ (l : List (Str × MV)), (∀ p ∈ l, Evl S0 e p.2 (v p.1)) → ∀ S, Gr S0 S → ∃ S', mPairs (l.map fun p => (mC (.str p.1), p.2)) e S = .ok (l.map fun p => (D.str p.1, D.bl (v p.1))) S' ∧ Gr S S'
  | [], _, S, _ => ⟨S, rfl, Gr.refl _⟩
  | p :: l, h, S, g => by
    obtain ⟨S1, a1, a2⟩ := h p List.mem_cons_self S g
    obtain ⟨S2, b1, b2⟩ := pairs_gr v l (fun q hq => h q (List.mem_cons_of_mem _ hq)) S1 (g.trans a2)
    refine ⟨S2, ?_, a2.trans b2⟩
    show (p.2 e S).bind (fun v S2 => (mPairs (l.map fun p => (mC (.str p.1), p.2)) e S2).bind fun ps S3 => .ok ((D.str p.1, v) :: ps) S3) = _
    rw [a1]
    show (mPairs (l.map fun p => (mC (.str p.1), p.2)) e S1).bind (fun ps S3 => .ok ((D.str p.1, D.bl (v p.1)) :: ps) S3) = _
    rw [b1]
    rfl
def asG (v : Str → Bool) (l : List Str) : List (Key × D) := l.map fun s => (.inr s, .bl (v s))
theorem dict_gr {e : Nv} {S : Sto} (v : Str → Bool) (l : List (Str × MV)) (h : ∀ p ∈ l, Evl S e p.2 (v p.1)) (nd : (l.map (·.1)).Nodup) (hl : l.length ≤ 15) :
    ∃ S', mDict (l.map fun p => (mC (.str p.1), p.2)) e S = .ok (.loc S.length) S' ∧ Gr S S' ∧ S'[S.length]? = some (.dic (asG v (l.map (·.1)))) := by
  obtain ⟨S1, a1, a2⟩ := pairs_gr v l h (S ++ [.dic []]) (Gr.one _ _)
  have h1 : S1[S.length]? = some (.dic []) := a2.get (by simp)
  have e0 : asG v (l.map (·.1)) = l.map fun p => ((.inr p.1, .bl (v p.1)) : Key × D) := by unfold asG; rw [List.map_map]; rfl
  have h2 : keysD (l.map fun p => (D.str p.1, D.bl (v p.1))) = some (asG v (l.map (·.1))) := (keysD_map (fun p : Str × MV => p.1) (fun p => .bl (v p.1)) l).trans (by rw [e0])
  have h3 : mergeD [] (asG v (l.map (·.1))) = asG v (l.map (·.1)) := by
    rw [e0]
    exact merge_map (fun p : Str × MV => p.1) (fun p => .bl (v p.1)) l [] nd
  have h4 : (asG v (l.map (·.1))).length ≤ 15 := by unfold asG; rw [List.length_map, List.length_map]; exact hl
  refine ⟨S1.set S.length (.dic (asG v (l.map (·.1)))), ?_, ((Gr.one _ _).trans a2).set_new (Nat.le_refl _), List.getElem?_set_self (List.getElem?_eq_some_iff.mp h1).1⟩
  unfold mDict
  rw [a1]
  simp only [Rs.bind, h1, h2, h3, if_pos h4]
theorem put_gr {e : Nv} {S0 S : Sto} {n j : Nat} {v : Str → Bool} {l : List Str} {k : Str} {mv : MV} (he : e[j]? = some (some (.loc n))) (hn : S0.length ≤ n) (hg : Gr S0 S) (hd : S[n]? = some (.dic (asG v l))) (hl : l.length < 100) (hk : (l.any fun s => decide (s = k)) = false) (hm : Evl S0 e mv (v k)) :
    ∃ S', sPut mv (mVar j) (mC (.str k)) e S = .nx e S' ∧ Gr S0 S' ∧ S'[n]? = some (.dic (asG v (l ++ [k]))) := by
  obtain ⟨S1, a1, a2⟩ := hm S hg
  have hd1 := a2.get hd
  have f1 := oPut_dic (k := k) (d := .bl (v k)) hd1 (by unfold asG; rw [List.length_map]; exact hl)
  have e1 : putD (asG v l) (.inr k) (.bl (v k)) = asG v (l ++ [k]) := by
    rw [put_new (by unfold asG; exact (any_map (fun s : Str => s) (fun s => .bl (v s)) k l).trans hk)]
    unfold asG
    rw [List.map_append]; rfl
  rw [e1] at f1
  refine ⟨S1.set n (.dic (asG v (l ++ [k]))), ?_, (hg.trans a2).set_new hn, List.getElem?_set_self (List.getElem?_eq_some_iff.mp hd1).1⟩
  simp only [mDef, sRet, sSeq, sIf, sExpr, sAsg, sNx, sBk, sCt, sPut, tgN, mBin, mUn, mMeth, mL, mM, mC, mVar, aNil, aCons, mTup, mLst, mIf, mSl, mChain, mAnd2, mOr2, mNot, tBl, tVal, tAnd2, tOr2, tNot2, startE, Rs.bind, Rs.bindS, lift, mCall, mCallC, mCall0, Rs.cold, List.length_cons, List.length_nil, List.map_cons, List.map_nil, List.replicate, List.append_eq, List.cons_append, List.nil_append, List.getElem?_cons_zero, List.getElem?_cons_succ, List.getElem?_nil, List.set_cons_zero, List.set_cons_succ, Nat.sub_self, Nat.reduceSub, Nat.reduceAdd, if_true, if_false, decide_true, decide_false, Option.map_some, Option.map_none, ite_true, ite_false, reduceIte, beq_self_eq_true, Bool.false_eq_true, Nat.zero_add, int_i, add_ii, sub_ii, lt_ii, gt_ii, ge_ii, le_ii, a1, he, f1]
theorem seq_nx {a b : MS} {e e1 : Nv} {S S1 : Sto} (h : a e S = .nx e1 S1) : sSeq a b e S = b e1 S1 := by
  unfold sSeq
  rw [h]
/-- [x for x in tuple if t] == [] anywhere -/
theorem comp_noneG {e : Nv} {S : Sto} {ds : List D} {i j : Nat} {tt : MT} (p : D → Bool) (he : e[i]? = some (some (.tup ds))) (hj : j < e.length) (hz : ds.length ≤ sizeLine) (hpd : ∀ d ∈ ds, PD S d) (ht : ∀ d ∈ ds, ∀ S1, Gr S S1 → ∃ S2, tt ((wipeE e [j]).set j (some d)) S1 = .ok (p d) S2 ∧ Gr S1 S2) :
    ∃ S', mBin oEq (mLcC (iAny (mVar i)) (tgN j) tt (mVar j) [j]) (mLst aNil) e S = .ok (.bl (!ds.any p)) S' ∧ Gr S S' := by
  have hjw : j < (wipeE e [j]).length := by simp [wipeE, hj]
  obtain ⟨S', c1, c2, c3, c4⟩ := lc_gr (it := itD ds) (cnt := (itD ds).cnt) (n := S.length) (tg := tgN j) (tt := tt) (me := mVar j) (e := wipeE e [j]) (xs := ds) p id S (fun i S1 _ => itD_at) rfl hz
    (fun x hx S1 hg => by
      obtain ⟨S2, h1, h2⟩ := ht x hx S1 hg
      refine ⟨_, S2, rfl, h1, h2, fun _ => ?_⟩
      have e1 : ((wipeE e [j]).set j (some x))[j]? = some (some x) := List.getElem?_set_self hjw
      simp only [mVar, e1]
      rfl) rfl
  have hm : mLcC (iAny (mVar i)) (tgN j) tt (mVar j) [j] e S = .ok (.loc S.length) S' := by
    unfold mLcC
    rw [iAny_tup he]
    simp only [Rs.bind]
    rw [c1]
    rfl
  have q : eqD (S' ++ [.lst true []]) (.loc S.length) (.loc S'.length) = some (!ds.any p) := by
    rw [eq_nil (w := true) (w' := true) (by rw [List.getElem?_append_left c4]; exact c3) (by simp) fun d hd => ?_]
    · congr 1
      rw [List.map_id, Bool.eq_iff_iff, List.isEmpty_iff, List.filter_eq_nil_iff, Bool.not_eq_true', List.any_eq_false]
    · rw [List.map_id] at hd
      exact (hpd d (List.mem_filter.mp hd).1).gr (c2.trans (Gr.one _ _))
  have f4 : oEq (.loc S.length) (.loc S'.length) (S' ++ [.lst true []]) = some (.bl (!ds.any p), S' ++ [.lst true []]) := by
    show (eqD _ _ _).map _ = _
    rw [q]; rfl
  have z0 : (0 ≤ sizeLine) = True := eq_true (Nat.zero_le _)
  refine ⟨S' ++ [.lst true []], ?_, c2.trans (Gr.one _ _)⟩
  generalize mLcC (iAny (mVar i)) (tgN j) tt (mVar j) [j] = mm at hm
  simp only [mDef, sRet, sSeq, sIf, sExpr, sAsg, sNx, sBk, sCt, sPut, tgN, mBin, mUn, mMeth, mL, mM, mC, mVar, aNil, aCons, mTup, mLst, mIf, mSl, mChain, mAnd2, mOr2, mNot, tBl, tVal, tAnd2, tOr2, tNot2, startE, Rs.bind, Rs.bindS, lift, mCall, mCallC, mCall0, Rs.cold, List.length_cons, List.length_nil, List.map_cons, List.map_nil, List.replicate, List.append_eq, List.cons_append, List.nil_append, List.getElem?_cons_zero, List.getElem?_cons_succ, List.getElem?_nil, List.set_cons_zero, List.set_cons_succ, Nat.sub_self, Nat.reduceSub, Nat.reduceAdd, if_true, if_false, decide_true, decide_false, Option.map_some, Option.map_none, ite_true, ite_false, reduceIte, beq_self_eq_true, Bool.false_eq_true, Nat.zero_add, int_i, add_ii, sub_ii, lt_ii, gt_ii, ge_ii, le_ii, hm, z0, f4]
/-! ### the nine values -/
section
variable {S0 : Sto} {d e0 : D} {x0 x1 x2 x4 x5 x6 : Option D}
theorem evl_call {e : Nv} {f : MF} {k : Bool} (he : e[3]? = some (some d)) (h : ∀ S, Gr S0 S → ∃ S', f [d] S = .ok (.bl k) S' ∧ Gr S S') : Evl S0 e (mCall f (aCons (mVar 3) aNil)) k := fun S g => by
  obtain ⟨S', h1, h2⟩ := h S g
  refine ⟨S', ?_, h2⟩
  simp only [mDef, sRet, sSeq, sIf, sExpr, sAsg, sNx, sBk, sCt, sPut, tgN, mBin, mUn, mMeth, mL, mM, mC, mVar, aNil, aCons, mTup, mLst, mIf, mSl, mChain, mAnd2, mOr2, mNot, tBl, tVal, tAnd2, tOr2, tNot2, startE, Rs.bind, Rs.bindS, lift, mCall, mCallC, mCall0, Rs.cold, List.length_cons, List.length_nil, List.map_cons, List.map_nil, List.replicate, List.append_eq, List.cons_append, List.nil_append, List.getElem?_cons_zero, List.getElem?_cons_succ, List.getElem?_nil, List.set_cons_zero, List.set_cons_succ, Nat.sub_self, Nat.reduceSub, Nat.reduceAdd, if_true, if_false, decide_true, decide_false, Option.map_some, Option.map_none, ite_true, ite_false, reduceIte, beq_self_eq_true, Bool.false_eq_true, Nat.zero_add, int_i, add_ii, sub_ii, lt_ii, gt_ii, ge_ii, le_ii, he, h1]
theorem evl_n {e : Nv} (he : e[3]? = some (some d)) (h : Thing S0 d) : Evl S0 e (mCall m__law_name (aCons (mVar 3) aNil)) (gv d "n") := by
  rw [gv_of lf_n chk_n]
  exact evl_call he fun S g => lname_thing (h.gr g)
theorem evl_b {e : Nv} (he : e[3]? = some (some d)) (h : Thing S0 d) : Evl S0 e (mCall m__law_box (aCons (mVar 3) aNil)) (gv d "b") := by
  rw [gv_of lf_b chk_b]
  exact evl_call he fun S g => ⟨S, lbox_thing (h.gr g), Gr.refl _⟩
theorem evl_l {e : Nv} (he : e[3]? = some (some d)) (h : Thing S0 d) : Evl S0 e (mCall m__law_letters (aCons (mVar 3) aNil)) (gv d "l") := by
  rw [gv_of lf_l chk_l]
  exact evl_call he fun S g => letters_thing (h.gr g)
theorem evl_f {e : Nv} (he : e[3]? = some (some d)) (h : Thing S0 d) : Evl S0 e (mCall m__law_flags (aCons (mVar 3) aNil)) (gv d "f") := by
  rw [gv_of lf_f chk_f]
  exact evl_call he fun S g => lflags_thing (h.gr g)
theorem evl_u {e : Nv} (he : e[3]? = some (some d)) (h : Thing S0 d) : Evl S0 e (mCall m__law_uids (aCons (mVar 3) aNil)) (gv d "u") := by
  rw [gv_of lf_u chk_u]
  exact evl_call he fun S g => luids_thing (h.gr g)
theorem isi_str {S : Sto} (h : Thing S d) : oIsi [d, .ty "str"] S = some (.bl (isStrB d), S) := by
  rcases h.wf with ⟨x, rfl, hx⟩ | ⟨⟨t, h1, h2⟩, _⟩
  · rfl
  · rw [isi_of h1 (kit_str h2 ⟨S, d, h1⟩)]
    have : isStrB d = false := by
      cases d with
      | str x => cases h1; exact absurd rfl h2
      | _ => rfl
    rw [this]
theorem evl_t {e : Nv} (he : e[3]? = some (some d)) (h : Thing S0 d) : Evl S0 e (mL oIsi (aCons (mVar 3) (aCons (mC (.ty "str")) aNil))) (gv d "t") := fun S g => by
  rw [gv_of lf_t chk_t]
  refine ⟨S, ?_, Gr.refl _⟩
  have f1 := isi_str (h.gr g)
  simp only [mDef, sRet, sSeq, sIf, sExpr, sAsg, sNx, sBk, sCt, sPut, tgN, mBin, mUn, mMeth, mL, mM, mC, mVar, aNil, aCons, mTup, mLst, mIf, mSl, mChain, mAnd2, mOr2, mNot, tBl, tVal, tAnd2, tOr2, tNot2, startE, Rs.bind, Rs.bindS, lift, mCall, mCallC, mCall0, Rs.cold, List.length_cons, List.length_nil, List.map_cons, List.map_nil, List.replicate, List.append_eq, List.cons_append, List.nil_append, List.getElem?_cons_zero, List.getElem?_cons_succ, List.getElem?_nil, List.set_cons_zero, List.set_cons_succ, Nat.sub_self, Nat.reduceSub, Nat.reduceAdd, if_true, if_false, decide_true, decide_false, Option.map_some, Option.map_none, ite_true, ite_false, reduceIte, beq_self_eq_true, Bool.false_eq_true, Nat.zero_add, int_i, add_ii, sub_ii, lt_ii, gt_ii, ge_ii, le_ii, he, f1]
theorem evl_m {e : Nv} (he : e[3]? = some (some d)) (h : Thing S0 d) : Evl S0 e (mAnd2 (mL oIsi (aCons (mVar 3) (aCons (mC (.ty "str")) aNil))) (mBin oIn2 (mVar 3) (mTup (aCons (mC (.str "add")) (aCons (mC (.str "drop")) (aCons (mC (.str "set")) aNil)))))) (gv d "m") := fun S g => by
  rw [gv_of lf_m chk_m]
  refine ⟨S, ?_, Gr.refl _⟩
  have f1 := isi_str (h.gr g)
  have f2 := in_modes (h.gr g)
  have z3 : (3 ≤ sizeLine) = True := eq_true (by rw [sizeLine_eq]; omega)
  unfold c_MODES at f2
  cases hs : isStrB d with
  | true =>
    rw [hs] at f1
    simp only [mDef, sRet, sSeq, sIf, sExpr, sAsg, sNx, sBk, sCt, sPut, tgN, mBin, mUn, mMeth, mL, mM, mC, mVar, aNil, aCons, mTup, mLst, mIf, mSl, mChain, mAnd2, mOr2, mNot, tBl, tVal, tAnd2, tOr2, tNot2, startE, Rs.bind, Rs.bindS, lift, mCall, mCallC, mCall0, Rs.cold, List.length_cons, List.length_nil, List.map_cons, List.map_nil, List.replicate, List.append_eq, List.cons_append, List.nil_append, List.getElem?_cons_zero, List.getElem?_cons_succ, List.getElem?_nil, List.set_cons_zero, List.set_cons_succ, Nat.sub_self, Nat.reduceSub, Nat.reduceAdd, if_true, if_false, decide_true, decide_false, Option.map_some, Option.map_none, ite_true, ite_false, reduceIte, beq_self_eq_true, Bool.false_eq_true, Nat.zero_add, int_i, add_ii, sub_ii, lt_ii, gt_ii, ge_ii, le_ii, he, f1, f2, z3]
  | false =>
    rw [hs] at f1
    have : modeB d = false := by
      cases d with
      | str x => cases hs
      | _ => rfl
    rw [this]
    simp only [mDef, sRet, sSeq, sIf, sExpr, sAsg, sNx, sBk, sCt, sPut, tgN, mBin, mUn, mMeth, mL, mM, mC, mVar, aNil, aCons, mTup, mLst, mIf, mSl, mChain, mAnd2, mOr2, mNot, tBl, tVal, tAnd2, tOr2, tNot2, startE, Rs.bind, Rs.bindS, lift, mCall, mCallC, mCall0, Rs.cold, List.length_cons, List.length_nil, List.map_cons, List.map_nil, List.replicate, List.append_eq, List.cons_append, List.nil_append, List.getElem?_cons_zero, List.getElem?_cons_succ, List.getElem?_nil, List.set_cons_zero, List.set_cons_succ, Nat.sub_self, Nat.reduceSub, Nat.reduceAdd, if_true, if_false, decide_true, decide_false, Option.map_some, Option.map_none, ite_true, ite_false, reduceIte, beq_self_eq_true, Bool.false_eq_true, Nat.zero_add, int_i, add_ii, sub_ii, lt_ii, gt_ii, ge_ii, le_ii, he, f1]
theorem evl_a {e : Nv} (he : e[3]? = some (some d)) (hl : e.length = 7) (h : Thing S0 d) : Evl S0 e (mAnd2 (mL oIsi (aCons (mVar 3) (aCons (mC (.ty "tuple")) aNil))) (mBin oEq (mLcC (iAny (mVar 3)) (tgN 6) (tNot2 (tVal (mL oIsi (aCons (mVar 6) (aCons (mC (.ty "str")) aNil))))) (mVar 6) [6]) (mLst aNil))) (gv d "a") := fun S g => by
  rw [gv_of lf_a chk_a]
  rcases tup_or (h.gr g) with ⟨xs, rfl, h1, h2⟩ | ⟨hn, t, h1, h2, h3⟩
  · have f1 : oIsi [.tup xs, .ty "tuple"] S = some (.bl true, S) := rfl
    obtain ⟨S', c1, c2⟩ := comp_noneG (e := e) (S := S) (ds := xs) (i := 3) (j := 6) (tt := tNot2 (tVal (mL oIsi (aCons (mVar 6) (aCons (mC (.ty "str")) aNil))))) (fun d => !isStrB d) he (by omega) (by rw [sizeLine_eq]; omega) (fun d hd => (h2 d hd).pd) fun d hd S1 hg => by
      have f := isi_str (Atom.thing (S := S1) (h2 d hd))
      have e1 : ((wipeE e [6]).set 6 (some d))[6]? = some (some d) := List.getElem?_set_self (by simp [wipeE, hl])
      refine ⟨S1, ?_, Gr.refl _⟩
      simp only [mDef, sRet, sSeq, sIf, sExpr, sAsg, sNx, sBk, sCt, sPut, tgN, mBin, mUn, mMeth, mL, mM, mC, mVar, aNil, aCons, mTup, mLst, mIf, mSl, mChain, mAnd2, mOr2, mNot, tBl, tVal, tAnd2, tOr2, tNot2, startE, Rs.bind, Rs.bindS, lift, mCall, mCallC, mCall0, Rs.cold, List.length_cons, List.length_nil, List.map_cons, List.map_nil, List.replicate, List.append_eq, List.cons_append, List.nil_append, List.getElem?_cons_zero, List.getElem?_cons_succ, List.getElem?_nil, List.set_cons_zero, List.set_cons_succ, Nat.sub_self, Nat.reduceSub, Nat.reduceAdd, if_true, if_false, decide_true, decide_false, Option.map_some, Option.map_none, ite_true, ite_false, reduceIte, beq_self_eq_true, Bool.false_eq_true, Nat.zero_add, int_i, add_ii, sub_ii, lt_ii, gt_ii, ge_ii, le_ii, e1, f, truth]
    have e1 : (!xs.any fun d => !isStrB d) = textsT (.tup xs) := by
      show _ = xs.all isStrB
      rw [List.not_any_eq_all_not]; simp
    rw [e1] at c1
    refine ⟨S', ?_, c2⟩
    generalize mBin oEq (mLcC (iAny (mVar 3)) (tgN 6) (tNot2 (tVal (mL oIsi (aCons (mVar 6) (aCons (mC (.ty "str")) aNil))))) (mVar 6) [6]) (mLst aNil) = mm at c1 ⊢
    simp only [mDef, sRet, sSeq, sIf, sExpr, sAsg, sNx, sBk, sCt, sPut, tgN, mBin, mUn, mMeth, mL, mM, mC, mVar, aNil, aCons, mTup, mLst, mIf, mSl, mChain, mAnd2, mOr2, mNot, tBl, tVal, tAnd2, tOr2, tNot2, startE, Rs.bind, Rs.bindS, lift, mCall, mCallC, mCall0, Rs.cold, List.length_cons, List.length_nil, List.map_cons, List.map_nil, List.replicate, List.append_eq, List.cons_append, List.nil_append, List.getElem?_cons_zero, List.getElem?_cons_succ, List.getElem?_nil, List.set_cons_zero, List.set_cons_succ, Nat.sub_self, Nat.reduceSub, Nat.reduceAdd, if_true, if_false, decide_true, decide_false, Option.map_some, Option.map_none, ite_true, ite_false, reduceIte, beq_self_eq_true, Bool.false_eq_true, Nat.zero_add, int_i, add_ii, sub_ii, lt_ii, gt_ii, ge_ii, le_ii, he, f1, c1]
  · refine ⟨S, ?_, Gr.refl _⟩
    have f1 := isi_of h1 h3
    have : textsT d = false := tupT_not hn
    rw [this]
    generalize mBin oEq (mLcC (iAny (mVar 3)) (tgN 6) (tNot2 (tVal (mL oIsi (aCons (mVar 6) (aCons (mC (.ty "str")) aNil))))) (mVar 6) [6]) (mLst aNil) = mm
    simp only [mDef, sRet, sSeq, sIf, sExpr, sAsg, sNx, sBk, sCt, sPut, tgN, mBin, mUn, mMeth, mL, mM, mC, mVar, aNil, aCons, mTup, mLst, mIf, mSl, mChain, mAnd2, mOr2, mNot, tBl, tVal, tAnd2, tOr2, tNot2, startE, Rs.bind, Rs.bindS, lift, mCall, mCallC, mCall0, Rs.cold, List.length_cons, List.length_nil, List.map_cons, List.map_nil, List.replicate, List.append_eq, List.cons_append, List.nil_append, List.getElem?_cons_zero, List.getElem?_cons_succ, List.getElem?_nil, List.set_cons_zero, List.set_cons_succ, Nat.sub_self, Nat.reduceSub, Nat.reduceAdd, if_true, if_false, decide_true, decide_false, Option.map_some, Option.map_none, ite_true, ite_false, reduceIte, beq_self_eq_true, Bool.false_eq_true, Nat.zero_add, int_i, add_ii, sub_ii, lt_ii, gt_ii, ge_ii, le_ii, he, f1]
theorem evl_o {e : Nv} (he : e[3]? = some (some d)) (h : Thing S0 d) : Evl S0 e (mCall m__law_number (aCons (mVar 3) (aCons (mC (.int 1)) aNil))) (gv d "o") := fun S g => by
  rw [gv_of lf_o chk_o]
  obtain ⟨t, ht⟩ := (h.gr g).wf.ty
  have f1 := number_ty (least := 1) ht
  refine ⟨S, ?_, Gr.refl _⟩
  generalize m__law_number = mn at f1
  simp only [mDef, sRet, sSeq, sIf, sExpr, sAsg, sNx, sBk, sCt, sPut, tgN, mBin, mUn, mMeth, mL, mM, mC, mVar, aNil, aCons, mTup, mLst, mIf, mSl, mChain, mAnd2, mOr2, mNot, tBl, tVal, tAnd2, tOr2, tNot2, startE, Rs.bind, Rs.bindS, lift, mCall, mCallC, mCall0, Rs.cold, List.length_cons, List.length_nil, List.map_cons, List.map_nil, List.replicate, List.append_eq, List.cons_append, List.nil_append, List.getElem?_cons_zero, List.getElem?_cons_succ, List.getElem?_nil, List.set_cons_zero, List.set_cons_succ, Nat.sub_self, Nat.reduceSub, Nat.reduceAdd, if_true, if_false, decide_true, decide_false, Option.map_some, Option.map_none, ite_true, ite_false, reduceIte, beq_self_eq_true, Bool.false_eq_true, Nat.zero_add, int_i, add_ii, sub_ii, lt_ii, gt_ii, ge_ii, le_ii, he, f1]
end
end K29
end

section
set_option Elab.async false
set_option linter.all false
set_option maxRecDepth 100000
/-! P21: law k29, plainly: the law's own look at deeds. -/
namespace K29
open PySem PySem.Spec M2 P0
open L2 (Key)
set_option autoImplicit false
abbrev gl : List (Str × MV) := [("n", mCall m__law_name (aCons (mVar 3) aNil)), ("b", mCall m__law_box (aCons (mVar 3) aNil)), ("l", mCall m__law_letters (aCons (mVar 3) aNil)), ("f", mCall m__law_flags (aCons (mVar 3) aNil)), ("t", mL oIsi (aCons (mVar 3) (aCons (mC (.ty "str")) aNil))), ("u", mCall m__law_uids (aCons (mVar 3) aNil))]
abbrev gd : MV := mDict (gl.map fun p => (mC (.str p.1), p.2))
abbrev vm : MV := (mAnd2 (mL oIsi (aCons (mVar 3) (aCons (mC (.ty "str")) aNil))) (mBin oIn2 (mVar 3) (mTup (aCons (mC (.str "add")) (aCons (mC (.str "drop")) (aCons (mC (.str "set")) aNil))))))
abbrev va : MV := (mAnd2 (mL oIsi (aCons (mVar 3) (aCons (mC (.ty "tuple")) aNil))) (mBin oEq (mLcC (iAny (mVar 3)) (tgN 6) (tNot2 (tVal (mL oIsi (aCons (mVar 6) (aCons (mC (.ty "str")) aNil))))) (mVar 6) [6]) (mLst aNil)))
abbrev vo : MV := (mCall m__law_number (aCons (mVar 3) (aCons (mC (.int 1)) aNil)))
abbrev bodyG : MS := (sSeq (sAsg gd (tgN 5)) (sSeq (sPut vm (mVar 5) (mC (.str "m"))) (sSeq (sPut va (mVar 5) (mC (.str "a"))) (sSeq (sPut vo (mVar 5) (mC (.str "o"))) (sIf (tNot2 (tVal (mBin oIx (mVar 5) (mVar 4)))) (sRet (mC (.bl false))) sNx)))))
abbrev bodyL : MS := (sSeq (sAsg (mBin oIx (mVar 0) (mVar 2)) (tgN 3)) (sSeq (sAsg (mBin oIx (mBin oIx (mVar 1) (mBin oIx (mVar 0) (mC (.int 0)))) (mBin oSub (mVar 2) (mC (.int 1)))) (tgN 4)) bodyG))
def nine : List Str := ["n", "b", "l", "f", "t", "u", "m", "a", "o"]
theorem asgn {e : Nv} {S S1 : Sto} {ma : MV} {d : D} {i : Nat} (h : ma e S = .ok d S1) : sAsg ma (tgN i) e S = .nx (e.set i (some d)) S1 := by
  simp only [mDef, sRet, sSeq, sIf, sExpr, sAsg, sNx, sBk, sCt, sPut, tgN, mBin, mUn, mMeth, mL, mM, mC, mVar, aNil, aCons, mTup, mLst, mIf, mSl, mChain, mAnd2, mOr2, mNot, tBl, tVal, tAnd2, tOr2, tNot2, startE, Rs.bind, Rs.bindS, lift, mCall, mCallC, mCall0, Rs.cold, List.length_cons, List.length_nil, List.map_cons, List.map_nil, List.replicate, List.append_eq, List.cons_append, List.nil_append, List.getElem?_cons_zero, List.getElem?_cons_succ, List.getElem?_nil, List.set_cons_zero, List.set_cons_succ, Nat.sub_self, Nat.reduceSub, Nat.reduceAdd, if_true, if_false, decide_true, decide_false, Option.map_some, Option.map_none, ite_true, ite_false, reduceIte, beq_self_eq_true, Bool.false_eq_true, Nat.zero_add, int_i, add_ii, sub_ii, lt_ii, gt_ii, ge_ii, le_ii, h]
theorem bodyG_ok {e : Nv} {S : Sto} {d : D} {z : Str} (h : Thing S d) (he : e.length = 7) (h3 : e[3]? = some (some d)) (h4 : e[4]? = some (some (.str z))) (hz : z ∈ nine) :
    ∃ S', Gr S S' ∧ bodyG e S = if gv d z = true then .nx (e.set 5 (some (.loc S.length))) S' else .rt (.bl false) S' := by
  obtain ⟨S1, a1, a2, a3⟩ := dict_gr (e := e) (S := S) (gv d) gl (fun p hp => by
    simp only [gl, List.mem_cons, List.not_mem_nil, or_false] at hp
    rcases hp with rfl | rfl | rfl | rfl | rfl | rfl
    · exact evl_n h3 h
    · exact evl_b h3 h
    · exact evl_l h3 h
    · exact evl_f h3 h
    · exact evl_t h3 h
    · exact evl_u h3 h) (by decide +kernel) (by decide)
  generalize hE : e.set 5 (some (.loc S.length)) = E
  have k3 : E[3]? = some (some d) := by rw [← hE, List.getElem?_set_ne (by decide)]; exact h3
  have k4 : E[4]? = some (some (.str z)) := by rw [← hE, List.getElem?_set_ne (by decide)]; exact h4
  have k5 : E[5]? = some (some (.loc S.length)) := by rw [← hE]; exact List.getElem?_set_self (by omega)
  have kl : E.length = 7 := by rw [← hE, List.length_set]; exact he
  obtain ⟨S2, b1, b2, b3⟩ := put_gr (mv := vm) (k := "m") k5 (Nat.le_refl _) a2 a3 (by decide) (by decide +kernel) (evl_m k3 h)
  obtain ⟨S3, c1, c2, c3⟩ := put_gr (mv := va) (k := "a") k5 (Nat.le_refl _) b2 b3 (by decide) (by decide +kernel) (evl_a k3 kl h)
  obtain ⟨S4, d1, d2, d3⟩ := put_gr (mv := vo) (k := "o") k5 (Nat.le_refl _) c2 c3 (by decide) (by decide +kernel) (evl_o k3 h)
  have e9 : ((gl.map (·.1) ++ [("m" : Str)]) ++ [("a" : Str)]) ++ [("o" : Str)] = nine := rfl
  rw [e9] at d3
  have g1 : getD' (asG (gv d) nine) (.inr z) = some (.bl (gv d z)) := by
    unfold asG
    refine (get_map (fun s : Str => s) (fun s => D.bl (gv d s)) z nine).trans ?_
    have : nine.find? (fun p => decide (p = z)) = some z := by
      have key : ∀ l : List Str, z ∈ l → l.find? (fun p => decide (p = z)) = some z := by
        intro l
        induction l with
        | nil => intro h; cases h
        | cons a l ih =>
          intro h
          rw [List.find?_cons]
          by_cases q : a = z
          · rw [decide_eq_true q, q]
          · rw [decide_eq_false q]
            rcases List.mem_cons.mp h with r | r
            · exact absurd r.symm q
            · exact ih r
      exact key nine hz
    rw [this]; rfl
  have f1 : oIx (.loc S.length) (.str z) S4 = some (.bl (gv d z), S4) := by
    show (match S4[S.length]? with
      | some (.lst _ ds) => _
      | some (.dic kvs) => match keyD (.str z) with
        | some key => (getD' kvs key).map fun d => (d, S4)
        | none => none
      | none => none) = _
    rw [d3]
    show (getD' (asG (gv d) nine) (.inr z)).map (fun d => (d, S4)) = _
    rw [g1]; rfl
  refine ⟨S4, d2, ?_⟩
  refine (seq_nx (asgn a1)).trans ?_
  rw [hE]
  refine (seq_nx b1).trans ?_
  refine (seq_nx c1).trans ?_
  refine (seq_nx d1).trans ?_
  cases hk : gv d z with
  | true =>
    rw [hk] at f1
    simp only [mDef, sRet, sSeq, sIf, sExpr, sAsg, sNx, sBk, sCt, sPut, tgN, mBin, mUn, mMeth, mL, mM, mC, mVar, aNil, aCons, mTup, mLst, mIf, mSl, mChain, mAnd2, mOr2, mNot, tBl, tVal, tAnd2, tOr2, tNot2, startE, Rs.bind, Rs.bindS, lift, mCall, mCallC, mCall0, Rs.cold, List.length_cons, List.length_nil, List.map_cons, List.map_nil, List.replicate, List.append_eq, List.cons_append, List.nil_append, List.getElem?_cons_zero, List.getElem?_cons_succ, List.getElem?_nil, List.set_cons_zero, List.set_cons_succ, Nat.sub_self, Nat.reduceSub, Nat.reduceAdd, if_true, if_false, decide_true, decide_false, Option.map_some, Option.map_none, ite_true, ite_false, reduceIte, beq_self_eq_true, Bool.false_eq_true, Nat.zero_add, int_i, add_ii, sub_ii, lt_ii, gt_ii, ge_ii, le_ii, k5, k4, f1, truth, Bool.not_true]
  | false =>
    rw [hk] at f1
    simp only [mDef, sRet, sSeq, sIf, sExpr, sAsg, sNx, sBk, sCt, sPut, tgN, mBin, mUn, mMeth, mL, mM, mC, mVar, aNil, aCons, mTup, mLst, mIf, mSl, mChain, mAnd2, mOr2, mNot, tBl, tVal, tAnd2, tOr2, tNot2, startE, Rs.bind, Rs.bindS, lift, mCall, mCallC, mCall0, Rs.cold, List.length_cons, List.length_nil, List.map_cons, List.map_nil, List.replicate, List.append_eq, List.cons_append, List.nil_append, List.getElem?_cons_zero, List.getElem?_cons_succ, List.getElem?_nil, List.set_cons_zero, List.set_cons_succ, Nat.sub_self, Nat.reduceSub, Nat.reduceAdd, if_true, if_false, decide_true, decide_false, Option.map_some, Option.map_none, ite_true, ite_false, reduceIte, beq_self_eq_true, Bool.false_eq_true, Nat.zero_add, int_i, add_ii, sub_ii, lt_ii, gt_ii, ge_ii, le_ii, k5, k4, f1, truth, Bool.not_false]
theorem ix_dic {S : Sto} {n : Nat} {kvs : List (Key × D)} {z : Str} {d : D} (h : S[n]? = some (.dic kvs)) (g : getD' kvs (.inr z) = some d) : oIx (.loc n) (.str z) S = some (d, S) := by
  show (match S[n]? with
    | some (.lst _ ds) => _
    | some (.dic kvs) => match keyD (.str z) with
      | some key => (getD' kvs key).map fun d => (d, S)
      | none => none
    | none => none) = _
  rw [h]
  show (getD' kvs (.inr z)).map (fun d => (d, S)) = _
  rw [g]; rfl
theorem ix_sat {S : Sto} {x : Str} {i c : Nat} (hl : x.length ≤ 100) (h : x.cps.toList[i]? = some c) : oIx (.str x) (.int (i : Int)) S = some (.str (one c), S) := by
  have hk : i < x.cps.toList.length := (List.getElem?_eq_some_iff.mp h).1
  show (if x.length ≤ sizeLine then (L2.atI x.cps.toList (i : Int)).map fun c => (D.str ⟨#[c]⟩, S) else none) = _
  rw [if_pos (by rw [sizeLine_eq]; omega)]
  have q : L2.atI x.cps.toList (i : Int) = some c := by
    unfold L2.atI
    rw [ixN_nat hk]
    exact h
  rw [q]; rfl
theorem bodyL_ok {S : Sto} {nk i c : Nat} {kvs : List (Key × D)} {z y : Str} {rest : List D} {d : D} {x3 x4 x5 x6 : Option D} (hk : S[nk]? = some (.dic kvs)) (hg : getD' kvs (.inr z) = some (.str y)) (hy : y.length ≤ 100) (hc : y.cps.toList[i]? = some c) (hd : rest[i]? = some d) (h : Thing S d) (h9 : one c ∈ nine) :
    ∃ S' w3 w4 w5, Gr S S' ∧ bodyL [some (.tup (.str z :: rest)), some (.loc nk), some (.int (1 + (i : Int))), x3, x4, x5, x6] S = if gv d (one c) = true then .nx [some (.tup (.str z :: rest)), some (.loc nk), some (.int (1 + (i : Int))), w3, w4, w5, x6] S' else .rt (.bl false) S' := by
  have f1 : oIx (.tup (.str z :: rest)) (.int (1 + (i : Int))) S = some (d, S) := by
    have e : (1 + (i : Int)) = ((i + 1 : Nat) : Int) := by omega
    rw [e]
    exact ix_tup (k := i + 1) (by rw [List.getElem?_cons_succ]; exact hd)
  have f2 : oIx (.tup (.str z :: rest)) (.int 0) S = some (.str z, S) := ix_tup (k := 0) rfl
  have f3 := ix_dic hk hg
  have f4 := ix_sat (S := S) hy hc
  have e5 : (1 + (i : Int)) - 1 = (i : Int) := by omega
  have s1 : (mBin oIx (mVar 0) (mVar 2)) [some (.tup (.str z :: rest)), some (.loc nk), some (.int (1 + (i : Int))), x3, x4, x5, x6] S = .ok d S := by simp only [mDef, sRet, sSeq, sIf, sExpr, sAsg, sNx, sBk, sCt, sPut, tgN, mBin, mUn, mMeth, mL, mM, mC, mVar, aNil, aCons, mTup, mLst, mIf, mSl, mChain, mAnd2, mOr2, mNot, tBl, tVal, tAnd2, tOr2, tNot2, startE, Rs.bind, Rs.bindS, lift, mCall, mCallC, mCall0, Rs.cold, List.length_cons, List.length_nil, List.map_cons, List.map_nil, List.replicate, List.append_eq, List.cons_append, List.nil_append, List.getElem?_cons_zero, List.getElem?_cons_succ, List.getElem?_nil, List.set_cons_zero, List.set_cons_succ, Nat.sub_self, Nat.reduceSub, Nat.reduceAdd, if_true, if_false, decide_true, decide_false, Option.map_some, Option.map_none, ite_true, ite_false, reduceIte, beq_self_eq_true, Bool.false_eq_true, Nat.zero_add, int_i, add_ii, sub_ii, lt_ii, gt_ii, ge_ii, le_ii, f1]
  have s2 : (mBin oIx (mBin oIx (mVar 1) (mBin oIx (mVar 0) (mC (.int 0)))) (mBin oSub (mVar 2) (mC (.int 1)))) [some (.tup (.str z :: rest)), some (.loc nk), some (.int (1 + (i : Int))), some d, x4, x5, x6] S = .ok (.str (one c)) S := by simp only [mDef, sRet, sSeq, sIf, sExpr, sAsg, sNx, sBk, sCt, sPut, tgN, mBin, mUn, mMeth, mL, mM, mC, mVar, aNil, aCons, mTup, mLst, mIf, mSl, mChain, mAnd2, mOr2, mNot, tBl, tVal, tAnd2, tOr2, tNot2, startE, Rs.bind, Rs.bindS, lift, mCall, mCallC, mCall0, Rs.cold, List.length_cons, List.length_nil, List.map_cons, List.map_nil, List.replicate, List.append_eq, List.cons_append, List.nil_append, List.getElem?_cons_zero, List.getElem?_cons_succ, List.getElem?_nil, List.set_cons_zero, List.set_cons_succ, Nat.sub_self, Nat.reduceSub, Nat.reduceAdd, if_true, if_false, decide_true, decide_false, Option.map_some, Option.map_none, ite_true, ite_false, reduceIte, beq_self_eq_true, Bool.false_eq_true, Nat.zero_add, int_i, add_ii, sub_ii, lt_ii, gt_ii, ge_ii, le_ii, f2, f3, e5, f4]
  obtain ⟨S', g, r⟩ := bodyG_ok (e := [some (.tup (.str z :: rest)), some (.loc nk), some (.int (1 + (i : Int))), some d, some (.str (one c)), x5, x6]) (z := one c) h rfl rfl rfl h9
  refine ⟨S', some d, some (.str (one c)), some (.loc S.length), g, ?_⟩
  refine (seq_nx (asgn s1)).trans ?_
  refine (seq_nx (asgn s2)).trans ?_
  exact r
theorem rg2_of {ma : MA} {lo hi : Int} {e : Nv} {S S1 : Sto} (h : ma e S = .ok [.int lo, .int hi] S1) (b1 : -1000000000000 ≤ lo ∧ lo < 1000000000000 ∧ -1000000000000 ≤ hi ∧ hi < 1000000000000) : iRg2 ma e S = .ok (itR lo 1 (hi - lo).toNat) S1 := by
  simp only [iRg2, h, Rs.bind]
  rw [if_pos b1]
theorem for_of {mi : Nv → Sto → Rs ItM} {tg : Tg} {body : MS} {e : Nv} {S S1 : Sto} {it : ItM} (h : mi e S = .ok it S1) : sFor mi tg body e S = loopM it tg body it.cnt 0 e S1 := by
  unfold sFor
  rw [h]
  rfl
theorem pass_cons {c : Nat} {fs : List Str} {d : D} {ds : List D} : passB (List.zip (lf (one c) :: fs) (d :: ds)) = (gv d (one c) && passB (List.zip fs ds)) := rfl
def fsOf (y : Str) : List Str := y.cps.toList.map fun c => lf (one c)
theorem loopL_ok {S : Sto} {nk : Nat} {kvs : List (Key × D)} {z y : Str} {rest : List D} (hk : S[nk]? = some (.dic kvs)) (hg : getD' kvs (.inr z) = some (.str y)) (hy : y.length ≤ 100) (hl : rest.length = y.cps.toList.length) (hx : ∀ x ∈ rest, Thing S x) (h9 : ∀ c ∈ y.cps.toList, one c ∈ nine) :
    ∃ S', Gr S S' ∧ ((passB (List.zip (fsOf y) rest) = true ∧ ∃ e', sFor (iRg2 (aCons (mC (.int 1)) (aCons (mL oLen (aCons (mVar 0) aNil)) aNil))) (tgN 2) bodyL [some (.tup (.str z :: rest)), some (.loc nk), none, none, none, none, none] S = .nx e' S') ∨
      (passB (List.zip (fsOf y) rest) = false ∧ sFor (iRg2 (aCons (mC (.int 1)) (aCons (mL oLen (aCons (mVar 0) aNil)) aNil))) (tgN 2) bodyL [some (.tup (.str z :: rest)), some (.loc nk), none, none, none, none, none] S = .rt (.bl false) S')) := by
  have hyl : y.cps.toList.length = y.length := by simp [Str.length]
  have hI := rg2_of (lo := 1) (hi := ((rest.length + 1 : Nat) : Int)) (e := [some (.tup (.str z :: rest)), some (.loc nk), none, none, none, none, none]) (S := S) (S1 := S) (ma := aCons (mC (.int 1)) (aCons (mL oLen (aCons (mVar 0) aNil)) aNil)) (by
    simp only [mDef, sRet, sSeq, sIf, sExpr, sAsg, sNx, sBk, sCt, sPut, tgN, mBin, mUn, mMeth, mL, mM, mC, mVar, aNil, aCons, mTup, mLst, mIf, mSl, mChain, mAnd2, mOr2, mNot, tBl, tVal, tAnd2, tOr2, tNot2, startE, Rs.bind, Rs.bindS, lift, mCall, mCallC, mCall0, Rs.cold, List.length_cons, List.length_nil, List.map_cons, List.map_nil, List.replicate, List.append_eq, List.cons_append, List.nil_append, List.getElem?_cons_zero, List.getElem?_cons_succ, List.getElem?_nil, List.set_cons_zero, List.set_cons_succ, Nat.sub_self, Nat.reduceSub, Nat.reduceAdd, if_true, if_false, decide_true, decide_false, Option.map_some, Option.map_none, ite_true, ite_false, reduceIte, beq_self_eq_true, Bool.false_eq_true, Nat.zero_add, int_i, add_ii, sub_ii, lt_ii, gt_ii, ge_ii, le_ii, len_tup]) (by omega)
  have hn : ((((rest.length + 1 : Nat) : Int)) - 1).toNat = rest.length := by omega
  rw [hn] at hI
  rw [for_of hI]
  show ∃ S', Gr S S' ∧ ((_ ∧ ∃ e', loopM (itR 1 1 rest.length) (tgN 2) bodyL rest.length 0 _ S = _) ∨ (_ ∧ loopM (itR 1 1 rest.length) (tgN 2) bodyL rest.length 0 _ S = _))
  refine loop_r (Post := fun r => ∃ S', Gr S S' ∧ ((passB (List.zip (fsOf y) rest) = true ∧ ∃ e', r = .nx e' S') ∨ (passB (List.zip (fsOf y) rest) = false ∧ r = .rt (.bl false) S')))
    (fun i e S1 => (∃ x2 x3 x4 x5 x6, e = [some (.tup (.str z :: rest)), some (.loc nk), x2, x3, x4, x5, x6]) ∧ Gr S S1 ∧ passB (List.zip (fsOf y) rest) = passB (List.zip ((fsOf y).drop i) (rest.drop i))) (fun i e S1 hi ⟨⟨x2, x3, x4, x5, x6, he⟩, g, hp⟩ => ?_) (fun e S1 ⟨⟨x2, x3, x4, x5, x6, he⟩, g, hp⟩ => ?_) _ _ ⟨⟨_, _, _, _, _, rfl⟩, Gr.refl _, rfl⟩
  · subst he
    have hd : rest[i]? = some rest[i] := List.getElem?_eq_getElem hi
    have hi2 : i < y.cps.toList.length := by omega
    have hc : y.cps.toList[i]? = some y.cps.toList[i] := List.getElem?_eq_getElem hi2
    generalize hdv : rest[i] = d at hd
    generalize hcv : y.cps.toList[i] = c at hc
    have hdrop : rest.drop i = d :: rest.drop (i + 1) := by rw [List.drop_eq_getElem_cons hi, hdv]
    have hfl : (fsOf y).drop i = lf (one c) :: (fsOf y).drop (i + 1) := by
      unfold fsOf
      rw [← List.map_drop, ← List.map_drop, List.drop_eq_getElem_cons hi2, hcv]; rfl
    obtain ⟨S2, w3, w4, w5, g2, r⟩ := bodyL_ok (i := i) (c := c) (rest := rest) (d := d) (x3 := x3) (x4 := x4) (x5 := x5) (x6 := x6) (g.get hk) hg hy hc hd ((hx d (List.mem_of_getElem? hd)).gr g) (h9 c (List.mem_of_getElem? hc))
    rw [hdrop, hfl, pass_cons] at hp
    show match bodyL [some (.tup (.str z :: rest)), some (.loc nk), some (.int (1 + (i : Int))), x3, x4, x5, x6] S1 with
      | .nx e2 S2 => _
      | .ct e2 S2 => _
      | .bk e2 S2 => _
      | r => _
    rw [r]
    cases hk : gv d (one c) with
    | true =>
      rw [hk, Bool.true_and] at hp
      exact ⟨⟨_, _, _, _, _, rfl⟩, g.trans g2, hp⟩
    | false =>
      rw [hk, Bool.false_and] at hp
      exact ⟨S2, g.trans g2, .inr ⟨hp, rfl⟩⟩
  · subst he
    rw [List.drop_length] at hp
    have : passB (List.zip (fsOf y) rest) = true := by
      rw [hp, List.zip_nil_right]; rfl
    exact ⟨S1, g, .inl ⟨this, _, rfl⟩⟩
end K29
end

section
set_option Elab.async false
set_option linter.all false
set_option maxRecDepth 100000
/-! P22: law k29, plainly: the law's own look at deeds, whole. -/
namespace K29
open PySem PySem.Spec M2 P0
open L2 (Key)
set_option autoImplicit false
def kD : List (Str × Str) := kD1 ++ kD2
theorem kD_parts : kD.map (fun p => (p.1, fsOf p.2)) = partsF := by decide +kernel
theorem kD_ok : ∀ p ∈ kD, p.2.length ≤ 4 ∧ ∀ c ∈ p.2.cps.toList, one c ∈ nine := by
  have : (kD.all fun p => decide (p.2.length ≤ 4) && p.2.cps.toList.all fun c => decide (one c ∈ nine)) = true := by decide +kernel
  intro p hp
  have := List.all_eq_true.mp this p hp
  simp only [Bool.and_eq_true, decide_eq_true_eq, List.all_eq_true] at this
  exact this
def kindL (z : Str) : Option Str := (kD.find? fun p => decide (p.1 = z)).map (·.2)
theorem kindsOf_eq (z : Str) : kindsOf z = (kindL z).map fsOf := by
  unfold kindsOf kindL
  rw [← kD_parts, List.find?_map, Option.map_map, Option.map_map]
  rfl
theorem kindL_ok {z y : Str} (h : kindL z = some y) : y.length ≤ 4 ∧ ∀ c ∈ y.cps.toList, one c ∈ nine := by
  unfold kindL at h
  obtain ⟨p, hp, rfl⟩ := map_some h
  exact kD_ok p (List.mem_of_find?_eq_some hp)
theorem get_kind (z : Str) : getD' (asK kD) (.inr z) = (kindL z).map .str := by
  unfold asK kindL
  rw [Option.map_map]
  exact get_map (fun p : Str × Str => p.1) (fun p => .str p.2) z kD
abbrev tA : MT := (tOr2 (tNot2 (tVal (mL oIsi (aCons (mVar 0) (aCons (mC (.ty "tuple")) aNil))))) (tOr2 (tBl (mBin oEq (mL oLen (aCons (mVar 0) aNil)) (mC (.int 0)))) (tNot2 (tVal (mL oIsi (aCons (mBin oIx (mVar 0) (mC (.int 0))) (aCons (mC (.ty "str")) aNil)))))))
abbrev tB : MT := (tOr2 (tBl (mBin oNotIn2 (mBin oIx (mVar 0) (mC (.int 0))) (mVar 1))) (tBl (mBin oNe (mL oLen (aCons (mVar 0) aNil)) (mBin oAdd (mC (.int 1)) (mL oLen (aCons (mBin oIx (mVar 1) (mBin oIx (mVar 0) (mC (.int 0)))) aNil))))))
theorem tA_not {S : Sto} {d : D} {t : String} {e : Nv} (he : e[0]? = some (some d)) (h1 : tyD S d = some t) (h3 : L2.kitB t "tuple" = some false) : tA e S = .ok true S := by
  have f1 := isi_of h1 h3
  unfold tA
  simp only [mDef, sRet, sSeq, sIf, sExpr, sAsg, sNx, sBk, sCt, sPut, tgN, mBin, mUn, mMeth, mL, mM, mC, mVar, aNil, aCons, mTup, mLst, mIf, mSl, mChain, mAnd2, mOr2, mNot, tBl, tVal, tAnd2, tOr2, tNot2, startE, Rs.bind, Rs.bindS, lift, mCall, mCallC, mCall0, Rs.cold, List.length_cons, List.length_nil, List.map_cons, List.map_nil, List.replicate, List.append_eq, List.cons_append, List.nil_append, List.getElem?_cons_zero, List.getElem?_cons_succ, List.getElem?_nil, List.set_cons_zero, List.set_cons_succ, Nat.sub_self, Nat.reduceSub, Nat.reduceAdd, if_true, if_false, decide_true, decide_false, Option.map_some, Option.map_none, ite_true, ite_false, reduceIte, beq_self_eq_true, Bool.false_eq_true, Nat.zero_add, int_i, add_ii, sub_ii, lt_ii, gt_ii, ge_ii, le_ii, he, f1, truth, Bool.not_false]
theorem tA_tup {S : Sto} {xs : List D} {e : Nv} (he : e[0]? = some (some (.tup xs))) (h : ∀ x ∈ xs, Thing S x) : tA e S = .ok (noStr xs) S := by
  have f1 : oIsi [.tup xs, .ty "tuple"] S = some (.bl true, S) := rfl
  unfold tA
  cases xs with
  | nil =>
    have f3 : oEq (.int ((0 : Nat) : Int)) (.int 0) S = some (.bl true, S) := rfl
    simp only [mDef, sRet, sSeq, sIf, sExpr, sAsg, sNx, sBk, sCt, sPut, tgN, mBin, mUn, mMeth, mL, mM, mC, mVar, aNil, aCons, mTup, mLst, mIf, mSl, mChain, mAnd2, mOr2, mNot, tBl, tVal, tAnd2, tOr2, tNot2, startE, Rs.bind, Rs.bindS, lift, mCall, mCallC, mCall0, Rs.cold, List.length_cons, List.length_nil, List.map_cons, List.map_nil, List.replicate, List.append_eq, List.cons_append, List.nil_append, List.getElem?_cons_zero, List.getElem?_cons_succ, List.getElem?_nil, List.set_cons_zero, List.set_cons_succ, Nat.sub_self, Nat.reduceSub, Nat.reduceAdd, if_true, if_false, decide_true, decide_false, Option.map_some, Option.map_none, ite_true, ite_false, reduceIte, beq_self_eq_true, Bool.false_eq_true, Nat.zero_add, int_i, add_ii, sub_ii, lt_ii, gt_ii, ge_ii, le_ii, he, f1, len_tup, truth, Bool.not_true, f3]
    rfl
  | cons d ds =>
    have f3 : oEq (.int ((ds.length + 1 : Nat) : Int)) (.int 0) S = some (.bl false, S) := by rw [eq_ii, decide_eq_false (by omega)]
    have f4 : oIx (.tup (d :: ds)) (.int 0) S = some (d, S) := ix_tup (k := 0) rfl
    rcases (h d List.mem_cons_self).wf with ⟨x, rfl, _⟩ | ⟨⟨t, h1, h2⟩, _⟩
    · have f5 : oIsi [.str x, .ty "str"] S = some (.bl true, S) := rfl
      simp only [mDef, sRet, sSeq, sIf, sExpr, sAsg, sNx, sBk, sCt, sPut, tgN, mBin, mUn, mMeth, mL, mM, mC, mVar, aNil, aCons, mTup, mLst, mIf, mSl, mChain, mAnd2, mOr2, mNot, tBl, tVal, tAnd2, tOr2, tNot2, startE, Rs.bind, Rs.bindS, lift, mCall, mCallC, mCall0, Rs.cold, List.length_cons, List.length_nil, List.map_cons, List.map_nil, List.replicate, List.append_eq, List.cons_append, List.nil_append, List.getElem?_cons_zero, List.getElem?_cons_succ, List.getElem?_nil, List.set_cons_zero, List.set_cons_succ, Nat.sub_self, Nat.reduceSub, Nat.reduceAdd, if_true, if_false, decide_true, decide_false, Option.map_some, Option.map_none, ite_true, ite_false, reduceIte, beq_self_eq_true, Bool.false_eq_true, Nat.zero_add, int_i, add_ii, sub_ii, lt_ii, gt_ii, ge_ii, le_ii, he, f1, len_tup, f3, f4, f5, truth, Bool.not_true]
      rfl
    · have f5 := isi_of h1 (kit_str h2 ⟨S, d, h1⟩)
      have e : noStr (d :: ds) = true := by
        cases d with
        | str x => cases h1; exact absurd rfl h2
        | _ => rfl
      rw [e]
      simp only [mDef, sRet, sSeq, sIf, sExpr, sAsg, sNx, sBk, sCt, sPut, tgN, mBin, mUn, mMeth, mL, mM, mC, mVar, aNil, aCons, mTup, mLst, mIf, mSl, mChain, mAnd2, mOr2, mNot, tBl, tVal, tAnd2, tOr2, tNot2, startE, Rs.bind, Rs.bindS, lift, mCall, mCallC, mCall0, Rs.cold, List.length_cons, List.length_nil, List.map_cons, List.map_nil, List.replicate, List.append_eq, List.cons_append, List.nil_append, List.getElem?_cons_zero, List.getElem?_cons_succ, List.getElem?_nil, List.set_cons_zero, List.set_cons_succ, Nat.sub_self, Nat.reduceSub, Nat.reduceAdd, if_true, if_false, decide_true, decide_false, Option.map_some, Option.map_none, ite_true, ite_false, reduceIte, beq_self_eq_true, Bool.false_eq_true, Nat.zero_add, int_i, add_ii, sub_ii, lt_ii, gt_ii, ge_ii, le_ii, he, f1, len_tup, f3, f4, f5, truth, Bool.not_false, Bool.not_true]
theorem tB_eq {S : Sto} {z : Str} {rest : List D} {nk : Nat} {x2 x3 x4 x5 x6 : Option D} (hk : S[nk]? = some (.dic (asK kD))) :
    tB [some (.tup (.str z :: rest)), some (.loc nk), x2, x3, x4, x5, x6] S = .ok (match kindL z with | some y => !decide (rest.length = y.cps.toList.length) | none => true) S := by
  have f2 : oIx (.tup (.str z :: rest)) (.int 0) S = some (.str z, S) := ix_tup (k := 0) rfl
  have f3 : oNotIn2 (.str z) (.loc nk) S = some (.bl !(kindL z).isSome, S) := by
    show (match S[nk]? with
      | some (.dic kvs) => (keyD (.str z)).map fun k => (getD' kvs k).isSome
      | _ => _ : Option Bool).map (fun k => (D.bl !k, S)) = _
    rw [hk]
    show some (D.bl !(getD' (asK kD) (.inr z)).isSome, S) = _
    rw [get_kind, Option.isSome_map]
  unfold tB
  cases hz : kindL z with
  | none =>
    rw [hz] at f3
    simp only [mDef, sRet, sSeq, sIf, sExpr, sAsg, sNx, sBk, sCt, sPut, tgN, mBin, mUn, mMeth, mL, mM, mC, mVar, aNil, aCons, mTup, mLst, mIf, mSl, mChain, mAnd2, mOr2, mNot, tBl, tVal, tAnd2, tOr2, tNot2, startE, Rs.bind, Rs.bindS, lift, mCall, mCallC, mCall0, Rs.cold, List.length_cons, List.length_nil, List.map_cons, List.map_nil, List.replicate, List.append_eq, List.cons_append, List.nil_append, List.getElem?_cons_zero, List.getElem?_cons_succ, List.getElem?_nil, List.set_cons_zero, List.set_cons_succ, Nat.sub_self, Nat.reduceSub, Nat.reduceAdd, if_true, if_false, decide_true, decide_false, Option.map_some, Option.map_none, ite_true, ite_false, reduceIte, beq_self_eq_true, Bool.false_eq_true, Nat.zero_add, int_i, add_ii, sub_ii, lt_ii, gt_ii, ge_ii, le_ii, f2, f3, Option.isSome_none, Bool.not_false]
  | some y =>
    rw [hz] at f3
    have hg : getD' (asK kD) (.inr z) = some (.str y) := by rw [get_kind, hz]; rfl
    have f4 := ix_dic hk hg
    have hy := (kindL_ok hz).1
    have f5 : oLen [.str y] S = some (.int y.length, S) := len_s (by rw [sizeLine_eq]; omega)
    have e1 : (!decide (((rest.length + 1 : Nat) : Int) = 1 + (y.length : Int))) = !decide (rest.length = y.cps.toList.length) := by
      have hyl : y.cps.toList.length = y.length := by simp [Str.length]
      congr 1
      rw [Bool.eq_iff_iff, decide_eq_true_eq, decide_eq_true_eq]
      omega
    simp only [mDef, sRet, sSeq, sIf, sExpr, sAsg, sNx, sBk, sCt, sPut, tgN, mBin, mUn, mMeth, mL, mM, mC, mVar, aNil, aCons, mTup, mLst, mIf, mSl, mChain, mAnd2, mOr2, mNot, tBl, tVal, tAnd2, tOr2, tNot2, startE, Rs.bind, Rs.bindS, lift, mCall, mCallC, mCall0, Rs.cold, List.length_cons, List.length_nil, List.map_cons, List.map_nil, List.replicate, List.append_eq, List.cons_append, List.nil_append, List.getElem?_cons_zero, List.getElem?_cons_succ, List.getElem?_nil, List.set_cons_zero, List.set_cons_succ, Nat.sub_self, Nat.reduceSub, Nat.reduceAdd, if_true, if_false, decide_true, decide_false, Option.map_some, Option.map_none, ite_true, ite_false, reduceIte, beq_self_eq_true, Bool.false_eq_true, Nat.zero_add, int_i, add_ii, sub_ii, lt_ii, gt_ii, ge_ii, le_ii, f2, f3, Option.isSome_some, Bool.not_true, f4, f5, len_tup, ne_ii]
    rw [← e1]
abbrev restL : MS := (sSeq (sIf tB (sRet (mC (.bl false))) sNx) (sSeq (sFor (iRg2 (aCons (mC (.int 1)) (aCons (mL oLen (aCons (mVar 0) aNil)) aNil))) (tgN 2) bodyL) (sRet (mC (.bl true)))))
theorem dict_run {S : Sto} {d : D} {rest : MS} : (sSeq (sAsg (mDict (kD1.map fun p => (mC (.str p.1), mC (.str p.2)))) (tgN 1)) (sSeq (sPut (mC (.str "bu")) (mVar 1) (mC (.str "take"))) (sSeq (sPut (mC (.str "b")) (mVar 1) (mC (.str "leave"))) (sSeq (sPut (mC (.str "t")) (mVar 1) (mC (.str "filter"))) (sSeq (sPut (mC (.str "at")) (mVar 1) (mC (.str "send"))) (sSeq (sPut (mC (.str "oo")) (mVar 1) (mC (.str "back"))) rest)))))) [some d, none, none, none, none, none, none] S =
    rest [some d, some (.loc S.length), none, none, none, none, none] (S ++ [.dic (asK kD)]) := by
  refine (seq_nx (asgn dict_kinds)).trans ?_
  have e5 : ([some d, none, none, none, none, none, none].set 1 (some (D.loc S.length)) : Nv) = [some d, some (.loc S.length), none, none, none, none, none] := rfl
  rw [e5]
  refine (seq_nx (put_kind (l := kD1) rfl (by decide) (by decide +kernel))).trans ?_
  refine (seq_nx (put_kind (l := kD1 ++ [(("take" : Str), ("bu" : Str))]) rfl (by decide) (by decide +kernel))).trans ?_
  refine (seq_nx (put_kind (l := (kD1 ++ [(("take" : Str), ("bu" : Str))]) ++ [(("leave" : Str), ("b" : Str))]) rfl (by decide) (by decide +kernel))).trans ?_
  refine (seq_nx (put_kind (l := ((kD1 ++ [(("take" : Str), ("bu" : Str))]) ++ [(("leave" : Str), ("b" : Str))]) ++ [(("filter" : Str), ("t" : Str))]) rfl (by decide) (by decide +kernel))).trans ?_
  refine (seq_nx (put_kind (l := (((kD1 ++ [(("take" : Str), ("bu" : Str))]) ++ [(("leave" : Str), ("b" : Str))]) ++ [(("filter" : Str), ("t" : Str))]) ++ [(("send" : Str), ("at" : Str))]) rfl (by decide) (by decide +kernel))).trans ?_
  rfl
theorem def7_rt {a d : D} {S S1 : Sto} {body : MS} (h : body [some a, none, none, none, none, none, none] S = .rt d S1) : mDef 7 1 body [a] S = .ok d S1 := by
  simp only [mDef, sRet, sSeq, sIf, sExpr, sAsg, sNx, sBk, sCt, sPut, tgN, mBin, mUn, mMeth, mL, mM, mC, mVar, aNil, aCons, mTup, mLst, mIf, mSl, mChain, mAnd2, mOr2, mNot, tBl, tVal, tAnd2, tOr2, tNot2, startE, Rs.bind, Rs.bindS, lift, mCall, mCallC, mCall0, Rs.cold, List.length_cons, List.length_nil, List.map_cons, List.map_nil, List.replicate, List.append_eq, List.cons_append, List.nil_append, List.getElem?_cons_zero, List.getElem?_cons_succ, List.getElem?_nil, List.set_cons_zero, List.set_cons_succ, Nat.sub_self, Nat.reduceSub, Nat.reduceAdd, if_true, if_false, decide_true, decide_false, Option.map_some, Option.map_none, ite_true, ite_false, reduceIte, beq_self_eq_true, Bool.false_eq_true, Nat.zero_add, int_i, add_ii, sub_ii, lt_ii, gt_ii, ge_ii, le_ii, h]
theorem seq_rt {a b : MS} {e : Nv} {S S1 : Sto} {d : D} (h : a e S = .rt d S1) : sSeq a b e S = .rt d S1 := by
  unfold sSeq
  rw [h]
theorem deedL_tup {S : Sto} {xs : List D} (h : ∀ x ∈ xs, Thing S x) : ∃ S', m__law_deed [.tup xs] S = .ok (.bl (deedB xs)) S' ∧ Gr S S' := by
  have run : ∀ {k : Bool} {S' : Sto}, b__law_deed [some (.tup xs), none, none, none, none, none, none] S = .rt (.bl k) S' → m__law_deed [.tup xs] S = .ok (.bl k) S' := fun e => def7_rt e
  cases hn : noStr xs with
  | true =>
    refine ⟨S, run ?_, Gr.refl _⟩
    refine (stepA (tA_tup rfl h)).trans ?_
    rw [hn, if_pos rfl]
    congr 2
    cases xs with
    | nil => rfl
    | cons d ds =>
      cases d with
      | str z => cases hn
      | _ => rfl
  | false =>
    obtain ⟨z, rest, rfl⟩ : ∃ z rest, xs = D.str z :: rest := by
      cases xs with
      | nil => cases hn
      | cons d ds =>
        cases d with
        | str z => exact ⟨z, ds, rfl⟩
        | _ => cases hn
    have hd : deedB (.str z :: rest) = (match kindL z with | some y => decide (rest.length = y.cps.toList.length) && passB (List.zip (fsOf y) rest) | none => false) := by
      show (match kindsOf z with | some fs => decide (rest.length = fs.length) && passB (List.zip fs rest) | none => false) = _
      rw [kindsOf_eq]
      cases kindL z with
      | none => rfl
      | some y =>
        show (decide (rest.length = (fsOf y).length) && _) = _
        unfold fsOf
        rw [List.length_map]
    have hk : (S ++ [SO.dic (asK kD)])[S.length]? = some (.dic (asK kD)) := by simp
    have head : ∀ {r : SRes}, restL [some (.tup (.str z :: rest)), some (.loc S.length), none, none, none, none, none] (S ++ [.dic (asK kD)]) = r → b__law_deed [some (.tup (.str z :: rest)), none, none, none, none, none, none] S = r := fun e => by
      refine (stepA (tA_tup rfl h)).trans ?_
      rw [hn, if_neg Bool.false_ne_true]
      exact dict_run.trans e
    have htB := tB_eq (z := z) (rest := rest) (x2 := none) (x3 := none) (x4 := none) (x5 := none) (x6 := none) hk
    cases hz : kindL z with
    | none =>
      rw [hz] at htB hd
      refine ⟨S ++ [.dic (asK kD)], run (head ?_), Gr.one _ _⟩
      rw [hd]
      exact (stepA htB).trans (if_pos rfl)
    | some y =>
      rw [hz] at htB hd
      obtain ⟨y1, y2⟩ := kindL_ok hz
      have hd : deedB (.str z :: rest) = (decide (rest.length = y.cps.toList.length) && passB (List.zip (fsOf y) rest)) := hd
      have htB : tB _ _ = .ok (!decide (rest.length = y.cps.toList.length)) _ := htB
      by_cases hl : rest.length = y.cps.toList.length
      · rw [decide_eq_true hl] at hd htB
        rw [Bool.true_and] at hd
        have hg : getD' (asK kD) (.inr z) = some (.str y) := by rw [get_kind, hz]; rfl
        obtain ⟨S', g, r⟩ := loopL_ok (S := S ++ [.dic (asK kD)]) (nk := S.length) (z := z) (rest := rest) hk hg (by omega) hl (fun x hx => (h x (List.mem_cons_of_mem _ hx)).gr (Gr.one _ _)) y2
        refine ⟨S', run (head ?_), (Gr.one _ _).trans g⟩
        refine (stepA htB).trans ?_
        rw [Bool.not_true, if_neg Bool.false_ne_true, hd]
        rcases r with ⟨hp, e', r⟩ | ⟨hp, r⟩
        · rw [hp]
          exact (seq_nx r).trans rfl
        · rw [hp]
          exact seq_rt r
      · rw [decide_eq_false hl] at hd htB
        rw [Bool.false_and] at hd
        refine ⟨S ++ [.dic (asK kD)], run (head ?_), Gr.one _ _⟩
        rw [hd]
        exact (stepA htB).trans (if_pos rfl)
theorem deedL_thing {S : Sto} {d : D} (h : Thing S d ∨ ∃ xs, d = .tup xs ∧ ∀ x ∈ xs, Thing S x) : ∃ S', m__law_deed [d] S = .ok (.bl (tupT deedB d)) S' ∧ Gr S S' := by
  have key : ∀ xs : List D, (∀ x ∈ xs, Thing S x) → ∃ S', m__law_deed [.tup xs] S = .ok (.bl (tupT deedB (.tup xs))) S' ∧ Gr S S' := fun xs hx => deedL_tup hx
  rcases h with h | ⟨xs, rfl, hx⟩
  · rcases tup_or h with ⟨xs, rfl, _, hx⟩ | ⟨hn, t, h1, h2, h3⟩
    · exact key xs fun x hm => (hx x hm).thing
    · refine ⟨S, ?_, Gr.refl _⟩
      rw [tupT_not hn]
      exact def7_rt ((stepA (tA_not rfl h1 h3)).trans (if_pos rfl))
  · exact key xs hx
end K29
end

section
set_option Elab.async false
set_option linter.all false
set_option maxRecDepth 100000
/-! P23: law k29, plainly: the law's turn, its pieces. -/
namespace K29
open PySem PySem.Spec M2 P0
open L2 (Key)
set_option autoImplicit false
theorem Thing.ext {S S' : Sto} {b k dl : Nat} {ds : List Int} {d : D} (B : BoxD S b k dl ds) (h : Thing S d) (g : Ext b S S') : Thing S' d := by
  rcases h with h | h | ⟨n, xs, e, h1, h2, h3⟩
  · exact .inl h
  · exact .inr (.inl h)
  · refine .inr (.inr ⟨n, xs, e, g.get h1 fun q => ?_, h2, h3⟩)
    subst q
    rw [B.at_] at h1
    cases h1
    rcases h3 (.loc dl) List.mem_cons_self with ⟨x, e, _⟩ | e | ⟨c, e⟩ | ⟨i, e, _⟩ <;> cases e
/-! ### lists of answers -/
def aL : List MV → MA
  | [] => aNil
  | m :: r => aCons m (aL r)
theorem aL_gr {e : Nv} {S0 : Sto} : ∀ (l : List (MV × Bool)), (∀ p ∈ l, Evl S0 e p.1 p.2) → ∀ S, Gr S0 S → ∃ S', aL (l.map (·.1)) e S = .ok (l.map fun p => D.bl p.2) S' ∧ Gr S S'
  | [], _, S, _ => ⟨S, rfl, Gr.refl _⟩
  | p :: l, h, S, g => by
    obtain ⟨S1, a1, a2⟩ := h p List.mem_cons_self S g
    obtain ⟨S2, b1, b2⟩ := aL_gr l (fun q hq => h q (List.mem_cons_of_mem _ hq)) S1 (g.trans a2)
    refine ⟨S2, ?_, a2.trans b2⟩
    show (p.1 e S).bind (fun v S1 => (aL (l.map (·.1)) e S1).bind fun vs S2 => .ok (v :: vs) S2) = _
    rw [a1]
    show (aL (l.map (·.1)) e S1).bind (fun vs S2 => .ok (D.bl p.2 :: vs) S2) = _
    rw [b1]
    rfl
theorem lst_gr {e : Nv} {S : Sto} (l : List (MV × Bool)) (hl : l.length ≤ 1000) (h : ∀ p ∈ l, Evl S e p.1 p.2) : ∃ n S', mLst (aL (l.map (·.1))) e S = .ok (.loc n) S' ∧ Gr S S' ∧ S'[n]? = some (.lst true (l.map fun p => D.bl p.2)) := by
  obtain ⟨S1, a1, a2⟩ := aL_gr l h S (Gr.refl _)
  refine ⟨S1.length, S1 ++ [.lst true (l.map fun p => D.bl p.2)], ?_, a2.trans (Gr.one _ _), by simp⟩
  have z : ((l.map fun p => D.bl p.2).length ≤ sizeLine) = True := eq_true (by rw [List.length_map, sizeLine_eq]; omega)
  unfold mLst
  rw [a1]
  simp only [Rs.bind, z, if_true]
/-- what all the tests tell of a thing -/
def tells (d : D) : List Bool := [wordB 12 d, strT nameB d, wordB 8 d, wordB 12 d, tupT flagsB d, tupT uidsB d, tupT deedB d]
abbrev dueL (d : D) : List (MV × Bool) := [(mCall m__law_small (aCons (mVar 3) (aCons (mC (.int 12)) aNil)), wordB 12 d), (mCall m__law_name (aCons (mVar 3) aNil), strT nameB d), (mCall m__law_small (aCons (mVar 3) (aCons (mC (.int 8)) aNil)), wordB 8 d), (mCall m__law_small (aCons (mVar 3) (aCons (mC (.int 12)) aNil)), wordB 12 d), (mCall m__law_flags (aCons (mVar 3) aNil), tupT flagsB d), (mCall m__law_uids (aCons (mVar 3) aNil), tupT uidsB d), (mCall m__law_deed (aCons (mVar 3) aNil), tupT deedB d)]
abbrev toldL (d : D) : List (MV × Bool) := [(mCall m_is_house (aCons (mVar 3) aNil), wordB 12 d), (mCall m_is_name (aCons (mVar 3) aNil), strT nameB d), (mCall m_is_device (aCons (mVar 3) aNil), wordB 8 d), (mCall m_is_flag (aCons (mVar 3) aNil), wordB 12 d), (mCall m_are_flags (aCons (mVar 3) aNil), tupT flagsB d), (mCall m_are_uids (aCons (mVar 3) aNil), tupT uidsB d), (mCall m_is_deed (aCons (mVar 3) aNil), tupT deedB d)]
theorem evl_small {S0 : Sto} {e : Nv} {d : D} {most : Int} (he : e[3]? = some (some d)) (h : Thing S0 d) : Evl S0 e (mCall m__law_small (aCons (mVar 3) (aCons (mC (.int most)) aNil))) (wordB most d) := fun S g => by
  obtain ⟨S', h1, h2⟩ := lsmall_wf (most := most) (h.gr g).wf
  refine ⟨S', ?_, h2⟩
  generalize m__law_small = ms at h1 ⊢
  simp only [mDef, sRet, sSeq, sIf, sExpr, sAsg, sNx, sBk, sCt, sPut, tgN, mBin, mUn, mMeth, mL, mM, mC, mVar, aNil, aCons, mTup, mLst, mIf, mSl, mChain, mAnd2, mOr2, mNot, tBl, tVal, tAnd2, tOr2, tNot2, startE, Rs.bind, Rs.bindS, lift, mCall, mCallC, mCall0, Rs.cold, List.length_cons, List.length_nil, List.map_cons, List.map_nil, List.replicate, List.append_eq, List.cons_append, List.nil_append, List.getElem?_cons_zero, List.getElem?_cons_succ, List.getElem?_nil, List.set_cons_zero, List.set_cons_succ, Nat.sub_self, Nat.reduceSub, Nat.reduceAdd, if_true, if_false, decide_true, decide_false, Option.map_some, Option.map_none, ite_true, ite_false, reduceIte, beq_self_eq_true, Bool.false_eq_true, Nat.zero_add, int_i, add_ii, sub_ii, lt_ii, gt_ii, ge_ii, le_ii, he, h1]
theorem due_all {S : Sto} {e : Nv} {d : D} (he : e[3]? = some (some d)) (h : Thing S d) : ∀ p ∈ dueL d, Evl S e p.1 p.2 := by
  intro p hp
  simp only [dueL, List.mem_cons, List.not_mem_nil, or_false] at hp
  rcases hp with rfl | rfl | rfl | rfl | rfl | rfl | rfl
  · exact evl_small he h
  · exact evl_call he fun S g => lname_thing (h.gr g)
  · exact evl_small he h
  · exact evl_small he h
  · exact evl_call he fun S g => lflags_thing (h.gr g)
  · exact evl_call he fun S g => luids_thing (h.gr g)
  · exact evl_call he fun S g => deedL_thing (.inl (h.gr g))
theorem told_all {S : Sto} {e : Nv} {d : D} (he : e[3]? = some (some d)) (h : Thing S d) : ∀ p ∈ toldL d, Evl S e p.1 p.2 := by
  intro p hp
  simp only [toldL, List.mem_cons, List.not_mem_nil, or_false] at hp
  rcases hp with rfl | rfl | rfl | rfl | rfl | rfl | rfl
  · exact evl_call he fun S g => ⟨S, house_wf (h.gr g).wf, Gr.refl _⟩
  · exact evl_call he fun S g => ⟨S, name_thing (h.gr g), Gr.refl _⟩
  · exact evl_call he fun S g => ⟨S, device_wf (h.gr g).wf, Gr.refl _⟩
  · exact evl_call he fun S g => ⟨S, flag_wf (h.gr g).wf, Gr.refl _⟩
  · exact evl_call he fun S g => flags_thing (h.gr g)
  · exact evl_call he fun S g => uids_thing (h.gr g)
  · exact evl_call he fun S g => isdeed_thing (.inl (h.gr g))
/-- a test that two things are alike, which they are -/
theorem same_step {e : Nv} {S S1 S2 : Sto} {f : MF} {a b : MV} {x y : D} (h1 : a e S = .ok x S1) (h2 : b e S1 = .ok y S2) (h3 : f [x, y] S2 = .ok (.bl true) S2) : (sIf (tNot2 (tVal (mCall f (aCons a (aCons b aNil))))) (sRet (mC (.bl false))) sNx) e S = .nx e S2 := by
  simp only [mDef, sRet, sSeq, sIf, sExpr, sAsg, sNx, sBk, sCt, sPut, tgN, mBin, mUn, mMeth, mL, mM, mC, mVar, aNil, aCons, mTup, mLst, mIf, mSl, mChain, mAnd2, mOr2, mNot, tBl, tVal, tAnd2, tOr2, tNot2, startE, Rs.bind, Rs.bindS, lift, mCall, mCallC, mCall0, Rs.cold, List.length_cons, List.length_nil, List.map_cons, List.map_nil, List.replicate, List.append_eq, List.cons_append, List.nil_append, List.getElem?_cons_zero, List.getElem?_cons_succ, List.getElem?_nil, List.set_cons_zero, List.set_cons_succ, Nat.sub_self, Nat.reduceSub, Nat.reduceAdd, if_true, if_false, decide_true, decide_false, Option.map_some, Option.map_none, ite_true, ite_false, reduceIte, beq_self_eq_true, Bool.false_eq_true, Nat.zero_add, int_i, add_ii, sub_ii, lt_ii, gt_ii, ge_ii, le_ii, h1, h2, h3, truth, Bool.not_true]
theorem tup_step {e : Nv} {S : Sto} {i n : Nat} {w : Bool} {ds : List D} (he : e[i]? = some (some (.loc n))) (h : S[n]? = some (.lst w ds)) : mL oTuple (aCons (mVar i) aNil) e S = .ok (.tup ds) S := by
  have f := tuple_lst h
  simp only [mDef, sRet, sSeq, sIf, sExpr, sAsg, sNx, sBk, sCt, sPut, tgN, mBin, mUn, mMeth, mL, mM, mC, mVar, aNil, aCons, mTup, mLst, mIf, mSl, mChain, mAnd2, mOr2, mNot, tBl, tVal, tAnd2, tOr2, tNot2, startE, Rs.bind, Rs.bindS, lift, mCall, mCallC, mCall0, Rs.cold, List.length_cons, List.length_nil, List.map_cons, List.map_nil, List.replicate, List.append_eq, List.cons_append, List.nil_append, List.getElem?_cons_zero, List.getElem?_cons_succ, List.getElem?_nil, List.set_cons_zero, List.set_cons_succ, Nat.sub_self, Nat.reduceSub, Nat.reduceAdd, if_true, if_false, decide_true, decide_false, Option.map_some, Option.map_none, ite_true, ite_false, reduceIte, beq_self_eq_true, Bool.false_eq_true, Nat.zero_add, int_i, add_ii, sub_ii, lt_ii, gt_ii, ge_ii, le_ii, he, f]
theorem same_bls {S : Sto} {n : Nat} {bs : List Bool} (h : bs.length < 1000) : m__law_same (n + 2) [.tup (bs.map .bl), .tup (bs.map .bl)] S = .ok (.bl true) S := by
  refine same_tup (by rw [List.length_map]; exact h) fun d hd => ?_
  obtain ⟨b, _, rfl⟩ := List.mem_map.mp hd
  exact same_bl
/-! ### letters that are drawn -/
theorem sub_filter {α : Type} [DecidableEq α] {l m : List α} (h : l.Sublist m) (nd : m.Nodup) : m.filter (fun x => decide (x ∈ l)) = l := by
  induction h with
  | slnil => rfl
  | cons a h ih =>
    rename_i l1 l2
    have hn := List.nodup_cons.mp nd
    rw [List.filter_cons_of_neg (by simp only [decide_eq_true_eq]; exact fun q => hn.1 (h.subset q))]
    exact ih hn.2
  | cons_cons a h ih =>
    rename_i l1 l2
    have hn := List.nodup_cons.mp nd
    rw [List.filter_cons_of_pos (by simp)]
    congr 1
    refine (List.filter_congr fun x hx => ?_).trans (ih hn.2)
    have : x ≠ a := fun q => hn.1 (q ▸ hx)
    simp [this]
theorem ord_sub {cs : List Nat} (h : cs.Sublist rights.cps.toList) : Txt.join "" (cs.map one) = ordV (Txt.join "" (cs.map one)) := by
  have nd : (rights.cps.toList).Nodup := by decide +kernel
  unfold ordV
  rw [join_cs, sub_filter h nd]
end K29
end

section
set_option Elab.async false
set_option linter.all false
set_option maxRecDepth 100000
/-! P24: law k29, plainly: letters drawn. -/
namespace K29
open PySem PySem.Spec M2 P0
open L2 (Key)
set_option autoImplicit false
theorem lc_drawF {it : ItM} {cnt : Nat} {tg : Tg} {tt : MT} {me : MV} {e : Nv} {xs : List D} {S : Sto} {b k dl : Nat} {ds : List Int} (B : BoxD S b k dl ds) (hk : k < 2 ^ 190) (hit : ∀ i S, it.at_ i S = some xs[i]?) (hc : cnt = xs.length) (hz : xs.length ≤ 1000)
    (hs : ∀ x ∈ xs, ∀ (S1 : Sto) (k1 : Nat), BoxD S1 b k1 dl ds → k1 < 2 ^ 191 → ∃ e1 t S2 k2, tg x e = some e1 ∧ tt e1 S1 = .ok t S2 ∧ Stp b dl ds 1 S1 k1 S2 k2 ∧ me e1 S2 = .ok x S2) :
    ∃ ys S' k', loopC it tg tt me S.length e cnt 0 (S ++ [.lst true []]) = .ok (.loc S.length) S' ∧ S'[S.length]? = some (.lst true ys) ∧ ys.Sublist xs ∧ Stp b dl ds xs.length S k S' k' := by
  have hbl := B.lt
  have hdl := (List.getElem?_eq_some_iff.mp B.dig).1
  have key : ∀ (m i : Nat) (S1 : Sto) (k1 : Nat) (acc : List D), i + m = cnt → acc.Sublist (xs.take i) → S1[S.length]? = some (.lst true acc) → Stp b dl ds i S k S1 k1 →
      ∃ ys S' k', loopC it tg tt me S.length e m i S1 = .ok (.loc S.length) S' ∧ S'[S.length]? = some (.lst true ys) ∧ ys.Sublist xs ∧ Stp b dl ds xs.length S k S' k' := by
    intro m
    induction m with
    | zero =>
      intro i S1 k1 acc hi ha hS hst
      have e1 : i = xs.length := by omega
      have e2 : xs[i]? = none := List.getElem?_eq_none_iff.mpr (by omega)
      rw [loopC]
      simp only [hit, e2]
      refine ⟨acc, S1, k1, rfl, hS, ?_, e1 ▸ hst⟩
      rw [e1, List.take_length] at ha
      exact ha
    | succ m ih =>
      intro i S1 k1 acc hi ha hS hst
      have hlt : i < xs.length := by omega
      have e1 : xs[i]? = some xs[i] := List.getElem?_eq_getElem hlt
      have hk1 : k1 < 2 ^ 191 := by have := hst.le; omega
      obtain ⟨e2, t, S2, k2, h1, h2, h3, h4⟩ := hs xs[i] (List.getElem_mem hlt) S1 k1 hst.box hk1
      have tk : xs.take (i + 1) = xs.take i ++ [xs[i]] := by rw [List.take_add_one, e1]; rfl
      have hlen : S.length < S1.length := (List.getElem?_eq_some_iff.mp hS).1
      have hS2 : S2[S.length]? = some (.lst true acc) := (h3.ext.2 _ hlen (by omega)).trans hS
      have st2 := hst.trans h3
      rw [loopC]
      simp only [hit, e1, h1, h2, Rs.bind]
      cases t with
      | false =>
        simp only [Bool.false_eq_true, if_false]
        refine ih (i + 1) S2 k2 acc (by omega) ?_ hS2 st2
        rw [tk]
        exact ha.trans (List.sublist_append_left _ _)
      | true =>
        have hl : acc.length < sizeLine := by
          have := ha.length_le
          rw [List.length_take] at this
          rw [sizeLine_eq]; omega
        have hl2 : S.length < S2.length := (List.getElem?_eq_some_iff.mp hS2).1
        simp only [if_true, h4, hS2, if_pos hl]
        refine ih (i + 1) (S2.set S.length (.lst true (acc ++ [xs[i]]))) k2 (acc ++ [xs[i]]) (by omega) ?_ (List.getElem?_set_self hl2) ⟨st2.ext.set_new (Nat.le_refl _), ⟨?_, ?_, st2.box.ne, st2.box.ok⟩, st2.le⟩
        · rw [tk]
          exact List.Sublist.append ha (List.Sublist.refl _)
        · rw [List.getElem?_set_ne (by omega)]; exact st2.box.at_
        · rw [List.getElem?_set_ne (by omega)]; exact st2.box.dig
  exact key cnt 0 (S ++ [.lst true []]) k [] (by omega) (List.nil_sublist _) (by simp) ((Stp.gr B (Gr.one _ _)).mono (Nat.zero_le _))
abbrev lettersC : MV := (mLcC (iAny (mC (.str "lrsiea"))) (tgN 8) (tBl (mBin oEq (mCallC m__law_draw (aCons (mVar 1) (aCons (mC (.int 3)) aNil))) (mC (.int 0)))) (mVar 8) [8])
theorem letters_drawn {e : Nv} {S : Sto} {b k dl : Nat} {ds : List Int} (B : BoxD S b k dl ds) (hk : k < 2 ^ 190) (he : e.length = 9) (h1 : e[1]? = some (some (.loc b))) :
    ∃ x S' k', mMeth "str" oJoin (mC (.str "")) (aCons lettersC aNil) e S = .ok (.str x) S' ∧ x = ordV x ∧ Word x ∧ Stp b dl ds 6 S k S' k' := by
  have hI : iAny (mC (.str rights)) e S = .ok (itS rights) S := by simp only [iAny, mC, Rs.bind]
  have hw : (wipeE e [8]).length = 9 := by simp [wipeE, he]
  have hlen : (chars rights).length = 6 := by
    unfold chars; rw [List.length_map]; decide +kernel
  obtain ⟨ys, S', k', c1, c2, c3, c4⟩ := lc_drawF (it := itS rights) (cnt := (itS rights).cnt) (tg := tgN 8) (tt := tBl (mBin oEq (mCallC m__law_draw (aCons (mVar 1) (aCons (mC (.int 3)) aNil))) (mC (.int 0)))) (me := mVar 8) (e := wipeE e [8]) (xs := chars rights) B hk (fun i S => itS_at) (by rw [hlen]; decide +kernel) (by rw [hlen]; omega) fun d hd S1 k1 B1 hk1 => by
    obtain ⟨r, S2, r1, r2, r3, r4, r5⟩ := draw_st (many := 3) B1 (by omega) (by decide)
    have e1 : ((wipeE e [8]).set 8 (some d))[8]? = some (some d) := List.getElem?_set_self (by omega)
    have e2 : ((wipeE e [8]).set 8 (some d))[1]? = some (some (.loc b)) := by
      rw [List.getElem?_set_ne (by decide)]
      show (e.set 8 none)[1]? = _
      rw [List.getElem?_set_ne (by decide)]; exact h1
    refine ⟨_, decide (r = 0), S2, k1 + 1, rfl, ?_, r4, ?_⟩
    · generalize m__law_draw = md at r3 ⊢
      simp only [mDef, sRet, sSeq, sIf, sExpr, sAsg, sNx, sBk, sCt, sPut, tgN, mBin, mUn, mMeth, mL, mM, mC, mVar, aNil, aCons, mTup, mLst, mIf, mSl, mChain, mAnd2, mOr2, mNot, tBl, tVal, tAnd2, tOr2, tNot2, startE, Rs.bind, Rs.bindS, lift, mCall, mCallC, mCall0, Rs.cold, List.length_cons, List.length_nil, List.map_cons, List.map_nil, List.replicate, List.append_eq, List.cons_append, List.nil_append, List.getElem?_cons_zero, List.getElem?_cons_succ, List.getElem?_nil, List.set_cons_zero, List.set_cons_succ, Nat.sub_self, Nat.reduceSub, Nat.reduceAdd, if_true, if_false, decide_true, decide_false, Option.map_some, Option.map_none, ite_true, ite_false, reduceIte, beq_self_eq_true, Bool.false_eq_true, Nat.zero_add, int_i, add_ii, sub_ii, lt_ii, gt_ii, ge_ii, le_ii, e2, r3, eq_ii]
    · simp only [mVar, e1]
  obtain ⟨cs, hcs, rfl⟩ := List.sublist_map_iff.mp (show ys.Sublist (rights.cps.toList.map fun c => D.str ⟨#[c]⟩) from c3)
  have h6 : cs.length ≤ 6 := by
    have := hcs.length_le
    have e6 : rights.cps.toList.length = 6 := by decide +kernel
    omega
  have c2' : S'[S.length]? = some (.lst true ((cs.map one).map .str)) := by rw [c2, List.map_map]; rfl
  have f1 := join_one c2' (by omega)
  have w1 : lettersC e S = .ok (.loc S.length) S' := by
    unfold lettersC mLcC
    rw [hI]
    simp only [Rs.bind]
    rw [c1]; rfl
  refine ⟨_, S', k', join_step w1 f1, ord_sub hcs, join_word (by omega) fun c hc => ?_, c4.mono (by omega)⟩
  have key : ∀ c ∈ rights.cps.toList, c ∈ SIGNS.cps.toList := by
    have : (rights.cps.toList.all fun c => decide (c ∈ SIGNS.cps.toList)) = true := by decide +kernel
    intro c hc
    exact of_decide_eq_true (List.all_eq_true.mp this c hc)
  exact key c (hcs.subset hc)
theorem or_val {t1 t2 : MT} {e : Nv} {S : Sto} {a c : Bool} (h1 : t1 e S = .ok a S) (h2 : t2 e S = .ok c S) : tOr2 t1 t2 e S = .ok (a || c) S := by
  cases a with
  | true => simp only [mDef, sRet, sSeq, sIf, sExpr, sAsg, sNx, sBk, sCt, sPut, tgN, mBin, mUn, mMeth, mL, mM, mC, mVar, aNil, aCons, mTup, mLst, mIf, mSl, mChain, mAnd2, mOr2, mNot, tBl, tVal, tAnd2, tOr2, tNot2, startE, Rs.bind, Rs.bindS, lift, mCall, mCallC, mCall0, Rs.cold, List.length_cons, List.length_nil, List.map_cons, List.map_nil, List.replicate, List.append_eq, List.cons_append, List.nil_append, List.getElem?_cons_zero, List.getElem?_cons_succ, List.getElem?_nil, List.set_cons_zero, List.set_cons_succ, Nat.sub_self, Nat.reduceSub, Nat.reduceAdd, if_true, if_false, decide_true, decide_false, Option.map_some, Option.map_none, ite_true, ite_false, reduceIte, beq_self_eq_true, Bool.false_eq_true, Nat.zero_add, int_i, add_ii, sub_ii, lt_ii, gt_ii, ge_ii, le_ii, h1, Bool.true_or]
  | false => simp only [mDef, sRet, sSeq, sIf, sExpr, sAsg, sNx, sBk, sCt, sPut, tgN, mBin, mUn, mMeth, mL, mM, mC, mVar, aNil, aCons, mTup, mLst, mIf, mSl, mChain, mAnd2, mOr2, mNot, tBl, tVal, tAnd2, tOr2, tNot2, startE, Rs.bind, Rs.bindS, lift, mCall, mCallC, mCall0, Rs.cold, List.length_cons, List.length_nil, List.map_cons, List.map_nil, List.replicate, List.append_eq, List.cons_append, List.nil_append, List.getElem?_cons_zero, List.getElem?_cons_succ, List.getElem?_nil, List.set_cons_zero, List.set_cons_succ, Nat.sub_self, Nat.reduceSub, Nat.reduceAdd, if_true, if_false, decide_true, decide_false, Option.map_some, Option.map_none, ite_true, ite_false, reduceIte, beq_self_eq_true, Bool.false_eq_true, Nat.zero_add, int_i, add_ii, sub_ii, lt_ii, gt_ii, ge_ii, le_ii, h1, h2, Bool.false_or]
theorem and_val {t1 t2 : MT} {e : Nv} {S : Sto} {a c : Bool} (h1 : t1 e S = .ok a S) (h2 : t2 e S = .ok c S) : tAnd2 t1 t2 e S = .ok (a && c) S := by
  cases a with
  | true => simp only [mDef, sRet, sSeq, sIf, sExpr, sAsg, sNx, sBk, sCt, sPut, tgN, mBin, mUn, mMeth, mL, mM, mC, mVar, aNil, aCons, mTup, mLst, mIf, mSl, mChain, mAnd2, mOr2, mNot, tBl, tVal, tAnd2, tOr2, tNot2, startE, Rs.bind, Rs.bindS, lift, mCall, mCallC, mCall0, Rs.cold, List.length_cons, List.length_nil, List.map_cons, List.map_nil, List.replicate, List.append_eq, List.cons_append, List.nil_append, List.getElem?_cons_zero, List.getElem?_cons_succ, List.getElem?_nil, List.set_cons_zero, List.set_cons_succ, Nat.sub_self, Nat.reduceSub, Nat.reduceAdd, if_true, if_false, decide_true, decide_false, Option.map_some, Option.map_none, ite_true, ite_false, reduceIte, beq_self_eq_true, Bool.false_eq_true, Nat.zero_add, int_i, add_ii, sub_ii, lt_ii, gt_ii, ge_ii, le_ii, h1, h2, Bool.true_and]
  | false => simp only [mDef, sRet, sSeq, sIf, sExpr, sAsg, sNx, sBk, sCt, sPut, tgN, mBin, mUn, mMeth, mL, mM, mC, mVar, aNil, aCons, mTup, mLst, mIf, mSl, mChain, mAnd2, mOr2, mNot, tBl, tVal, tAnd2, tOr2, tNot2, startE, Rs.bind, Rs.bindS, lift, mCall, mCallC, mCall0, Rs.cold, List.length_cons, List.length_nil, List.map_cons, List.map_nil, List.replicate, List.append_eq, List.cons_append, List.nil_append, List.getElem?_cons_zero, List.getElem?_cons_succ, List.getElem?_nil, List.set_cons_zero, List.set_cons_succ, Nat.sub_self, Nat.reduceSub, Nat.reduceAdd, if_true, if_false, decide_true, decide_false, Option.map_some, Option.map_none, ite_true, ite_false, reduceIte, beq_self_eq_true, Bool.false_eq_true, Nat.zero_add, int_i, add_ii, sub_ii, lt_ii, gt_ii, ge_ii, le_ii, h1, Bool.false_and]
theorem eq_one {S : Sto} {c n : Nat} {z : Str} (h : z = one n) : oEq (.str (one c)) (.str z) S = some (.bl (decide (c = n)), S) := by
  subst h
  rw [eq_ss]
  have : decide (one c = one n) = decide (c = n) := by
    rw [Bool.eq_iff_iff, decide_eq_true_eq, decide_eq_true_eq]
    constructor
    · intro h
      have := congrArg (fun s : Str => s.cps.toList) h
      simpa [one] using this
    · intro h; rw [h]
  rw [this]
abbrev dueT : MT := (tOr2 (tBl (mBin oIn2 (mVar 8) (mVar 7))) (tOr2 (tBl (mBin oIn2 (mC (.str "a")) (mVar 7))) (tOr2 (tAnd2 (tBl (mBin oEq (mVar 8) (mC (.str "l")))) (tBl (mBin oNe (mVar 7) (mC (.str ""))))) (tAnd2 (tBl (mBin oEq (mVar 8) (mC (.str "r")))) (tOr2 (tBl (mBin oIn2 (mC (.str "s")) (mVar 7))) (tBl (mBin oIn2 (mC (.str "e")) (mVar 7))))))))
theorem dueT_eq {e : Nv} {S : Sto} {x : Str} {c : Nat} (h7 : e[7]? = some (some (.str x))) (h8 : e[8]? = some (some (.str (one c)))) : dueT e S = .ok (dueC x c) S := by
  have i0 : oIn2 (.str (one c)) (.str x) S = some (.bl (hasC x c), S) := in_one
  have ia : oIn2 (.str "a") (.str x) S = some (.bl (hasC x 97), S) := in_lit (by decide +kernel)
  have is_ : oIn2 (.str "s") (.str x) S = some (.bl (hasC x 115), S) := in_lit (by decide +kernel)
  have ie : oIn2 (.str "e") (.str x) S = some (.bl (hasC x 101), S) := in_lit (by decide +kernel)
  have q1 : oEq (.str (one c)) (.str "l") S = some (.bl (decide (c = 108)), S) := eq_one (by decide +kernel)
  have q2 : oEq (.str (one c)) (.str "r") S = some (.bl (decide (c = 114)), S) := eq_one (by decide +kernel)
  refine or_val ?_ (or_val ?_ (or_val (and_val ?_ ?_) (and_val ?_ (or_val ?_ ?_))))
  · simp only [mDef, sRet, sSeq, sIf, sExpr, sAsg, sNx, sBk, sCt, sPut, tgN, mBin, mUn, mMeth, mL, mM, mC, mVar, aNil, aCons, mTup, mLst, mIf, mSl, mChain, mAnd2, mOr2, mNot, tBl, tVal, tAnd2, tOr2, tNot2, startE, Rs.bind, Rs.bindS, lift, mCall, mCallC, mCall0, Rs.cold, List.length_cons, List.length_nil, List.map_cons, List.map_nil, List.replicate, List.append_eq, List.cons_append, List.nil_append, List.getElem?_cons_zero, List.getElem?_cons_succ, List.getElem?_nil, List.set_cons_zero, List.set_cons_succ, Nat.sub_self, Nat.reduceSub, Nat.reduceAdd, if_true, if_false, decide_true, decide_false, Option.map_some, Option.map_none, ite_true, ite_false, reduceIte, beq_self_eq_true, Bool.false_eq_true, Nat.zero_add, int_i, add_ii, sub_ii, lt_ii, gt_ii, ge_ii, le_ii, h7, h8, i0]
  · simp only [mDef, sRet, sSeq, sIf, sExpr, sAsg, sNx, sBk, sCt, sPut, tgN, mBin, mUn, mMeth, mL, mM, mC, mVar, aNil, aCons, mTup, mLst, mIf, mSl, mChain, mAnd2, mOr2, mNot, tBl, tVal, tAnd2, tOr2, tNot2, startE, Rs.bind, Rs.bindS, lift, mCall, mCallC, mCall0, Rs.cold, List.length_cons, List.length_nil, List.map_cons, List.map_nil, List.replicate, List.append_eq, List.cons_append, List.nil_append, List.getElem?_cons_zero, List.getElem?_cons_succ, List.getElem?_nil, List.set_cons_zero, List.set_cons_succ, Nat.sub_self, Nat.reduceSub, Nat.reduceAdd, if_true, if_false, decide_true, decide_false, Option.map_some, Option.map_none, ite_true, ite_false, reduceIte, beq_self_eq_true, Bool.false_eq_true, Nat.zero_add, int_i, add_ii, sub_ii, lt_ii, gt_ii, ge_ii, le_ii, h7, ia]
  · simp only [mDef, sRet, sSeq, sIf, sExpr, sAsg, sNx, sBk, sCt, sPut, tgN, mBin, mUn, mMeth, mL, mM, mC, mVar, aNil, aCons, mTup, mLst, mIf, mSl, mChain, mAnd2, mOr2, mNot, tBl, tVal, tAnd2, tOr2, tNot2, startE, Rs.bind, Rs.bindS, lift, mCall, mCallC, mCall0, Rs.cold, List.length_cons, List.length_nil, List.map_cons, List.map_nil, List.replicate, List.append_eq, List.cons_append, List.nil_append, List.getElem?_cons_zero, List.getElem?_cons_succ, List.getElem?_nil, List.set_cons_zero, List.set_cons_succ, Nat.sub_self, Nat.reduceSub, Nat.reduceAdd, if_true, if_false, decide_true, decide_false, Option.map_some, Option.map_none, ite_true, ite_false, reduceIte, beq_self_eq_true, Bool.false_eq_true, Nat.zero_add, int_i, add_ii, sub_ii, lt_ii, gt_ii, ge_ii, le_ii, h8, q1]
  · simp only [mDef, sRet, sSeq, sIf, sExpr, sAsg, sNx, sBk, sCt, sPut, tgN, mBin, mUn, mMeth, mL, mM, mC, mVar, aNil, aCons, mTup, mLst, mIf, mSl, mChain, mAnd2, mOr2, mNot, tBl, tVal, tAnd2, tOr2, tNot2, startE, Rs.bind, Rs.bindS, lift, mCall, mCallC, mCall0, Rs.cold, List.length_cons, List.length_nil, List.map_cons, List.map_nil, List.replicate, List.append_eq, List.cons_append, List.nil_append, List.getElem?_cons_zero, List.getElem?_cons_succ, List.getElem?_nil, List.set_cons_zero, List.set_cons_succ, Nat.sub_self, Nat.reduceSub, Nat.reduceAdd, if_true, if_false, decide_true, decide_false, Option.map_some, Option.map_none, ite_true, ite_false, reduceIte, beq_self_eq_true, Bool.false_eq_true, Nat.zero_add, int_i, add_ii, sub_ii, lt_ii, gt_ii, ge_ii, le_ii, h7, ne_ss]
  · simp only [mDef, sRet, sSeq, sIf, sExpr, sAsg, sNx, sBk, sCt, sPut, tgN, mBin, mUn, mMeth, mL, mM, mC, mVar, aNil, aCons, mTup, mLst, mIf, mSl, mChain, mAnd2, mOr2, mNot, tBl, tVal, tAnd2, tOr2, tNot2, startE, Rs.bind, Rs.bindS, lift, mCall, mCallC, mCall0, Rs.cold, List.length_cons, List.length_nil, List.map_cons, List.map_nil, List.replicate, List.append_eq, List.cons_append, List.nil_append, List.getElem?_cons_zero, List.getElem?_cons_succ, List.getElem?_nil, List.set_cons_zero, List.set_cons_succ, Nat.sub_self, Nat.reduceSub, Nat.reduceAdd, if_true, if_false, decide_true, decide_false, Option.map_some, Option.map_none, ite_true, ite_false, reduceIte, beq_self_eq_true, Bool.false_eq_true, Nat.zero_add, int_i, add_ii, sub_ii, lt_ii, gt_ii, ge_ii, le_ii, h8, q2]
  · simp only [mDef, sRet, sSeq, sIf, sExpr, sAsg, sNx, sBk, sCt, sPut, tgN, mBin, mUn, mMeth, mL, mM, mC, mVar, aNil, aCons, mTup, mLst, mIf, mSl, mChain, mAnd2, mOr2, mNot, tBl, tVal, tAnd2, tOr2, tNot2, startE, Rs.bind, Rs.bindS, lift, mCall, mCallC, mCall0, Rs.cold, List.length_cons, List.length_nil, List.map_cons, List.map_nil, List.replicate, List.append_eq, List.cons_append, List.nil_append, List.getElem?_cons_zero, List.getElem?_cons_succ, List.getElem?_nil, List.set_cons_zero, List.set_cons_succ, Nat.sub_self, Nat.reduceSub, Nat.reduceAdd, if_true, if_false, decide_true, decide_false, Option.map_some, Option.map_none, ite_true, ite_false, reduceIte, beq_self_eq_true, Bool.false_eq_true, Nat.zero_add, int_i, add_ii, sub_ii, lt_ii, gt_ii, ge_ii, le_ii, h7, is_]
  · simp only [mDef, sRet, sSeq, sIf, sExpr, sAsg, sNx, sBk, sCt, sPut, tgN, mBin, mUn, mMeth, mL, mM, mC, mVar, aNil, aCons, mTup, mLst, mIf, mSl, mChain, mAnd2, mOr2, mNot, tBl, tVal, tAnd2, tOr2, tNot2, startE, Rs.bind, Rs.bindS, lift, mCall, mCallC, mCall0, Rs.cold, List.length_cons, List.length_nil, List.map_cons, List.map_nil, List.replicate, List.append_eq, List.cons_append, List.nil_append, List.getElem?_cons_zero, List.getElem?_cons_succ, List.getElem?_nil, List.set_cons_zero, List.set_cons_succ, Nat.sub_self, Nat.reduceSub, Nat.reduceAdd, if_true, if_false, decide_true, decide_false, Option.map_some, Option.map_none, ite_true, ite_false, reduceIte, beq_self_eq_true, Bool.false_eq_true, Nat.zero_add, int_i, add_ii, sub_ii, lt_ii, gt_ii, ge_ii, le_ii, h7, ie]
theorem due_joined {e : Nv} {S : Sto} {x : Str} (he : e.length = 9) (h7 : e[7]? = some (some (.str x))) :
    ∃ S', mMeth "str" oJoin (mC (.str "")) (aCons (mLcC (iAny (mC (.str "lrsiea"))) (tgN 8) dueT (mVar 8) [8]) aNil) e S = .ok (.str (dueV x)) S' ∧ Gr S S' := by
  obtain ⟨S', c1, c2, c3, c4⟩ := comp_cs (e := e) (S := S) (z := rights) (j := 8) (tt := dueT) (dueC x) (by omega) (by decide +kernel) fun c hc S1 _ => ⟨S1, by
    refine dueT_eq ?_ ?_
    · rw [List.getElem?_set_ne (by decide)]
      show (e.set 8 none)[7]? = _
      rw [List.getElem?_set_ne (by decide)]; exact h7
    · exact List.getElem?_set_self (by simp [wipeE, he]), Gr.refl _⟩
  exact ⟨S', join_step c1 (join_one c3 (six _)), c2⟩
end K29
end

section
set_option Elab.async false
set_option linter.all false
set_option maxRecDepth 100000
/-! P25: law k29, plainly: the law. -/
namespace K29
open PySem PySem.Spec M2 P0
open L2 (Key)
set_option autoImplicit false
abbrev a3 : MV := mVar 3
abbrev s4 : MS := (sIf (tNot2 (tVal (mCall (m__law_same 6) (aCons (mL oTuple (aCons (mVar 5) aNil)) (aCons (mL oTuple (aCons (mVar 4) aNil)) aNil))))) (sRet (mC (.bl false))) sNx)
abbrev s6 : MS := (sIf (tNot2 (tVal (mCall (m__law_same 6) (aCons (mCall m_is_deed (aCons (mVar 6) aNil)) (aCons (mCall m__law_deed (aCons (mVar 6) aNil)) aNil))))) (sRet (mC (.bl false))) sNx)
abbrev s9 : MS := (sIf (tNot2 (tVal (mCall (m__law_same 6) (aCons (mCall m_completed (aCons (mVar 7) aNil)) (aCons (mVar 4) aNil))))) (sRet (mC (.bl false))) sNx)
abbrev s10 : MS := (sIf (tAnd2 (tBl (mBin oIsNot (mCall m_completed (aCons (mVar 3) aNil)) (mC .non))) (tNot2 (tVal (mCall m__law_letters (aCons (mVar 3) aNil))))) (sRet (mC (.bl false))) sNx)
abbrev turnB : MS := (sSeq (sAsg (mCall m__law_thing (aCons (mVar 1) aNil)) (tgN 3)) (sSeq (sAsg (mLst (aL ((dueL .non).map (·.1)))) (tgN 4)) (sSeq (sAsg (mLst (aL ((toldL .non).map (·.1)))) (tgN 5)) (sSeq s4 (sSeq (sAsg (mCall m__law_deed_drawn (aCons (mVar 1) aNil)) (tgN 6)) (sSeq s6 (sSeq (sAsg (mMeth "str" oJoin (mC (.str "")) (aCons lettersC aNil)) (tgN 7)) (sSeq (sAsg (mMeth "str" oJoin (mC (.str "")) (aCons (mLcC (iAny (mC (.str "lrsiea"))) (tgN 8) dueT (mVar 8) [8]) aNil)) (tgN 4)) (sSeq s9 s10)))))))))
theorem law_eq : b_law = (sSeq (sAsg (mLst (aCons (mCall m__law_digits (aCons (mVar 0) (aCons (mC (.int 0)) (aCons (mC (.int 63)) aNil)))) (aCons (mC (.int 0)) aNil))) (tgN 1)) (sSeq (sFor (iRg1 (aCons (mC (.int 12)) aNil)) (tgN 2) turnB) (sRet (mC (.bl true))))) := rfl
theorem call_at {md : MF} {e : Nv} {S S1 : Sto} {i : Nat} {a d : D} (he : e[i]? = some (some a)) (h : md [a] S = .ok d S1) : mCall md (aCons (mVar i) aNil) e S = .ok d S1 := by
  simp only [mDef, sRet, sSeq, sIf, sExpr, sAsg, sNx, sBk, sCt, sPut, tgN, mBin, mUn, mMeth, mL, mM, mC, mVar, aNil, aCons, mTup, mLst, mIf, mSl, mChain, mAnd2, mOr2, mNot, tBl, tVal, tAnd2, tOr2, tNot2, startE, Rs.bind, Rs.bindS, lift, mCall, mCallC, mCall0, Rs.cold, List.length_cons, List.length_nil, List.map_cons, List.map_nil, List.replicate, List.append_eq, List.cons_append, List.nil_append, List.getElem?_cons_zero, List.getElem?_cons_succ, List.getElem?_nil, List.set_cons_zero, List.set_cons_succ, Nat.sub_self, Nat.reduceSub, Nat.reduceAdd, if_true, if_false, decide_true, decide_false, Option.map_some, Option.map_none, ite_true, ite_false, reduceIte, beq_self_eq_true, Bool.false_eq_true, Nat.zero_add, int_i, add_ii, sub_ii, lt_ii, gt_ii, ge_ii, le_ii, he, h]
theorem var_at {e : Nv} {S : Sto} {i : Nat} {d : D} (he : e[i]? = some (some d)) : mVar i e S = .ok d S := by
  simp only [mDef, sRet, sSeq, sIf, sExpr, sAsg, sNx, sBk, sCt, sPut, tgN, mBin, mUn, mMeth, mL, mM, mC, mVar, aNil, aCons, mTup, mLst, mIf, mSl, mChain, mAnd2, mOr2, mNot, tBl, tVal, tAnd2, tOr2, tNot2, startE, Rs.bind, Rs.bindS, lift, mCall, mCallC, mCall0, Rs.cold, List.length_cons, List.length_nil, List.map_cons, List.map_nil, List.replicate, List.append_eq, List.cons_append, List.nil_append, List.getElem?_cons_zero, List.getElem?_cons_succ, List.getElem?_nil, List.set_cons_zero, List.set_cons_succ, Nat.sub_self, Nat.reduceSub, Nat.reduceAdd, if_true, if_false, decide_true, decide_false, Option.map_some, Option.map_none, ite_true, ite_false, reduceIte, beq_self_eq_true, Bool.false_eq_true, Nat.zero_add, int_i, add_ii, sub_ii, lt_ii, gt_ii, ge_ii, le_ii, he]
theorem s10_ok {e : Nv} {S : Sto} {d : D} (he : e[3]? = some (some d)) (h : Thing S d) : ∃ S', s10 e S = .nx e S' ∧ Gr S S' := by
  rcases h.wf with ⟨x, rfl, hx⟩ | ⟨hn, _⟩
  · obtain ⟨S1, a1, a2⟩ := completed_str (S := S) hx
    by_cases hq : x = ordV x
    · rw [if_pos hq] at a1
      obtain ⟨S2, b1, b2⟩ := letters_str (S := S1) (x := x)
      rw [decide_eq_true hq] at b1
      have f1 : oIsNot (.str (compV x)) .non S1 = some (.bl true, S1) := rfl
      refine ⟨S2, ?_, a2.trans b2⟩
      unfold s10
      generalize m_completed = mc at a1 ⊢
      generalize m__law_letters = ml at b1 ⊢
      simp only [mDef, sRet, sSeq, sIf, sExpr, sAsg, sNx, sBk, sCt, sPut, tgN, mBin, mUn, mMeth, mL, mM, mC, mVar, aNil, aCons, mTup, mLst, mIf, mSl, mChain, mAnd2, mOr2, mNot, tBl, tVal, tAnd2, tOr2, tNot2, startE, Rs.bind, Rs.bindS, lift, mCall, mCallC, mCall0, Rs.cold, List.length_cons, List.length_nil, List.map_cons, List.map_nil, List.replicate, List.append_eq, List.cons_append, List.nil_append, List.getElem?_cons_zero, List.getElem?_cons_succ, List.getElem?_nil, List.set_cons_zero, List.set_cons_succ, Nat.sub_self, Nat.reduceSub, Nat.reduceAdd, if_true, if_false, decide_true, decide_false, Option.map_some, Option.map_none, ite_true, ite_false, reduceIte, beq_self_eq_true, Bool.false_eq_true, Nat.zero_add, int_i, add_ii, sub_ii, lt_ii, gt_ii, ge_ii, le_ii, he, a1, f1, b1, truth, Bool.not_true]
    · rw [if_neg hq] at a1
      have f1 : oIsNot .non .non S1 = some (.bl false, S1) := rfl
      refine ⟨S1, ?_, a2⟩
      unfold s10
      generalize m_completed = mc at a1 ⊢
      generalize m__law_letters = ml
      simp only [mDef, sRet, sSeq, sIf, sExpr, sAsg, sNx, sBk, sCt, sPut, tgN, mBin, mUn, mMeth, mL, mM, mC, mVar, aNil, aCons, mTup, mLst, mIf, mSl, mChain, mAnd2, mOr2, mNot, tBl, tVal, tAnd2, tOr2, tNot2, startE, Rs.bind, Rs.bindS, lift, mCall, mCallC, mCall0, Rs.cold, List.length_cons, List.length_nil, List.map_cons, List.map_nil, List.replicate, List.append_eq, List.cons_append, List.nil_append, List.getElem?_cons_zero, List.getElem?_cons_succ, List.getElem?_nil, List.set_cons_zero, List.set_cons_succ, Nat.sub_self, Nat.reduceSub, Nat.reduceAdd, if_true, if_false, decide_true, decide_false, Option.map_some, Option.map_none, ite_true, ite_false, reduceIte, beq_self_eq_true, Bool.false_eq_true, Nat.zero_add, int_i, add_ii, sub_ii, lt_ii, gt_ii, ge_ii, le_ii, he, a1, f1]
  · have a1 := completed_not hn
    have f1 : oIsNot .non .non S = some (.bl false, S) := rfl
    refine ⟨S, ?_, Gr.refl _⟩
    unfold s10
    generalize m_completed = mc at a1 ⊢
    generalize m__law_letters = ml
    simp only [mDef, sRet, sSeq, sIf, sExpr, sAsg, sNx, sBk, sCt, sPut, tgN, mBin, mUn, mMeth, mL, mM, mC, mVar, aNil, aCons, mTup, mLst, mIf, mSl, mChain, mAnd2, mOr2, mNot, tBl, tVal, tAnd2, tOr2, tNot2, startE, Rs.bind, Rs.bindS, lift, mCall, mCallC, mCall0, Rs.cold, List.length_cons, List.length_nil, List.map_cons, List.map_nil, List.replicate, List.append_eq, List.cons_append, List.nil_append, List.getElem?_cons_zero, List.getElem?_cons_succ, List.getElem?_nil, List.set_cons_zero, List.set_cons_succ, Nat.sub_self, Nat.reduceSub, Nat.reduceAdd, if_true, if_false, decide_true, decide_false, Option.map_some, Option.map_none, ite_true, ite_false, reduceIte, beq_self_eq_true, Bool.false_eq_true, Nat.zero_add, int_i, add_ii, sub_ii, lt_ii, gt_ii, ge_ii, le_ii, he, a1, f1]
theorem turn_ok {S : Sto} {s b k dl : Nat} {ds : List Int} {x2 x3 x4 x5 x6 x7 x8 : Option D} (B : BoxD S b k dl ds) (hk : k < 2 ^ 160) :
    ∃ y3 y4 y5 y6 y7 S' k', turnB [some (.loc s), some (.loc b), x2, x3, x4, x5, x6, x7, x8] S = .nx [some (.loc s), some (.loc b), x2, y3, y4, y5, y6, y7, x8] S' ∧ Stp b dl ds 200 S k S' k' := by
  obtain ⟨d, S1, k1, t1, t2, t3⟩ := thing_ok B (by omega)
  have hk1 : k1 < 2 ^ 161 := by have := t3.le; omega
  have r1 := call_at (md := m__law_thing) (e := [some (.loc s), some (.loc b), x2, x3, x4, x5, x6, x7, x8]) (i := 1) rfl t1
  -- due, told
  obtain ⟨n4, S2, u1, u2, u3⟩ := lst_gr (e := [some (.loc s), some (.loc b), x2, some d, x4, x5, x6, x7, x8]) (dueL d) (by simp) (due_all (S := S1) rfl t2)
  have t2' := t2.gr u2
  obtain ⟨n5, S3, v1, v2, v3⟩ := lst_gr (e := [some (.loc s), some (.loc b), x2, some d, some (.loc n4), x5, x6, x7, x8]) (toldL d) (by simp) (told_all (S := S2) rfl t2')
  have u3' := v2.get u3
  have sg : Stp b dl ds 0 S1 k1 S3 k1 := Stp.gr t3.box (u2.trans v2)
  have w1 : s4 [some (.loc s), some (.loc b), x2, some d, some (.loc n4), some (.loc n5), x6, x7, x8] S3 = .nx [some (.loc s), some (.loc b), x2, some d, some (.loc n4), some (.loc n5), x6, x7, x8] S3 :=
    same_step (tup_step rfl v3) (tup_step rfl u3') (by
      show m__law_same 6 [.tup ((tells d).map .bl), .tup ((tells d).map .bl)] S3 = _
      exact same_bls (bs := tells d) (by show 7 < 1000; omega))
  -- the deed
  obtain ⟨xs, S4, k4, p1, p2, p3, p4⟩ := draws_ok sg.box (by omega)
  have hk4 : k4 < 2 ^ 162 := by have := p4.le; omega
  have r2 := call_at (md := m__law_deed_drawn) (e := [some (.loc s), some (.loc b), x2, some d, some (.loc n4), some (.loc n5), x6, x7, x8]) (i := 1) rfl p1
  obtain ⟨S5, q1, q2⟩ := isdeed_thing (S := S4) (d := .tup xs) (.inr ⟨xs, rfl, p3⟩)
  obtain ⟨S6, q3, q4⟩ := deedL_thing (S := S5) (d := .tup xs) (.inr ⟨xs, rfl, fun x hx => (p3 x hx).gr q2⟩)
  have w2 : s6 [some (.loc s), some (.loc b), x2, some d, some (.loc n4), some (.loc n5), some (.tup xs), x7, x8] S4 = .nx [some (.loc s), some (.loc b), x2, some d, some (.loc n4), some (.loc n5), some (.tup xs), x7, x8] S6 :=
    same_step (call_at rfl q1) (call_at rfl q3) same_bl
  have sg2 : Stp b dl ds 0 S4 k4 S6 k4 := Stp.gr p4.box (q2.trans q4)
  -- letters
  obtain ⟨x, S7, k7, l1, l2, l3, l4⟩ := letters_drawn (e := [some (.loc s), some (.loc b), x2, some d, some (.loc n4), some (.loc n5), some (.tup xs), x7, x8]) sg2.box (by omega) rfl rfl
  obtain ⟨S8, m1, m2⟩ := due_joined (e := [some (.loc s), some (.loc b), x2, some d, some (.loc n4), some (.loc n5), some (.tup xs), some (.str x), x8]) (S := S7) (x := x) rfl rfl
  obtain ⟨S9, c1, c2⟩ := completed_str (S := S8) l3.ok
  rw [if_pos l2, comp_due l2] at c1
  have w3 : s9 [some (.loc s), some (.loc b), x2, some d, some (.str (dueV x)), some (.loc n5), some (.tup xs), some (.str x), x8] S8 = .nx [some (.loc s), some (.loc b), x2, some d, some (.str (dueV x)), some (.loc n5), some (.tup xs), some (.str x), x8] S9 :=
    same_step (call_at rfl c1) (var_at rfl) same_str
  have sg3 : Stp b dl ds 0 S7 k7 S9 k7 := Stp.gr l4.box (m2.trans c2)
  have st : Stp b dl ds (80 + (0 + (6 + 0))) S3 k1 S9 k7 := p4.trans (sg2.trans (l4.trans sg3))
  have ht : Thing S9 d := ((t2'.gr v2).ext sg.box st.ext)
  obtain ⟨S10, z1, z2⟩ := s10_ok (e := [some (.loc s), some (.loc b), x2, some d, some (.str (dueV x)), some (.loc n5), some (.tup xs), some (.str x), x8]) rfl ht
  refine ⟨some d, some (.str (dueV x)), some (.loc n5), some (.tup xs), some (.str x), S10, k7, ?_, ((t3.trans (sg.trans st)).trans (Stp.gr st.box z2)).mono (by omega)⟩
  refine (seq_nx (asgn r1)).trans ?_
  refine (seq_nx (asgn u1)).trans ?_
  refine (seq_nx (asgn v1)).trans ?_
  refine (seq_nx w1).trans ?_
  refine (seq_nx (asgn r2)).trans ?_
  refine (seq_nx w2).trans ?_
  refine (seq_nx (asgn l1)).trans ?_
  refine (seq_nx (asgn m1)).trans ?_
  refine (seq_nx w3).trans ?_
  exact z1
theorem def9_rt {a d : D} {S S1 : Sto} {body : MS} (h : body [some a, none, none, none, none, none, none, none, none] S = .rt d S1) : mDef 9 1 body [a] S = .ok d S1 := by
  simp only [mDef, sRet, sSeq, sIf, sExpr, sAsg, sNx, sBk, sCt, sPut, tgN, mBin, mUn, mMeth, mL, mM, mC, mVar, aNil, aCons, mTup, mLst, mIf, mSl, mChain, mAnd2, mOr2, mNot, tBl, tVal, tAnd2, tOr2, tNot2, startE, Rs.bind, Rs.bindS, lift, mCall, mCallC, mCall0, Rs.cold, List.length_cons, List.length_nil, List.map_cons, List.map_nil, List.replicate, List.append_eq, List.cons_append, List.nil_append, List.getElem?_cons_zero, List.getElem?_cons_succ, List.getElem?_nil, List.set_cons_zero, List.set_cons_succ, Nat.sub_self, Nat.reduceSub, Nat.reduceAdd, if_true, if_false, decide_true, decide_false, Option.map_some, Option.map_none, ite_true, ite_false, reduceIte, beq_self_eq_true, Bool.false_eq_true, Nat.zero_add, int_i, add_ii, sub_ii, lt_ii, gt_ii, ge_ii, le_ii, h]
theorem box_new {e : Nv} {S S1 : Sto} {m : MV} {dl : Nat} (h : m e S = .ok (.loc dl) S1) : mLst (aCons m (aCons (mC (.int 0)) aNil)) e S = .ok (.loc S1.length) (S1 ++ [.lst true [.loc dl, .int 0]]) := by
  have z : ((2 : Nat) ≤ sizeLine) = True := eq_true (by rw [sizeLine_eq]; omega)
  simp only [mDef, sRet, sSeq, sIf, sExpr, sAsg, sNx, sBk, sCt, sPut, tgN, mBin, mUn, mMeth, mL, mM, mC, mVar, aNil, aCons, mTup, mLst, mIf, mSl, mChain, mAnd2, mOr2, mNot, tBl, tVal, tAnd2, tOr2, tNot2, startE, Rs.bind, Rs.bindS, lift, mCall, mCallC, mCall0, Rs.cold, List.length_cons, List.length_nil, List.map_cons, List.map_nil, List.replicate, List.append_eq, List.cons_append, List.nil_append, List.getElem?_cons_zero, List.getElem?_cons_succ, List.getElem?_nil, List.set_cons_zero, List.set_cons_succ, Nat.sub_self, Nat.reduceSub, Nat.reduceAdd, if_true, if_false, decide_true, decide_false, Option.map_some, Option.map_none, ite_true, ite_false, reduceIte, beq_self_eq_true, Bool.false_eq_true, Nat.zero_add, int_i, add_ii, sub_ii, lt_ii, gt_ii, ge_ii, le_ii, h, z]
theorem law_ok : M2.LawOk m_law := by
  intro ns hn hb
  obtain ⟨ds, hd, hl, r⟩ := digits_ok (S0 := [.lst false (ns.map .int)]) (s := 0) (w := false) (ns := ns) rfl hb
  have r : m__law_digits [.loc 0, .int 0, .int 63] [.lst false (ns.map .int)] = .ok (.loc 1) (SD [.lst false (ns.map .int)] ds) := r
  have hcall : mCall m__law_digits (aCons (mVar 0) (aCons (mC (.int 0)) (aCons (mC (.int 63)) aNil))) [some (.loc 0), none, none, none, none, none, none, none, none] [.lst false (ns.map .int)] = .ok (.loc 1) (SD [.lst false (ns.map .int)] ds) := by
    generalize m__law_digits = md at r ⊢
    simp only [mDef, sRet, sSeq, sIf, sExpr, sAsg, sNx, sBk, sCt, sPut, tgN, mBin, mUn, mMeth, mL, mM, mC, mVar, aNil, aCons, mTup, mLst, mIf, mSl, mChain, mAnd2, mOr2, mNot, tBl, tVal, tAnd2, tOr2, tNot2, startE, Rs.bind, Rs.bindS, lift, mCall, mCallC, mCall0, Rs.cold, List.length_cons, List.length_nil, List.map_cons, List.map_nil, List.replicate, List.append_eq, List.cons_append, List.nil_append, List.getElem?_cons_zero, List.getElem?_cons_succ, List.getElem?_nil, List.set_cons_zero, List.set_cons_succ, Nat.sub_self, Nat.reduceSub, Nat.reduceAdd, if_true, if_false, decide_true, decide_false, Option.map_some, Option.map_none, ite_true, ite_false, reduceIte, beq_self_eq_true, Bool.false_eq_true, Nat.zero_add, int_i, add_ii, sub_ii, lt_ii, gt_ii, ge_ii, le_ii, r]
  have hbox := box_new hcall
  have hlen : (SD [.lst false (ns.map .int)] ds).length = 2 := by unfold SD; rfl
  rw [hlen] at hbox
  have B0 : BoxD (SD [.lst false (ns.map .int)] ds ++ [.lst true [.loc 1, .int 0]]) 2 0 1 ds := ⟨rfl, rfl, by decide, hd⟩
  generalize SD [.lst false (ns.map .int)] ds ++ [.lst true [.loc 1, .int 0]] = S2 at hbox B0
  have hloop : ∃ e' S', sFor (iRg1 (aCons (mC (.int 12)) aNil)) (tgN 2) turnB [some (.loc 0), some (.loc 2), none, none, none, none, none, none, none] S2 = .nx e' S' := by
    rw [for_12]
    refine loop_r (Post := fun r => ∃ e' S', r = .nx e' S') (fun i e S => (∃ x2 x3 x4 x5 x6 x7 x8, e = [some (.loc 0), some (.loc 2), x2, x3, x4, x5, x6, x7, x8]) ∧ ∃ k, k ≤ 200 * i ∧ BoxD S 2 k 1 ds) (fun i e S hi ⟨⟨x2, x3, x4, x5, x6, x7, x8, he⟩, k, hk, B⟩ => ?_) (fun e S _ => ⟨e, S, rfl⟩) _ _ ⟨⟨_, _, _, _, _, _, _, rfl⟩, 0, by omega, B0⟩
    subst he
    obtain ⟨y3, y4, y5, y6, y7, S', k', t1, t2⟩ := turn_ok (s := 0) (x2 := some (.int (0 + (i : Int)))) (x3 := x3) (x4 := x4) (x5 := x5) (x6 := x6) (x7 := x7) (x8 := x8) B (by omega)
    show match turnB [some (.loc 0), some (.loc 2), some (.int (0 + (i : Int))), x3, x4, x5, x6, x7, x8] S with
      | .nx e2 S2 => _
      | .ct e2 S2 => _
      | .bk e2 S2 => _
      | r => _
    rw [t1]
    exact ⟨⟨_, _, _, _, _, _, _, rfl⟩, k', by have := t2.le; omega, t2.box⟩
  obtain ⟨e', S', hl⟩ := hloop
  refine ⟨S', def9_rt ?_⟩
  rw [law_eq]
  refine (seq_nx (asgn hbox)).trans ?_
  refine (seq_nx hl).trans ?_
  rfl
end K29
end

section
open PySem PySem.W PyProof.Rows
set_option maxHeartbeats 0 in
theorem PySem.Challenge.cw_oncemail_k29_names_and_deeds_holds : PySem.Challenge.rw_oncemail_k29_names_and_deeds.Holds := by
  w_on; o_law; k_head; (case hw => w_witness2)
  k_fill
  refine M2.walkM (l := PySem.Challenge.rw_oncemail_k29_names_and_deeds) (k := 8) (mf := K29.m_law) (st := K29.s_law) (qual := "law") rfl rfl ⟨rfl, by decide, by decide⟩ (fun w h Y => PySem.W.kIn_of Y) K29.law_ok (fun s u kV doc pm an cdv ct => .of_eq rfl) ?F
  case F =>
    intro w mg fa h KX G hmg
    refine' K29.all_mk KX G hmg ?f__law_cell ?f__law_digits ?f__law_draw ?f__law_word ?f__law_thing ?f__law_deed_drawn ?f__law_small ?f__law_name ?f__law_flags ?f__law_number ?f__law_uids ?f__law_box ?f__law_letters ?f__law_deed ?f_consists_of ?f_is_small_word ?f_is_house ?f_is_name ?f_is_device ?f_is_flag ?f_are_ascending ?f_are_flags ?f_is_integer ?f_are_uids ?f_is_box ?f_in_order ?f_are_rights ?f_is_text ?f_is_content ?f_is_mode ?f_are_texts ?f_is_count ?f_is_deed ?f__law_same ?f_completed ?f_law ?n_all ?n_bool ?n_int ?n_isinstance ?n_len ?n_list ?n_range ?n_set ?n_sorted ?n_str ?n_tuple ?n_type ?n_zip ?c_SMALL ?c_DIGITS ?c_SIGNS ?c_RIGHTS ?c_MODES ?c_PARTS
    case f__law_cell =>
      refine' M2.hasF_mk KX G (fun _ _ _ _ _ _ us hl => match us, hl with | [_, _], _ => rfl) ?a__law_cell ?l__law_cell ?c__law_cell ?k__law_cell
      (case a__law_cell => k_is); (case l__law_cell => k_is); (case c__law_cell => k_is); (case k__law_cell => k_is)
    case f__law_digits =>
      refine' M2.hasF_mk KX G (fun _ _ _ _ _ _ us hl => match us, hl with | [_, _, _], _ => rfl) ?a__law_digits ?l__law_digits ?c__law_digits ?k__law_digits
      (case a__law_digits => k_is); (case l__law_digits => k_is); (case c__law_digits => k_is); (case k__law_digits => k_is)
    case f__law_draw =>
      refine' M2.hasF_mk KX G (fun _ _ _ _ _ _ us hl => match us, hl with | [_, _], _ => rfl) ?a__law_draw ?l__law_draw ?c__law_draw ?k__law_draw
      (case a__law_draw => k_is); (case l__law_draw => k_is); (case c__law_draw => k_is); (case k__law_draw => k_is)
    case f__law_word =>
      refine' M2.hasF_mk KX G (fun _ _ _ _ _ _ us hl => match us, hl with | [_], _ => rfl) ?a__law_word ?l__law_word ?c__law_word ?k__law_word
      (case a__law_word => k_is); (case l__law_word => k_is); (case c__law_word => k_is); (case k__law_word => k_is)
    case f__law_thing =>
      refine' M2.hasF_mk KX G (fun _ _ _ _ _ _ us hl => match us, hl with | [_], _ => rfl) ?a__law_thing ?l__law_thing ?c__law_thing ?k__law_thing
      (case a__law_thing => k_is); (case l__law_thing => k_is); (case c__law_thing => k_is); (case k__law_thing => k_is)
    case f__law_deed_drawn =>
      refine' M2.hasF_mk KX G (fun _ _ _ _ _ _ us hl => match us, hl with | [_], _ => rfl) ?a__law_deed_drawn ?l__law_deed_drawn ?c__law_deed_drawn ?k__law_deed_drawn
      (case a__law_deed_drawn => k_is); (case l__law_deed_drawn => k_is); (case c__law_deed_drawn => k_is); (case k__law_deed_drawn => k_is)
    case f__law_small =>
      refine' M2.hasF_mk KX G (fun _ _ _ _ _ _ us hl => match us, hl with | [_, _], _ => rfl) ?a__law_small ?l__law_small ?c__law_small ?k__law_small
      (case a__law_small => k_is); (case l__law_small => k_is); (case c__law_small => k_is); (case k__law_small => k_is)
    case f__law_name =>
      refine' M2.hasF_mk KX G (fun _ _ _ _ _ _ us hl => match us, hl with | [_], _ => rfl) ?a__law_name ?l__law_name ?c__law_name ?k__law_name
      (case a__law_name => k_is); (case l__law_name => k_is); (case c__law_name => k_is); (case k__law_name => k_is)
    case f__law_flags =>
      refine' M2.hasF_mk KX G (fun _ _ _ _ _ _ us hl => match us, hl with | [_], _ => rfl) ?a__law_flags ?l__law_flags ?c__law_flags ?k__law_flags
      (case a__law_flags => k_is); (case l__law_flags => k_is); (case c__law_flags => k_is); (case k__law_flags => k_is)
    case f__law_number =>
      refine' M2.hasF_mk KX G (fun _ _ _ _ _ _ us hl => match us, hl with | [_, _], _ => rfl) ?a__law_number ?l__law_number ?c__law_number ?k__law_number
      (case a__law_number => k_is); (case l__law_number => k_is); (case c__law_number => k_is); (case k__law_number => k_is)
    case f__law_uids =>
      refine' M2.hasF_mk KX G (fun _ _ _ _ _ _ us hl => match us, hl with | [_], _ => rfl) ?a__law_uids ?l__law_uids ?c__law_uids ?k__law_uids
      (case a__law_uids => k_is); (case l__law_uids => k_is); (case c__law_uids => k_is); (case k__law_uids => k_is)
    case f__law_box =>
      refine' M2.hasF_mk KX G (fun _ _ _ _ _ _ us hl => match us, hl with | [_], _ => rfl) ?a__law_box ?l__law_box ?c__law_box ?k__law_box
      (case a__law_box => k_is); (case l__law_box => k_is); (case c__law_box => k_is); (case k__law_box => k_is)
    case f__law_letters =>
      refine' M2.hasF_mk KX G (fun _ _ _ _ _ _ us hl => match us, hl with | [_], _ => rfl) ?a__law_letters ?l__law_letters ?c__law_letters ?k__law_letters
      (case a__law_letters => k_is); (case l__law_letters => k_is); (case c__law_letters => k_is); (case k__law_letters => k_is)
    case f__law_deed =>
      refine' M2.hasF_mk KX G (fun _ _ _ _ _ _ us hl => match us, hl with | [_], _ => rfl) ?a__law_deed ?l__law_deed ?c__law_deed ?k__law_deed
      (case a__law_deed => k_is); (case l__law_deed => k_is); (case c__law_deed => k_is); (case k__law_deed => k_is)
    case f_consists_of =>
      refine' M2.hasF_mk KX G (fun _ _ _ _ _ _ us hl => match us, hl with | [_, _], _ => rfl) ?a_consists_of ?l_consists_of ?c_consists_of ?k_consists_of
      (case a_consists_of => k_is); (case l_consists_of => k_is); (case c_consists_of => k_is); (case k_consists_of => k_is)
    case f_is_small_word =>
      refine' M2.hasF_mk KX G (fun _ _ _ _ _ _ us hl => match us, hl with | [_, _], _ => rfl) ?a_is_small_word ?l_is_small_word ?c_is_small_word ?k_is_small_word
      (case a_is_small_word => k_is); (case l_is_small_word => k_is); (case c_is_small_word => k_is); (case k_is_small_word => k_is)
    case f_is_house =>
      refine' M2.hasF_mk KX G (fun _ _ _ _ _ _ us hl => match us, hl with | [_], _ => rfl) ?a_is_house ?l_is_house ?c_is_house ?k_is_house
      (case a_is_house => k_is); (case l_is_house => k_is); (case c_is_house => k_is); (case k_is_house => k_is)
    case f_is_name =>
      refine' M2.hasF_mk KX G (fun _ _ _ _ _ _ us hl => match us, hl with | [_], _ => rfl) ?a_is_name ?l_is_name ?c_is_name ?k_is_name
      (case a_is_name => k_is); (case l_is_name => k_is); (case c_is_name => k_is); (case k_is_name => k_is)
    case f_is_device =>
      refine' M2.hasF_mk KX G (fun _ _ _ _ _ _ us hl => match us, hl with | [_], _ => rfl) ?a_is_device ?l_is_device ?c_is_device ?k_is_device
      (case a_is_device => k_is); (case l_is_device => k_is); (case c_is_device => k_is); (case k_is_device => k_is)
    case f_is_flag =>
      refine' M2.hasF_mk KX G (fun _ _ _ _ _ _ us hl => match us, hl with | [_], _ => rfl) ?a_is_flag ?l_is_flag ?c_is_flag ?k_is_flag
      (case a_is_flag => k_is); (case l_is_flag => k_is); (case c_is_flag => k_is); (case k_is_flag => k_is)
    case f_are_ascending =>
      refine' M2.hasF_mk KX G (fun _ _ _ _ _ _ us hl => match us, hl with | [_], _ => rfl) ?a_are_ascending ?l_are_ascending ?c_are_ascending ?k_are_ascending
      (case a_are_ascending => k_is); (case l_are_ascending => k_is); (case c_are_ascending => k_is); (case k_are_ascending => k_is)
    case f_are_flags =>
      refine' M2.hasF_mk KX G (fun _ _ _ _ _ _ us hl => match us, hl with | [_], _ => rfl) ?a_are_flags ?l_are_flags ?c_are_flags ?k_are_flags
      (case a_are_flags => k_is); (case l_are_flags => k_is); (case c_are_flags => k_is); (case k_are_flags => k_is)
    case f_is_integer =>
      refine' M2.hasF_mk KX G (fun _ _ _ _ _ _ us hl => match us, hl with | [_], _ => rfl) ?a_is_integer ?l_is_integer ?c_is_integer ?k_is_integer
      (case a_is_integer => k_is); (case l_is_integer => k_is); (case c_is_integer => k_is); (case k_is_integer => k_is)
    case f_are_uids =>
      refine' M2.hasF_mk KX G (fun _ _ _ _ _ _ us hl => match us, hl with | [_], _ => rfl) ?a_are_uids ?l_are_uids ?c_are_uids ?k_are_uids
      (case a_are_uids => k_is); (case l_are_uids => k_is); (case c_are_uids => k_is); (case k_are_uids => k_is)
    case f_is_box =>
      refine' M2.hasF_mk KX G (fun _ _ _ _ _ _ us hl => match us, hl with | [_], _ => rfl) ?a_is_box ?l_is_box ?c_is_box ?k_is_box
      (case a_is_box => k_is); (case l_is_box => k_is); (case c_is_box => k_is); (case k_is_box => k_is)
    case f_in_order =>
      refine' M2.hasF_mk KX G (fun _ _ _ _ _ _ us hl => match us, hl with | [_], _ => rfl) ?a_in_order ?l_in_order ?c_in_order ?k_in_order
      (case a_in_order => k_is); (case l_in_order => k_is); (case c_in_order => k_is); (case k_in_order => k_is)
    case f_are_rights =>
      refine' M2.hasF_mk KX G (fun _ _ _ _ _ _ us hl => match us, hl with | [_], _ => rfl) ?a_are_rights ?l_are_rights ?c_are_rights ?k_are_rights
      (case a_are_rights => k_is); (case l_are_rights => k_is); (case c_are_rights => k_is); (case k_are_rights => k_is)
    case f_is_text =>
      refine' M2.hasF_mk KX G (fun _ _ _ _ _ _ us hl => match us, hl with | [_], _ => rfl) ?a_is_text ?l_is_text ?c_is_text ?k_is_text
      (case a_is_text => k_is); (case l_is_text => k_is); (case c_is_text => k_is); (case k_is_text => k_is)
    case f_is_content =>
      refine' M2.hasF_mk KX G (fun _ _ _ _ _ _ us hl => match us, hl with | [_], _ => rfl) ?a_is_content ?l_is_content ?c_is_content ?k_is_content
      (case a_is_content => k_is); (case l_is_content => k_is); (case c_is_content => k_is); (case k_is_content => k_is)
    case f_is_mode =>
      refine' M2.hasF_mk KX G (fun _ _ _ _ _ _ us hl => match us, hl with | [_], _ => rfl) ?a_is_mode ?l_is_mode ?c_is_mode ?k_is_mode
      (case a_is_mode => k_is); (case l_is_mode => k_is); (case c_is_mode => k_is); (case k_is_mode => k_is)
    case f_are_texts =>
      refine' M2.hasF_mk KX G (fun _ _ _ _ _ _ us hl => match us, hl with | [_], _ => rfl) ?a_are_texts ?l_are_texts ?c_are_texts ?k_are_texts
      (case a_are_texts => k_is); (case l_are_texts => k_is); (case c_are_texts => k_is); (case k_are_texts => k_is)
    case f_is_count =>
      refine' M2.hasF_mk KX G (fun _ _ _ _ _ _ us hl => match us, hl with | [_], _ => rfl) ?a_is_count ?l_is_count ?c_is_count ?k_is_count
      (case a_is_count => k_is); (case l_is_count => k_is); (case c_is_count => k_is); (case k_is_count => k_is)
    case f_is_deed =>
      refine' M2.hasF_mk KX G (fun _ _ _ _ _ _ us hl => match us, hl with | [_], _ => rfl) ?a_is_deed ?l_is_deed ?c_is_deed ?k_is_deed
      (case a_is_deed => k_is); (case l_is_deed => k_is); (case c_is_deed => k_is); (case k_is_deed => k_is)
    case f__law_same =>
      refine' M2.hasF_mk KX G (fun _ _ _ _ _ _ us hl => match us, hl with | [_, _], _ => rfl) ?a__law_same ?l__law_same ?c__law_same ?k__law_same
      (case a__law_same => k_is); (case l__law_same => k_is); (case c__law_same => k_is); (case k__law_same => k_is)
    case f_completed =>
      refine' M2.hasF_mk KX G (fun _ _ _ _ _ _ us hl => match us, hl with | [_], _ => rfl) ?a_completed ?l_completed ?c_completed ?k_completed
      (case a_completed => k_is); (case l_completed => k_is); (case c_completed => k_is); (case k_completed => k_is)
    case f_law =>
      refine' M2.hasF_mk KX G (fun _ _ _ _ _ _ us hl => match us, hl with | [_], _ => rfl) ?a_law ?l_law ?c_law ?k_law
      (case a_law => k_is); (case l_law => k_is); (case c_law => k_is); (case k_law => k_is)
    case n_all =>
      refine' PySem.W.mg_none_of KX G ?z_all
      k_is
    case n_bool =>
      refine' PySem.W.mg_none_of KX G ?z_bool
      k_is
    case n_int =>
      refine' PySem.W.mg_none_of KX G ?z_int
      k_is
    case n_isinstance =>
      refine' PySem.W.mg_none_of KX G ?z_isinstance
      k_is
    case n_len =>
      refine' PySem.W.mg_none_of KX G ?z_len
      k_is
    case n_list =>
      refine' PySem.W.mg_none_of KX G ?z_list
      k_is
    case n_range =>
      refine' PySem.W.mg_none_of KX G ?z_range
      k_is
    case n_set =>
      refine' PySem.W.mg_none_of KX G ?z_set
      k_is
    case n_sorted =>
      refine' PySem.W.mg_none_of KX G ?z_sorted
      k_is
    case n_str =>
      refine' PySem.W.mg_none_of KX G ?z_str
      k_is
    case n_tuple =>
      refine' PySem.W.mg_none_of KX G ?z_tuple
      k_is
    case n_type =>
      refine' PySem.W.mg_none_of KX G ?z_type
      k_is
    case n_zip =>
      refine' PySem.W.mg_none_of KX G ?z_zip
      k_is
    case c_SMALL =>
      refine' M2.gstr_mk KX G ?z_SMALL ?y_SMALL
      (case z_SMALL => k_is); (case y_SMALL => exact ⟨_, rfl⟩)
    case c_DIGITS =>
      refine' M2.gstr_mk KX G ?z_DIGITS ?y_DIGITS
      (case z_DIGITS => k_is); (case y_DIGITS => exact ⟨_, rfl⟩)
    case c_SIGNS =>
      refine' M2.gstr_mk KX G ?z_SIGNS ?y_SIGNS
      (case z_SIGNS => k_is); (case y_SIGNS => exact ⟨_, rfl⟩)
    case c_RIGHTS =>
      refine' M2.gstr_mk KX G ?z_RIGHTS ?y_RIGHTS
      (case z_RIGHTS => k_is); (case y_RIGHTS => exact ⟨_, rfl⟩)
    case c_MODES =>
      refine' M2.gtup_mk KX G ?e_MODES ?l_MODES ?hc_MODES ?hd_MODES ?hz_MODES ?hv_MODES ?hr_MODES
      (case e_MODES => k_is); (case l_MODES => k_is); (case hc_MODES => rfl); (case hd_MODES => rfl)
      (case hz_MODES => decide); (case hv_MODES => exact (.cons (a := L2.V.str "add") ⟨_, rfl⟩ (.cons (a := L2.V.str "drop") ⟨_, rfl⟩ (.cons (a := L2.V.str "set") ⟨_, rfl⟩ .nil)))); (case hr_MODES => exact fun ρ H => ⟨_, _, rfl, rfl, ⟨_, _, rfl, rfl, ⟨_, _, rfl, rfl, rfl⟩⟩⟩)
    case c_PARTS =>
      refine' M2.ktab_mk KX G ?e_PARTS ?l_PARTS ?lit_PARTS ?low_PARTS ?ent_PARTS
      (case e_PARTS => k_is); (case l_PARTS => k_is)
      (case low_PARTS => rfl)
      (case lit_PARTS => exact ⟨⟨_, _, rfl, rfl⟩, ⟨_, _, rfl, rfl⟩, ⟨_, _, rfl, rfl⟩, ⟨_, _, rfl, rfl⟩, ⟨_, _, rfl, rfl⟩, ⟨_, _, rfl, rfl⟩, ⟨_, _, rfl, rfl⟩, ⟨_, _, rfl, rfl⟩, ⟨_, _, rfl, rfl⟩, ⟨_, _, rfl, rfl⟩, ⟨_, _, rfl, rfl⟩, ⟨_, _, rfl, rfl⟩, ⟨_, _, rfl, rfl⟩, trivial⟩)
      case ent_PARTS =>
      refine' ⟨⟨_, rfl⟩, ?en_PARTS_0, ⟨_, rfl⟩, ?en_PARTS_1, ⟨_, rfl⟩, ?en_PARTS_2, ⟨_, rfl⟩, ?en_PARTS_3, ⟨_, rfl⟩, ?en_PARTS_4, ⟨_, rfl⟩, ?en_PARTS_5, ⟨_, rfl⟩, ?en_PARTS_6, ⟨_, rfl⟩, ?en_PARTS_7, ⟨_, rfl⟩, ?en_PARTS_8, ⟨_, rfl⟩, ?en_PARTS_9, ⟨_, rfl⟩, ?en_PARTS_10, ⟨_, rfl⟩, ?en_PARTS_11, ⟨_, rfl⟩, ?en_PARTS_12, trivial⟩
      case en_PARTS_0 =>
        refine' M2.ktup_mk ?l_PARTS_0 ?hc_PARTS_0 ?hd_PARTS_0 ?hz_PARTS_0 ?hv_PARTS_0 ?hr_PARTS_0
        (case l_PARTS_0 => k_is); (case hc_PARTS_0 => rfl); (case hd_PARTS_0 => rfl); (case hz_PARTS_0 => decide)
        (case hv_PARTS_0 => exact (.cons (a := L2.V.ref _) rfl .nil)); (case hr_PARTS_0 => exact fun ρ H => ⟨_, _, rfl, ⟨_, PySem.W.mg_of KX G (by k_is), rfl⟩, rfl⟩)
      case en_PARTS_1 =>
        refine' M2.ktup_mk ?l_PARTS_1 ?hc_PARTS_1 ?hd_PARTS_1 ?hz_PARTS_1 ?hv_PARTS_1 ?hr_PARTS_1
        (case l_PARTS_1 => k_is); (case hc_PARTS_1 => rfl); (case hd_PARTS_1 => rfl); (case hz_PARTS_1 => decide)
        (case hv_PARTS_1 => exact (.cons (a := L2.V.ref _) rfl .nil)); (case hr_PARTS_1 => exact fun ρ H => ⟨_, _, rfl, ⟨_, PySem.W.mg_of KX G (by k_is), rfl⟩, rfl⟩)
      case en_PARTS_2 =>
        refine' M2.ktup_mk ?l_PARTS_2 ?hc_PARTS_2 ?hd_PARTS_2 ?hz_PARTS_2 ?hv_PARTS_2 ?hr_PARTS_2
        (case l_PARTS_2 => k_is); (case hc_PARTS_2 => rfl); (case hd_PARTS_2 => rfl); (case hz_PARTS_2 => decide)
        (case hv_PARTS_2 => exact (.cons (a := L2.V.ref _) rfl (.cons (a := L2.V.ref _) rfl .nil))); (case hr_PARTS_2 => exact fun ρ H => ⟨_, _, rfl, ⟨_, PySem.W.mg_of KX G (by k_is), rfl⟩, ⟨_, _, rfl, ⟨_, PySem.W.mg_of KX G (by k_is), rfl⟩, rfl⟩⟩)
      case en_PARTS_3 =>
        refine' M2.ktup_mk ?l_PARTS_3 ?hc_PARTS_3 ?hd_PARTS_3 ?hz_PARTS_3 ?hv_PARTS_3 ?hr_PARTS_3
        (case l_PARTS_3 => k_is); (case hc_PARTS_3 => rfl); (case hd_PARTS_3 => rfl); (case hz_PARTS_3 => decide)
        (case hv_PARTS_3 => exact (.cons (a := L2.V.ref _) rfl (.cons (a := L2.V.ref _) rfl (.cons (a := L2.V.ref _) rfl .nil)))); (case hr_PARTS_3 => exact fun ρ H => ⟨_, _, rfl, ⟨_, PySem.W.mg_of KX G (by k_is), rfl⟩, ⟨_, _, rfl, ⟨_, PySem.W.mg_of KX G (by k_is), rfl⟩, ⟨_, _, rfl, ⟨_, PySem.W.mg_of KX G (by k_is), rfl⟩, rfl⟩⟩⟩)
      case en_PARTS_4 =>
        refine' M2.ktup_mk ?l_PARTS_4 ?hc_PARTS_4 ?hd_PARTS_4 ?hz_PARTS_4 ?hv_PARTS_4 ?hr_PARTS_4
        (case l_PARTS_4 => k_is); (case hc_PARTS_4 => rfl); (case hd_PARTS_4 => rfl); (case hz_PARTS_4 => decide)
        (case hv_PARTS_4 => exact (.cons (a := L2.V.ref _) rfl (.cons (a := L2.V.ref _) rfl (.cons (a := L2.V.ref _) rfl .nil)))); (case hr_PARTS_4 => exact fun ρ H => ⟨_, _, rfl, ⟨_, PySem.W.mg_of KX G (by k_is), rfl⟩, ⟨_, _, rfl, ⟨_, PySem.W.mg_of KX G (by k_is), rfl⟩, ⟨_, _, rfl, ⟨_, PySem.W.mg_of KX G (by k_is), rfl⟩, rfl⟩⟩⟩)
      case en_PARTS_5 =>
        refine' M2.ktup_mk ?l_PARTS_5 ?hc_PARTS_5 ?hd_PARTS_5 ?hz_PARTS_5 ?hv_PARTS_5 ?hr_PARTS_5
        (case l_PARTS_5 => k_is); (case hc_PARTS_5 => rfl); (case hd_PARTS_5 => rfl); (case hz_PARTS_5 => decide)
        (case hv_PARTS_5 => exact (.cons (a := L2.V.ref _) rfl (.cons (a := L2.V.ref _) rfl (.cons (a := L2.V.ref _) rfl (.cons (a := L2.V.ref _) rfl .nil))))); (case hr_PARTS_5 => exact fun ρ H => ⟨_, _, rfl, ⟨_, PySem.W.mg_of KX G (by k_is), rfl⟩, ⟨_, _, rfl, ⟨_, PySem.W.mg_of KX G (by k_is), rfl⟩, ⟨_, _, rfl, ⟨_, PySem.W.mg_of KX G (by k_is), rfl⟩, ⟨_, _, rfl, ⟨_, PySem.W.mg_of KX G (by k_is), rfl⟩, rfl⟩⟩⟩⟩)
      case en_PARTS_6 =>
        refine' M2.ktup_mk ?l_PARTS_6 ?hc_PARTS_6 ?hd_PARTS_6 ?hz_PARTS_6 ?hv_PARTS_6 ?hr_PARTS_6
        (case l_PARTS_6 => k_is); (case hc_PARTS_6 => rfl); (case hd_PARTS_6 => rfl); (case hz_PARTS_6 => decide)
        (case hv_PARTS_6 => exact (.cons (a := L2.V.ref _) rfl (.cons (a := L2.V.ref _) rfl (.cons (a := L2.V.ref _) rfl .nil)))); (case hr_PARTS_6 => exact fun ρ H => ⟨_, _, rfl, ⟨_, PySem.W.mg_of KX G (by k_is), rfl⟩, ⟨_, _, rfl, ⟨_, PySem.W.mg_of KX G (by k_is), rfl⟩, ⟨_, _, rfl, ⟨_, PySem.W.mg_of KX G (by k_is), rfl⟩, rfl⟩⟩⟩)
      case en_PARTS_7 =>
        refine' M2.ktup_mk ?l_PARTS_7 ?hc_PARTS_7 ?hd_PARTS_7 ?hz_PARTS_7 ?hv_PARTS_7 ?hr_PARTS_7
        (case l_PARTS_7 => k_is); (case hc_PARTS_7 => rfl); (case hd_PARTS_7 => rfl); (case hz_PARTS_7 => decide)
        (case hv_PARTS_7 => exact (.cons (a := L2.V.ref _) rfl (.cons (a := L2.V.ref _) rfl (.cons (a := L2.V.ref _) rfl .nil)))); (case hr_PARTS_7 => exact fun ρ H => ⟨_, _, rfl, ⟨_, PySem.W.mg_of KX G (by k_is), rfl⟩, ⟨_, _, rfl, ⟨_, PySem.W.mg_of KX G (by k_is), rfl⟩, ⟨_, _, rfl, ⟨_, PySem.W.mg_of KX G (by k_is), rfl⟩, rfl⟩⟩⟩)
      case en_PARTS_8 =>
        refine' M2.ktup_mk ?l_PARTS_8 ?hc_PARTS_8 ?hd_PARTS_8 ?hz_PARTS_8 ?hv_PARTS_8 ?hr_PARTS_8
        (case l_PARTS_8 => k_is); (case hc_PARTS_8 => rfl); (case hd_PARTS_8 => rfl); (case hz_PARTS_8 => decide)
        (case hv_PARTS_8 => exact (.cons (a := L2.V.ref _) rfl (.cons (a := L2.V.ref _) rfl .nil))); (case hr_PARTS_8 => exact fun ρ H => ⟨_, _, rfl, ⟨_, PySem.W.mg_of KX G (by k_is), rfl⟩, ⟨_, _, rfl, ⟨_, PySem.W.mg_of KX G (by k_is), rfl⟩, rfl⟩⟩)
      case en_PARTS_9 =>
        refine' M2.ktup_mk ?l_PARTS_9 ?hc_PARTS_9 ?hd_PARTS_9 ?hz_PARTS_9 ?hv_PARTS_9 ?hr_PARTS_9
        (case l_PARTS_9 => k_is); (case hc_PARTS_9 => rfl); (case hd_PARTS_9 => rfl); (case hz_PARTS_9 => decide)
        (case hv_PARTS_9 => exact (.cons (a := L2.V.ref _) rfl .nil)); (case hr_PARTS_9 => exact fun ρ H => ⟨_, _, rfl, ⟨_, PySem.W.mg_of KX G (by k_is), rfl⟩, rfl⟩)
      case en_PARTS_10 =>
        refine' M2.ktup_mk ?l_PARTS_10 ?hc_PARTS_10 ?hd_PARTS_10 ?hz_PARTS_10 ?hv_PARTS_10 ?hr_PARTS_10
        (case l_PARTS_10 => k_is); (case hc_PARTS_10 => rfl); (case hd_PARTS_10 => rfl); (case hz_PARTS_10 => decide)
        (case hv_PARTS_10 => exact (.cons (a := L2.V.ref _) rfl .nil)); (case hr_PARTS_10 => exact fun ρ H => ⟨_, _, rfl, ⟨_, PySem.W.mg_of KX G (by k_is), rfl⟩, rfl⟩)
      case en_PARTS_11 =>
        refine' M2.ktup_mk ?l_PARTS_11 ?hc_PARTS_11 ?hd_PARTS_11 ?hz_PARTS_11 ?hv_PARTS_11 ?hr_PARTS_11
        (case l_PARTS_11 => k_is); (case hc_PARTS_11 => rfl); (case hd_PARTS_11 => rfl); (case hz_PARTS_11 => decide)
        (case hv_PARTS_11 => exact (.cons (a := L2.V.ref _) rfl (.cons (a := L2.V.ref _) rfl .nil))); (case hr_PARTS_11 => exact fun ρ H => ⟨_, _, rfl, ⟨_, PySem.W.mg_of KX G (by k_is), rfl⟩, ⟨_, _, rfl, ⟨_, PySem.W.mg_of KX G (by k_is), rfl⟩, rfl⟩⟩)
      case en_PARTS_12 =>
        refine' M2.ktup_mk ?l_PARTS_12 ?hc_PARTS_12 ?hd_PARTS_12 ?hz_PARTS_12 ?hv_PARTS_12 ?hr_PARTS_12
        (case l_PARTS_12 => k_is); (case hc_PARTS_12 => rfl); (case hd_PARTS_12 => rfl); (case hz_PARTS_12 => decide)
        (case hv_PARTS_12 => exact (.cons (a := L2.V.ref _) rfl (.cons (a := L2.V.ref _) rfl .nil))); (case hr_PARTS_12 => exact fun ρ H => ⟨_, _, rfl, ⟨_, PySem.W.mg_of KX G (by k_is), rfl⟩, ⟨_, _, rfl, ⟨_, PySem.W.mg_of KX G (by k_is), rfl⟩, rfl⟩⟩)
end
