import PyProof.Rows.All
import Wide.All
import OpenK.AllK
import Wide.FinOn
import HandS.ForMost
import HandS.Zip
import HandS.ForExc
import HandS.ExcField
import HandS.ExcInit
import HandS.Lambda
import PyProof.ReprLen
import PyProof.ReprRoads
import HandS.RaiseMore
import KE.GoesNew
import KE.GoesEnum
import KE.KDictZip
import HandS.Style
import HandS.Small
import HandS.TupAny
import HandS.ListItems
import HandS.SortRule
import HandS.SortInts
import HandS.DictComp
import KE.KDictPairs
import HandS.ExcValue
import HandS.RevTup
import HandS.MapObj
import HandS.TryMany
import KE.KExcPX
import KE.KExcIs
import HandS.ExcIs
import HandS.IsInst
import HandS.NoneIn
import HandS.Wide
import HandS.EndTab
import HandS.EndOwn
import KE.KRevSl
import HandS.TupMul
import HandS.SetKeys
import HandS.SetBool
import HandS.More
import HandS.TupLe
import PySem.Challenge.RW_onlyforced_k04_sorts_of_pairs
set_option Elab.async false
set_option linter.all false
set_option maxRecDepth 100000
set_option maxHeartbeats 4000000
/-! DL: programs read over plain data and a small store of lists and dicts, in place of the heap. -/
namespace DL
open PySem PySem.Spec PyProof.Rows L2

/-! ### data, the store -/
inductive D where
  | non | bl (b : Bool) | int (i : Int) | str (x : Str) | tup (ds : List D) | ztup (ds : List D) | rl (ds : List D) | lr (n : Nat) | exc (a d : Addr) (cls : Value) (w : D) | opq (φ : PySem.W.Frag → Hp → Addr → Prop)
inductive Ent where
  | lst (ds : List D)
  | dct (kvs : List (Key × D))
abbrev Store := List Ent
abbrev DEnv := List (Option D)

/-- a list that nobody writes -/
def FixL (K : PySem.W.Frag) (H : Hp) (a : Addr) (vs : List V) : Prop := (∃ o, H a = some (.frz o (.lst vs))) ∨ SqL K (fun _ => none) a vs
/-- a tuple that is known to have no dict -/
def PTup (K : PySem.W.Frag) (H : Hp) (a : Addr) (vs : List V) : Prop := (∃ o, H a = some (.frz o (.tup vs)) ∧ o.dict = none) ∨
  ∃ (o : Obj) (its : Array Value) (n : Nat), K.lookup a = some o ∧ o.cls = .type "tuple" ∧ o.dict = none ∧ o.data = .seq its n ∧ its.size ≤ sizeLine ∧ Vals vs its.toList
theorem PTup.sq {K : PySem.W.Frag} {H : Hp} {a : Addr} {vs : List V} (h : PTup K H a vs) : SqT K H a vs := by
  rcases h with ⟨o, h, _⟩ | ⟨o, its, n, h1, h2, _, h4, h5, h6⟩
  · exact .inl (.inr ⟨o, h⟩)
  · exact .inr ⟨o, its, n, h1, h2, h4, h5, h6⟩
/-- a table of code objects; it may grow, whoever reads it -/
def TblO (o : HO) : Prop := ∃ ps, o = .tbl ps
def LdO (o : HO) : Prop := (∃ xs, o = .lst xs) ∨ (∃ kvs, o = .dK kvs) ∨ ∃ S n, o = .set S n
def MutO (o : HO) : Prop := LdO o ∨ TblO o
/-- the tables of a law's code objects, each with the name that its code objects bear -/
class HasT where
  T : List (Addr × Str)
def TabsT [HasT] (H : Hp) : Prop := LamX.Tabs HasT.T H
theorem TabsT.step [HasT] {H H' : Hp} (t : TabsT H) (h : ∀ b o, H b = some o → ¬ LdO o → H' b = some o) : TabsT H' := fun p hp => by
  obtain ⟨ps, h1, h2, h3⟩ := t p hp
  refine ⟨ps, h _ _ h1 (by rintro (⟨_, z⟩ | ⟨_, z⟩ | ⟨_, _, z⟩) <;> cases z), h2, fun pos cv hc => ?_⟩
  obtain ⟨c, e1, e2⟩ := h3 pos cv hc
  refine ⟨c, e1, h _ _ e2 ?_⟩
  unfold LamX.CodeO
  rintro (⟨_, z⟩ | ⟨_, z⟩ | ⟨_, _, z⟩) <;> cases z
theorem TabsT.same [HasT] {H H' : Hp} (t : TabsT H) (h : ∀ b o, H b = some o → H' b = some o) : TabsT H' := t.step fun b o q _ => h b o q
/-- what leans on nothing that is written -/
def StabP (φ : Hp → Addr → Prop) : Prop := ∀ (H H' : Hp) (a : Addr), (∀ b o, H b = some o → ¬ MutO o → H' b = some o) → φ H a → φ H' a
mutual
def RelD (K : PySem.W.Frag) (H : Hp) (A : List Addr) : D → V → Prop
  | .non, v => v = .non
  | .bl b, v => v = .bl b
  | .int i, v => v = .int i
  | .str x, v => v = .str x
  | .tup ds, v => ∃ a vs, v = .ref a ∧ PTup K H a vs ∧ RelDs K H A ds vs
  | .ztup ds, v => ∃ a vs, v = .ref a ∧ SqT K H a vs ∧ RelDs K H A ds vs
  | .rl ds, v => ∃ a vs, v = .ref a ∧ FixL K H a vs ∧ RelDs K H A ds vs
  | .lr n, v => ∃ a, v = .ref a ∧ A[n]? = some a
  | .exc a d _ w, v => v = .ref a ∧ ∃ u, H d = some (.xd [(("what" : Str), u)]) ∧ RelD K H A w u
  | .opq φ, v => ∃ a, v = .ref a ∧ φ K H a ∧ StabP (φ K)
def RelDs (K : PySem.W.Frag) (H : Hp) (A : List Addr) : List D → List V → Prop
  | [], vs => vs = []
  | d :: ds, vs => ∃ v r, vs = v :: r ∧ RelD K H A d v ∧ RelDs K H A ds r
end
/-- nothing is tracked there, or a table -/
def FreeO (H : Hp) (a : Addr) : Prop := ∀ o, H a = some o → TblO o
theorem FreeO.of {H : Hp} {a : Addr} (h : H a = none) : FreeO H a := fun o q => by
  rw [h] at q
  cases q
theorem ld_tbl {o : HO} (h : LdO o) : ¬ TblO o := by
  rintro ⟨_, z⟩
  subst z
  rcases h with ⟨_, h⟩ | ⟨_, h⟩ | ⟨_, _, h⟩ <;> cases h
structure Ext (H : Hp) (A : List Addr) (H' : Hp) (A' : List Addr) : Prop where
  pre : ∃ B, A' = A ++ B ∧ ∀ b ∈ B, FreeO H b
  keep : ∀ a o, H a = some o → H' a = some o ∨ (a ∈ A ∧ LdO o ∧ ∃ o', H' a = some o' ∧ LdO o') ∨ TblO o
def RelE (K : PySem.W.Frag) (H : Hp) (A : List Addr) : Ent → Addr → Prop
  | .lst ds, a => ∃ vs, H a = some (.lst vs) ∧ RelDs K H A ds vs
  | .dct kvs, a => ∃ ws, H a = some (.dK ws) ∧ ws.map (·.1) = kvs.map (·.1) ∧ RelDs K H A (kvs.map (·.2)) (ws.map (·.2))
structure RelS [HasT] (K : PySem.W.Frag) (H : Hp) (A : List Addr) (S : Store) : Prop where
  len : S.length = A.length
  nd : A.Nodup
  ent : ∀ (n : Nat) (e : Ent), S[n]? = some e → ∃ a, A[n]? = some a ∧ RelE K H A e a
  tabs : TabsT H
structure RelN (K : PySem.W.Frag) (H : Hp) (A : List Addr) (ρ : DEnv) (σ : L2.St) : Prop where
  len : ρ.length = σ.length
  at_ : ∀ (i : Nat) (d : D), ρ[i]? = some (some d) → ∃ v, σ[i]? = some (some v) ∧ RelD K H A d v

section
variable [HasT]
variable {K : PySem.W.Frag} {H H' H1 H2 : Hp} {A A' A1 A2 : List Addr}
theorem Ext.refl : Ext H A H A := ⟨⟨[], by simp, by simp⟩, fun a o h => .inl h⟩
theorem Ext.free (e : Ext H A H' A') {a : Addr} (h : FreeO H' a) : FreeO H a := fun o q => by
  rcases e.keep a o q with h' | ⟨_, m, o', h', m'⟩ | h'
  · exact h o h'
  · exact absurd (h o' h') (ld_tbl m')
  · exact h'
theorem Ext.stay (e : Ext H A H' A') {a : Addr} {o : HO} (h : H a = some o) (hn : ¬ MutO o) : H' a = some o := by
  rcases e.keep a o h with h' | ⟨_, m, _⟩ | h'
  · exact h'
  · exact absurd (.inl m) hn
  · exact absurd (.inr h') hn
theorem Ext.trans (e1 : Ext H A H1 A1) (e2 : Ext H1 A1 H2 A2) : Ext H A H2 A2 := by
  obtain ⟨B1, rfl, f1⟩ := e1.pre
  obtain ⟨B2, rfl, f2⟩ := e2.pre
  refine ⟨⟨B1 ++ B2, by rw [List.append_assoc], fun b hb => ?_⟩, fun a o h => ?_⟩
  · rcases List.mem_append.mp hb with hb | hb
    · exact f1 b hb
    · exact e1.free (f2 b hb)
  · rcases e1.keep a o h with h1 | ⟨ha, m, o1, h1, m1⟩ | h1
    · rcases e2.keep a o h1 with h2 | ⟨ha, m, o2, h2, m2⟩ | h2
      · exact .inl h2
      · rcases List.mem_append.mp ha with ha | ha
        · exact .inr (.inl ⟨ha, m, o2, h2, m2⟩)
        · exact absurd (f1 a ha o h) (ld_tbl m)
      · exact .inr (.inr h2)
    · rcases e2.keep a o1 h1 with h2 | ⟨_, _, o2, h2, m2⟩ | h2
      · exact .inr (.inl ⟨ha, m, o1, h2, m1⟩)
      · exact .inr (.inl ⟨ha, m, o2, h2, m2⟩)
      · exact absurd h2 (ld_tbl m1)
    · exact .inr (.inr h1)
theorem Ext.same (h : ∀ a o, H a = some o → H' a = some o) : Ext H A H' A := ⟨⟨[], by simp, by simp⟩, fun a o q => .inl (h a o q)⟩
theorem Ext.at_ (e : Ext H A H' A') {n : Nat} {a : Addr} (h : A[n]? = some a) : A'[n]? = some a := by
  obtain ⟨B, rfl, _⟩ := e.pre
  rw [List.getElem?_append_left (List.getElem?_eq_some_iff.mp h).1]
  exact h
theorem nmut_xd {fs : List (Str × V)} : ¬ MutO (.xd fs) := by
  rintro ((⟨_, h⟩ | ⟨_, h⟩ | ⟨_, _, h⟩) | ⟨_, h⟩) <;> cases h
theorem nmut_tup {xs : List V} : ¬ MutO (.tup xs) := by
  rintro ((⟨_, h⟩ | ⟨_, h⟩ | ⟨_, _, h⟩) | ⟨_, h⟩) <;> cases h
theorem nmut_frz {o : Obj} {u : HO} : ¬ MutO (.frz o u) := by
  rintro ((⟨_, h⟩ | ⟨_, h⟩ | ⟨_, _, h⟩) | ⟨_, h⟩) <;> cases h
theorem ext_t (e : Ext H A H' A') {a : Addr} {xs : List V} (h : SqT K H a xs) : SqT K H' a xs := by
  rcases h with (h | ⟨o, h⟩) | h
  · exact .inl (.inl (e.stay h nmut_tup))
  · exact .inl (.inr ⟨o, e.stay h nmut_frz⟩)
  · exact .inr h
theorem ext_p (e : Ext H A H' A') {a : Addr} {xs : List V} (h : PTup K H a xs) : PTup K H' a xs := by
  rcases h with ⟨o, h, hd⟩ | h
  · exact .inl ⟨o, e.stay h nmut_frz, hd⟩
  · exact .inr h
theorem ext_f (e : Ext H A H' A') {a : Addr} {xs : List V} (h : FixL K H a xs) : FixL K H' a xs := by
  rcases h with ⟨o, h⟩ | h
  · exact .inl ⟨o, e.stay h nmut_frz⟩
  · exact .inr h
theorem FixL.sq {a : Addr} {xs : List V} (h : FixL K H a xs) : SqL K H a xs := by
  rcases h with ⟨o, h⟩ | (h | ⟨o, h⟩) | h
  · exact .inl (.inr ⟨o, h⟩)
  · cases h
  · cases h
  · exact .inr h
mutual
theorem RelD.ext (e : Ext H A H' A') : ∀ {d : D} {v : V}, RelD K H A d v → RelD K H' A' d v
  | .non, _, h => h
  | .bl _, _, h => h
  | .int _, _, h => h
  | .str _, _, h => h
  | .tup _, _, ⟨a, vs, h1, h2, h3⟩ => ⟨a, vs, h1, ext_p e h2, RelDs.ext e h3⟩
  | .ztup _, _, ⟨a, vs, h1, h2, h3⟩ => ⟨a, vs, h1, ext_t e h2, RelDs.ext e h3⟩
  | .rl _, _, ⟨a, vs, h1, h2, h3⟩ => ⟨a, vs, h1, ext_f e h2, RelDs.ext e h3⟩
  | .lr _, _, ⟨a, h1, h2⟩ => ⟨a, h1, e.at_ h2⟩
  | .exc _ _ _ _, _, ⟨h1, u, h2, h3⟩ => ⟨h1, u, e.stay h2 nmut_xd, RelD.ext e h3⟩
  | .opq _, _, ⟨a, h1, h2, h3⟩ => ⟨a, h1, h3 _ _ a (fun _ _ q n => e.stay q n) h2, h3⟩
theorem RelDs.ext (e : Ext H A H' A') : ∀ {ds : List D} {vs : List V}, RelDs K H A ds vs → RelDs K H' A' ds vs
  | [], _, h => h
  | _ :: _, _, ⟨v, r, h1, h2, h3⟩ => ⟨v, r, h1, RelD.ext e h2, RelDs.ext e h3⟩
end
theorem RelDs.len : ∀ {ds : List D} {vs : List V}, RelDs K H A ds vs → vs.length = ds.length
  | [], _, h => by
    rw [show _ = [] from h]
    rfl
  | _ :: _, _, ⟨v, r, h1, _, h3⟩ => by
    rw [h1, List.length_cons, List.length_cons, RelDs.len h3]
theorem RelDs.get : ∀ {ds : List D} {vs : List V} {i : Nat} {d : D}, RelDs K H A ds vs → ds[i]? = some d → ∃ v, vs[i]? = some v ∧ RelD K H A d v
  | [], _, _, _, _, e => by simp at e
  | _ :: _, _, 0, _, ⟨v, r, h1, h2, _⟩, e => by
    subst h1
    simp at e
    subst e
    exact ⟨v, rfl, h2⟩
  | _ :: _, _, i + 1, _, ⟨v, r, h1, _, h3⟩, e => by
    subst h1
    obtain ⟨u, g1, g2⟩ := RelDs.get (i := i) h3 (by simpa using e)
    exact ⟨u, by simpa using g1, g2⟩
theorem RelDs.getV {ds : List D} {vs : List V} {i : Nat} {v : V} (h : RelDs K H A ds vs) (e : vs[i]? = some v) : ∃ d, ds[i]? = some d ∧ RelD K H A d v := by
  have hl := h.len
  have hi := (List.getElem?_eq_some_iff.mp e).1
  have hi' : i < ds.length := by omega
  obtain ⟨u, g1, g2⟩ := h.get (List.getElem?_eq_getElem hi')
  rw [e] at g1
  cases g1
  exact ⟨_, List.getElem?_eq_getElem hi', g2⟩
theorem RelDs.append : ∀ {ds es : List D} {vs us : List V}, RelDs K H A ds vs → RelDs K H A es us → RelDs K H A (ds ++ es) (vs ++ us)
  | [], _, _, _, h, g => by
    rw [show _ = [] from h]
    exact g
  | _ :: _, _, _, _, ⟨v, r, h1, h2, h3⟩, g => ⟨v, r ++ _, by rw [h1]; rfl, h2, RelDs.append h3 g⟩
theorem RelDs.one {d : D} {v : V} (h : RelD K H A d v) : RelDs K H A [d] [v] := ⟨v, [], rfl, h, rfl⟩
theorem RelDs.set : ∀ {ds : List D} {vs : List V} {d : D} {v : V} (i : Nat), RelDs K H A ds vs → RelD K H A d v → RelDs K H A (ds.set i d) (vs.set i v)
  | [], _, _, _, _, h, _ => by
    rw [show _ = [] from h]
    exact rfl
  | _ :: _, _, _, _, 0, ⟨u, r, h1, _, h3⟩, g => ⟨_, r, by rw [h1]; rfl, g, h3⟩
  | _ :: _, _, _, _, i + 1, ⟨u, r, h1, h2, h3⟩, g => ⟨u, _, by rw [h1]; rfl, h2, RelDs.set i h3 g⟩
theorem RelDs.drop : ∀ {ds : List D} {vs : List V} (i : Nat), RelDs K H A ds vs → RelDs K H A (ds.drop i) (vs.drop i)
  | _, _, 0, h => by simpa using h
  | [], _, i + 1, h => by
    rw [show _ = [] from h]
    exact rfl
  | _ :: _, _, i + 1, ⟨u, r, h1, _, h3⟩ => by
    rw [h1]
    exact RelDs.drop i h3
theorem RelDs.take : ∀ {ds : List D} {vs : List V} (i : Nat), RelDs K H A ds vs → RelDs K H A (ds.take i) (vs.take i)
  | _, _, 0, h => by
    simp only [List.take_zero]
    exact rfl
  | [], _, i + 1, h => by
    rw [show _ = [] from h]
    exact rfl
  | _ :: _, _, i + 1, ⟨u, r, h1, h2, h3⟩ => by
    rw [h1]
    exact ⟨u, _, rfl, h2, RelDs.take i h3⟩
theorem RelDs.ints : ∀ {ns : List Int} {vs : List V}, RelDs K H A (ns.map D.int) vs → vs = ns.map V.int
  | [], _, h => h
  | n :: ns, _, ⟨v, r, h1, h2, h3⟩ => by
    rw [h1, RelDs.ints h3, show v = V.int n from h2]
    rfl
theorem relDs_ints : ∀ (ns : List Int), RelDs K H A (ns.map D.int) (ns.map V.int)
  | [] => rfl
  | n :: ns => ⟨.int n, ns.map V.int, rfl, rfl, relDs_ints ns⟩
theorem RelN.ext {ρ : DEnv} {σ : L2.St} (n : RelN K H A ρ σ) (e : Ext H A H' A') : RelN K H' A' ρ σ :=
  ⟨n.len, fun i d h => let ⟨v, h1, h2⟩ := n.at_ i d h; ⟨v, h1, h2.ext e⟩⟩
theorem RelN.set {ρ : DEnv} {σ : L2.St} {d : D} {v : V} (i : Nat) (n : RelN K H A ρ σ) (r : RelD K H A d v) : RelN K H A (ρ.set i (some d)) (σ.set i (some v)) := by
  refine ⟨by rw [List.length_set, List.length_set]; exact n.len, fun j d' h => ?_⟩
  by_cases hij : i = j
  · subst hij
    have hl : i < ρ.length := by
      have q := (List.getElem?_eq_some_iff.mp h).1
      rwa [List.length_set] at q
    rw [List.getElem?_set_self hl] at h
    cases h
    exact ⟨v, List.getElem?_set_self (by rw [← n.len]; exact hl), r⟩
  · rw [List.getElem?_set_ne hij] at h
    obtain ⟨u, h1, h2⟩ := n.at_ j d' h
    exact ⟨u, by rw [List.getElem?_set_ne hij]; exact h1, h2⟩
theorem RelS.get {S : Store} (s : RelS K H A S) {n : Nat} {e : Ent} {a : Addr} (h : S[n]? = some e) (ha : A[n]? = some a) : RelE K H A e a := by
  obtain ⟨b, hb, r⟩ := s.ent n e h
  rw [ha] at hb
  cases hb
  exact r
theorem RelS.memL {S : Store} (s : RelS K H A S) {a : Addr} (h : a ∈ A) : ∃ o, H a = some o ∧ LdO o := by
  obtain ⟨n, hn⟩ := List.mem_iff_getElem?.mp h
  have hl : n < S.length := by
    rw [s.len]
    exact (List.getElem?_eq_some_iff.mp hn).1
  have r := s.get (List.getElem?_eq_getElem hl) hn
  cases q : S[n] with
  | lst ds =>
    rw [q] at r
    obtain ⟨vs, h1, _⟩ := r
    exact ⟨_, h1, .inl ⟨_, rfl⟩⟩
  | dct kvs =>
    rw [q] at r
    obtain ⟨ws, h1, _⟩ := r
    exact ⟨_, h1, .inr (.inl ⟨_, rfl⟩)⟩
theorem RelS.mem {S : Store} (s : RelS K H A S) {a : Addr} (h : a ∈ A) : ∃ o, H a = some o ∧ MutO o := by
  obtain ⟨o, h1, h2⟩ := s.memL h
  exact ⟨o, h1, .inl h2⟩
theorem RelS.ld {S : Store} (s : RelS K H A S) {a : Addr} {o : HO} (h : a ∈ A) (q : H a = some o) : LdO o := by
  obtain ⟨o', h1, h2⟩ := s.memL h
  rw [q] at h1
  cases h1
  exact h2
theorem RelS.notin0 {S : Store} (s : RelS K H A S) {p : Addr} (h : FreeO H p) : p ∉ A := fun hp => by
  obtain ⟨o, q, m⟩ := s.memL hp
  exact ld_tbl m (h o q)
theorem RelS.notin {S : Store} (s : RelS K H A S) {p : Addr} (h : H p = none) : p ∉ A := s.notin0 (.of h)
/-- what the store holds, where all that was tracked stays -/
theorem RelS.same {S : Store} (s : RelS K H A S) (h : ∀ a o, H a = some o → H' a = some o) : RelS K H' A S := by
  have e : Ext H A H' A := Ext.same h
  refine ⟨s.len, s.nd, fun n en hn => ?_, s.tabs.same h⟩
  obtain ⟨a, ha, r⟩ := s.ent n en hn
  refine ⟨a, ha, ?_⟩
  cases en with
  | lst ds =>
    obtain ⟨vs, h1, h2⟩ := r
    exact ⟨vs, h _ _ h1, h2.ext e⟩
  | dct kvs =>
    obtain ⟨ws, h1, h2, h3⟩ := r
    exact ⟨ws, h _ _ h1, h2, h3.ext e⟩
theorem same_upd {p : Addr} {o : HO} (h : H p = none) : ∀ a u, H a = some u → upd H p o a = some u := fun a u q => by
  rw [upd_ne (ne_of_none q h)]
  exact q
/-- a new entry -/
theorem ext_new {S : Store} (s : RelS K H A S) {p : Addr} {o : HO} (h : H p = none) : Ext H A (upd H p o) (A ++ [p]) :=
  ⟨⟨[p], rfl, fun b hb => by rw [List.mem_singleton.mp hb]; exact .of h⟩, fun a u q => .inl (same_upd h a u q)⟩
theorem RelE.ext {en : Ent} {a : Addr} (r : RelE K H A en a) (e : Ext H A H' A') (h : ∀ o, H a = some o → H' a = some o) : RelE K H' A' en a := by
  cases en with
  | lst ds =>
    obtain ⟨vs, h1, h2⟩ := r
    exact ⟨vs, h _ h1, h2.ext e⟩
  | dct kvs =>
    obtain ⟨ws, h1, h2, h3⟩ := r
    exact ⟨ws, h _ h1, h2, h3.ext e⟩
theorem RelS.new {S : Store} (s : RelS K H A S) {p : Addr} {o : HO} {en : Ent} (h : H p = none) (r : RelE K (upd H p o) (A ++ [p]) en p) : RelS K (upd H p o) (A ++ [p]) (S ++ [en]) := by
  have e : Ext H A (upd H p o) (A ++ [p]) := ext_new s h
  refine ⟨by rw [List.length_append, List.length_append, s.len]; rfl, List.nodup_append.mpr ⟨s.nd, by simp, fun a ha b hb => ?_⟩, fun n en' hn => ?_, s.tabs.same (same_upd h)⟩
  · rw [List.mem_singleton.mp hb]
    intro q
    rw [q] at ha
    exact s.notin h ha
  · by_cases hl : n < S.length
    · rw [List.getElem?_append_left hl] at hn
      obtain ⟨a, ha, r'⟩ := s.ent n en' hn
      exact ⟨a, e.at_ ha, r'.ext e fun o' q => same_upd h _ _ q⟩
    · have hn' : n = S.length := by
        have q := (List.getElem?_eq_some_iff.mp hn).1
        rw [List.length_append] at q
        simp at q
        omega
      subst hn'
      rw [List.getElem?_append_right (Nat.le_refl _), Nat.sub_self] at hn
      simp at hn
      subst hn
      refine ⟨p, ?_, r⟩
      rw [s.len, List.getElem?_append_right (Nat.le_refl _), Nat.sub_self]
      rfl
/-- an entry changed -/
theorem ext_set {S : Store} {p : Addr} {o o' : HO} (hp : p ∈ A) (h : H p = some o) (m : LdO o) (m' : LdO o') : Ext H A (upd H p o') A := by
  refine ⟨⟨[], by simp, by simp⟩, fun a u q => ?_⟩
  by_cases e : a = p
  · subst e
    rw [h] at q
    cases q
    exact .inr (.inl ⟨hp, m, o', upd_same, m'⟩)
  · rw [upd_ne e]
    exact .inl q
theorem RelS.set {S : Store} (s : RelS K H A S) {n : Nat} {p : Addr} {o o' : HO} {en : Ent} (hn : A[n]? = some p) (h : H p = some o) (m : LdO o) (m' : LdO o') (r : RelE K (upd H p o') A en p) : RelS K (upd H p o') A (S.set n en) := by
  have hp : p ∈ A := List.mem_iff_getElem?.mpr ⟨n, hn⟩
  have e : Ext H A (upd H p o') A := ext_set (S := S) hp h m m'
  refine ⟨by rw [List.length_set]; exact s.len, s.nd, fun k en' hk => ?_, s.tabs.step fun b u q hn => by
    rw [upd_ne fun z => hn (by rw [z] at q; exact s.ld hp q)]
    exact q⟩
  by_cases hnk : n = k
  · subst hnk
    have hl : n < S.length := by
      rw [s.len]
      exact (List.getElem?_eq_some_iff.mp hn).1
    rw [List.getElem?_set_self hl] at hk
    cases hk
    exact ⟨p, hn, r⟩
  · rw [List.getElem?_set_ne hnk] at hk
    obtain ⟨a, ha, r'⟩ := s.ent k en' hk
    refine ⟨a, ha, r'.ext e fun u q => ?_⟩
    have hap : a ≠ p := fun z => by
      subst z
      have h1 := (List.getElem?_eq_some_iff.mp hn).1
      exact hnk ((List.getElem?_inj h1 s.nd).mp (hn.trans ha.symm))
    rw [upd_ne hap]
    exact q
end
end DL
/-! DM: readings over data (DE, DT, DA, DG, DS, DIt), lifted to the heap's readings. -/
namespace DL
open PySem PySem.Spec PyProof.Rows L2
variable [HasT]

abbrev DK := D → Store → Prop
abbrev DE := DEnv → Store → DK → Prop
abbrev DT := DEnv → Store → (Bool → Store → Prop) → Prop
abbrev DA := DEnv → Store → (List D → Store → Prop) → Prop
/-- what is wanted of an exception: its class, what it tells, the names and the store where it is raised -/
abbrev DX := Value → D → DEnv → Store → Prop
structure DEnds where
  nx : DEnv → Store → Prop
  rt : DK
  bk : DEnv → Store → Prop := fun _ _ => False
  ct : DEnv → Store → Prop := fun _ _ => False
  ex : DX := fun _ _ _ _ => False
abbrev DS := DEnds → DEnv → Store → Prop
abbrev DG := D → DEnv → Store → (DEnv → Store → Prop) → Prop
abbrev DGs := List D → DEnv → Store → (DEnv → Store → Prop) → Prop
abbrev D2 := D → D → Store → DK → Prop
abbrev D1 := D → Store → DK → Prop
abbrev DC := List D → Store → DK → Prop
abbrev DSet := D → D → D → Store → (Store → Prop) → Prop
abbrev DSp := List D → Store → DK → Prop
abbrev DIt := DEnv → Store → (List D → (Store → Prop) → Store → Prop) → Prop

/-- what is wanted of a value, over the heap, from what is wanted over data -/
def KontE (K : PySem.W.Frag) (H : Hp) (A : List Addr) (post : DK) (Q : VK) : Prop :=
  ∀ v H' A' d S', Ext H A H' A' → RelS K H' A' S' → RelD K H' A' d v → post d S' → Q v H'
def KontN (K : PySem.W.Frag) (H : Hp) (A : List Addr) (post : DEnv → Store → Prop) (Q : L2.St → Hp → Prop) : Prop :=
  ∀ σ' H' A' ρ' S', Ext H A H' A' → RelN K H' A' ρ' σ' → RelS K H' A' S' → post ρ' S' → Q σ' H'
def liftE (K : PySem.W.Frag) (t : DE) : TE := fun σ H Q => ∃ A ρ S post, RelN K H A ρ σ ∧ RelS K H A S ∧ t ρ S post ∧ KontE K H A post Q
def liftT (K : PySem.W.Frag) (t : DT) : TT := fun σ H Q => ∃ A ρ S post, RelN K H A ρ σ ∧ RelS K H A S ∧ t ρ S post ∧ ∀ b H' A' S', Ext H A H' A' → RelS K H' A' S' → post b S' → Q b H'
def liftA (K : PySem.W.Frag) (t : DA) : TA := fun σ H Q => ∃ A ρ S post, RelN K H A ρ σ ∧ RelS K H A S ∧ t ρ S post ∧ ∀ vs H' A' ds S', Ext H A H' A' → RelS K H' A' S' → RelDs K H' A' ds vs → post ds S' → Q vs H'
def liftG (K : PySem.W.Frag) (g : DG) : TG := fun v σ H Q => ∃ A ρ S d post, RelN K H A ρ σ ∧ RelS K H A S ∧ RelD K H A d v ∧ g d ρ S post ∧ KontN K H A post Q
def liftGs (K : PySem.W.Frag) (g : DGs) : TGs := fun vs σ H Q => ∃ A ρ S ds post, RelN K H A ρ σ ∧ RelS K H A S ∧ RelDs K H A ds vs ∧ g ds ρ S post ∧ KontN K H A post Q
abbrev W0 : WX := fun _ _ _ _ => False
def KontX (K : PySem.W.Frag) (W : WX) (H : Hp) (A : List Addr) (ex : DX) : Prop :=
  ∀ cls d σ' H' A' w u ρ' S', Ext H A H' A' → RelN K H' A' ρ' σ' → RelS K H' A' S' → H' d = some (.xd [(("what" : Str), u)]) → RelD K H' A' w u → ex cls w ρ' S' → W cls (some d) σ' H'
/-- the way on of continue, and of an exception -/
structure KontC (K : PySem.W.Frag) (W : WX) (H : Hp) (A : List Addr) (E : DEnds) (Q : L2.St → Hp → Prop) : Prop where
  ct : KontN K H A E.ct Q
  ex : KontX K W H A E.ex
def liftS (K : PySem.W.Frag) (W : WX) (t : DS) : TS := fun Dn σ H => ∃ A ρ S E, RelN K H A ρ σ ∧ RelS K H A S ∧ t E ρ S ∧ KontN K H A E.nx Dn.nx ∧ KontE K H A E.rt Dn.rt ∧ KontN K H A E.bk Dn.bk ∧ KontC K W H A E Dn.ct
/-- a def's promise -/
def spL (K : PySem.W.Frag) (sp : DSp) : Sp := fun vs H Q _ => ∃ A ds S post, RelS K H A S ∧ RelDs K H A ds vs ∧ sp ds S post ∧ KontE K H A post Q
def Rul2 (K : PySem.W.Frag) (rd : D2) (r : R2) : Prop := ∀ H A S d1 d2 v1 v2 post Q, RelS K H A S → RelD K H A d1 v1 → RelD K H A d2 v2 → rd d1 d2 S post → KontE K H A post Q → r v1 v2 H Q
def Rul1 (K : PySem.W.Frag) (rd : D1) (r : V → Hp → VK → Prop) : Prop := ∀ H A S d v post Q, RelS K H A S → RelD K H A d v → rd d S post → KontE K H A post Q → r v H Q
def RulC (K : PySem.W.Frag) (rd : DC) (r : List V → Hp → VK → Prop) : Prop := ∀ H A S ds vs post Q, RelS K H A S → RelDs K H A ds vs → rd ds S post → KontE K H A post Q → r vs H Q
def RulSet (K : PySem.W.Frag) (rd : DSet) (r : TSet) : Prop := ∀ H A S o i d ov iv v post Q, RelS K H A S → RelD K H A o ov → RelD K H A i iv → RelD K H A d v → rd o i d S post →
  (∀ H' A' S', Ext H A H' A' → RelS K H' A' S' → post S' → Q H') → r ov iv v H Q

section
variable {K : PySem.W.Frag} {H H' : Hp} {A A' : List Addr} {post : DK} {Q : VK}
theorem KontE.go (k : KontE K H A post Q) (e : Ext H A H' A') : KontE K H' A' post Q := fun v H2 A2 d S2 e2 s2 r2 p => k v H2 A2 d S2 (e.trans e2) s2 r2 p
theorem KontE.now {S : Store} (k : KontE K H A post Q) {v : V} {d : D} (s : RelS K H A S) (r : RelD K H A d v) (p : post d S) : Q v H := k v H A d S Ext.refl s r p
theorem KontN.go {post : DEnv → Store → Prop} {Q : L2.St → Hp → Prop} (k : KontN K H A post Q) (e : Ext H A H' A') : KontN K H' A' post Q := fun v H2 A2 d S2 e2 n2 s2 p => k v H2 A2 d S2 (e.trans e2) n2 s2 p
theorem KontN.now {S : Store} {post : DEnv → Store → Prop} {Q : L2.St → Hp → Prop} (k : KontN K H A post Q) {σ : L2.St} {ρ : DEnv} (n : RelN K H A ρ σ) (s : RelS K H A S) (p : post ρ S) : Q σ H := k σ H A ρ S Ext.refl n s p
theorem KontX.go {W : WX} {ex : DX} (k : KontX K W H A ex) (e : Ext H A H' A') : KontX K W H' A' ex := fun c d σ H2 A2 w u ρ S2 e2 => k c d σ H2 A2 w u ρ S2 (e.trans e2)
theorem KontC.go {W : WX} {E : DEnds} {Q : L2.St → Hp → Prop} (k : KontC K W H A E Q) (e : Ext H A H' A') : KontC K W H' A' E Q := ⟨k.ct.go e, k.ex.go e⟩
theorem kontX0 {W : WX} : KontX K W H A fun _ _ _ _ => False := fun _ _ _ _ _ _ _ _ _ _ _ _ _ _ p => p.elim
end

/-! ### weakening -/
section
variable {X : Cx} {e : Expr}
theorem pe_mono {t t' : TE} (h : PE X e t) (m : ∀ σ H Q, t' σ H Q → t σ H Q) : PE X e t' := ⟨fun pins s σ H Q I w => h.run pins s σ H Q I (m σ H Q w)⟩
theorem pt_mono {t t' : TT} (h : PT X e t) (m : ∀ σ H Q, t' σ H Q → t σ H Q) : PT X e t' := ⟨fun pins s σ H Q I w => h.run pins s σ H Q I (m σ H Q w)⟩
theorem pw_mono {t t' : TT} (h : PW X e t) (m : ∀ σ H Q, t' σ H Q → t σ H Q) : PW X e t' := ⟨fun wh pins s σ H Q I w => h.run wh pins s σ H Q I (m σ H Q w)⟩
theorem pa_mono {es : List Expr} {t t' : TA} (h : PA X es t) (m : ∀ σ H Q, t' σ H Q → t σ H Q) : PA X es t' := ⟨fun pos pins s σ H Q I w => h.run pos pins s σ H Q I (m σ H Q w)⟩
theorem pk_mono {es : List Keyword} {t t' : TA} (h : PK X es t) (m : ∀ σ H Q, t' σ H Q → t σ H Q) : PK X es t' := ⟨fun pos pins s σ H Q I w => h.run pos pins s σ H Q I (m σ H Q w)⟩
theorem ps_mono {st : Stmt} {t t' : TS} (h : PS X st t) (m : ∀ Dn σ H, t' Dn σ H → t Dn σ H) : PS X st t' := ⟨fun pins s σ H Dn I w => h.run pins s σ H Dn I (m Dn σ H w)⟩
theorem pss_mono {st : List Stmt} {t t' : TS} (h : PSs X st t) (m : ∀ Dn σ H, t' Dn σ H → t Dn σ H) : PSs X st t' := ⟨fun pins s σ H Dn I w => h.run pins s σ H Dn I (m Dn σ H w)⟩
theorem pg_mono {tg : Expr} {t t' : TG} (h : PG X tg t) (m : ∀ v σ H Q, t' v σ H Q → t v σ H Q) : PG X tg t' := ⟨fun pins s σ H v u Q I r w => h.run pins s σ H v u Q I r (m v σ H Q w)⟩
theorem pgs_mono {ts : List Expr} {t t' : TGs} (h : PGs X ts t) (m : ∀ vs σ H Q, t' vs σ H Q → t vs σ H Q) : PGs X ts t' := ⟨fun pins s σ H vs us Q I r w => h.run pins s σ H vs us Q I r (m vs σ H Q w)⟩
theorem pi_mono {tg it : Expr} {t t' : TI} (h : PI X tg it t) (m : ∀ σ H R, t' σ H R → t σ H R) : PI X tg it t' := ⟨fun pins s σ H R I w => h.run pins s σ H R I (m σ H R w)⟩
end

/-! ### names, constants -/
def dVar (i : Nat) : DE := fun ρ S post => ∃ d, ρ[i]? = some (some d) ∧ post d S
def dC (d : D) : DE := fun _ S post => post d S
section
variable {X : Cx} {pos : Pos}
theorem de_var (i : Nat) {x : Str} (hN : X.N[i]? = some x := by rfl) (hv : Vis X.env.scope x := by first | exact Or.inl rfl | exact Or.inr (Or.inl rfl) | exact Or.inr (Or.inr rfl)) (hd : (x == ("__debug__" : Str)) = false := by decide)
    (hcd : (x == ("__classdict__" : Str)) = false := by decide) : PE X (.Name x pos) (liftE X.K (dVar i)) :=
  pe_mono (pe_var hN hv hd hcd) fun σ H Q ⟨A, ρ, S, post, n, s, ⟨d, hd, p⟩, k⟩ => let ⟨v, h1, h2⟩ := n.at_ i d hd; ⟨v, h1, k.now s h2 p⟩
theorem de_c {e : Expr} {d : D} {v : V} (h : PE X e (tC v)) (r : ∀ K H A, RelD K H A d v) : PE X e (liftE X.K (dC d)) :=
  pe_mono h fun σ H Q ⟨A, ρ, S, post, n, s, p, k⟩ => k.now s (r _ _ _) p
theorem de_int {i : Int} {j} : PE X (.Constant (.int i) j pos) (liftE X.K (dC (.int i))) := de_c pe_int fun _ _ _ => rfl
theorem de_bl {b : Bool} {j} : PE X (.Constant (.bool b) j pos) (liftE X.K (dC (.bl b))) := de_c pe_bl fun _ _ _ => rfl
theorem de_non {j} : PE X (.Constant .none j pos) (liftE X.K (dC .non)) := de_c pe_non fun _ _ _ => rfl
theorem de_str {x : Str} {j} : PE X (.Constant (.str x) j pos) (liftE X.K (dC (.str x))) := de_c pe_str fun _ _ _ => rfl
/-- a module's number -/
theorem de_glob {x : Str} {i : Int} {tk : Tok} (hg : Gl X x) (hm : X.mg x = some (.int i tk)) (hd : (x == ("__debug__" : Str)) = false := by decide) : PE X (.Name x pos) (liftE X.K (dC (.int i))) :=
  de_c (v := .int i) (pe_glob hg hm ⟨tk, rfl⟩ hd) fun _ _ _ => rfl
end

/-! ### two in a row -/
def dOp (rd : D2) (ta tb : DE) : DE := fun ρ S post => ta ρ S fun x S1 => tb ρ S1 fun y S2 => rd x y S2 post
def dUn (rd : D1) (ta : DE) : DE := fun ρ S post => ta ρ S fun x S1 => rd x S1 post
section
variable {X : Cx} {pos : Pos} {a b : Expr} {ta tb : DE} {rd : D2} {r : R2}
theorem lift_op {K : PySem.W.Frag} (hr : Rul2 K rd r) {σ : L2.St} {H : Hp} {Q : VK} : liftE K (dOp rd ta tb) σ H Q → tOp r (liftE K ta) (liftE K tb) σ H Q := by
  rintro ⟨A, ρ, S, post, n, s, p, k⟩
  refine ⟨A, ρ, S, _, n, s, p, fun v1 H1 A1 d1 S1 e1 s1 r1 p1 => ?_⟩
  refine ⟨A1, ρ, S1, _, n.ext e1, s1, p1, fun v2 H2 A2 d2 S2 e2 s2 r2 p2 => ?_⟩
  exact hr H2 A2 S2 d1 d2 v1 v2 post Q s2 (r1.ext e2) r2 p2 (k.go (e1.trans e2))
theorem de_op {op : Operator} (ho : OpR X (binaryOp op) r) (hr : Rul2 X.K rd r) (ha : PE X a (liftE X.K ta)) (hb : PE X b (liftE X.K tb)) : PE X (.BinOp a op b pos) (liftE X.K (dOp rd ta tb)) :=
  pe_mono (pe_op ho ha hb) fun _ _ _ => lift_op hr
theorem de_cmp {op : CmpOp} (ho : OpR X (compareOp op) r) (hr : Rul2 X.K rd r) (ha : PE X a (liftE X.K ta)) (hb : PE X b (liftE X.K tb)) (hm : behindInMarks op b = false) : PE X (.Compare a [op] [b] pos) (liftE X.K (dOp rd ta tb)) :=
  pe_mono (pe_cmpR ho ha hb hm) fun _ _ _ => lift_op hr
theorem de_ix (ho : IxR X r) (hr : Rul2 X.K rd r) (ha : PE X a (liftE X.K ta)) (hb : PE X b (liftE X.K tb)) (hs : PlainIx b := by exact fun _ _ => rfl) : PE X (.Subscript a b pos) (liftE X.K (dOp rd ta tb)) :=
  pe_mono (pe_ix ho ha hb hs) fun _ _ _ => lift_op hr
theorem de_un {op : UnaryOp} {r1 : V → Hp → VK → Prop} {rd1 : D1} (ho : UnR X (unaryOp op) r1) (hr : Rul1 X.K rd1 r1) (ha : PE X a (liftE X.K ta)) : PE X (.UnaryOp op a pos) (liftE X.K (dUn rd1 ta)) :=
  pe_mono (pe_un ho ha) fun σ H Q ⟨A, ρ, S, post, n, s, p, k⟩ => ⟨A, ρ, S, _, n, s, p, fun v1 H1 A1 d1 S1 e1 s1 r1 p1 => hr H1 A1 S1 d1 v1 post Q s1 r1 p1 (k.go e1)⟩
end

/-! ### argument lists, displays, calls -/
def dNil : DA := fun _ S post => post [] S
def dCons (te : DE) (t : DA) : DA := fun ρ S post => te ρ S fun d S1 => t ρ S1 fun ds S2 => post (d :: ds) S2
def dTup (t : DA) : DE := fun ρ S post => t ρ S fun ds S1 => ds.length ≤ 100000 ∧ post (.tup ds) S1
def dLst (t : DA) : DE := fun ρ S post => t ρ S fun ds S1 => ds.length ≤ 100000 ∧ post (.lr S1.length) (S1 ++ [.lst ds])
def dCB (rd : DC) (t : DA) : DE := fun ρ S post => t ρ S fun ds S1 => rd ds S1 post
theorem le_line {n : Nat} (h : n ≤ 100000) : n ≤ sizeLine := Nat.le_trans h (by decide)
theorem lt_line {n : Nat} (h : n ≤ 100000) : n < sizeLine := Nat.lt_of_le_of_lt h (by decide)
section
variable {X : Cx} {pos : Pos} {e : Expr} {es : List Expr} {te : DE} {t : DA}
theorem da_nil : PA X [] (liftA X.K dNil) := pa_mono pa_nil fun σ H Q ⟨A, ρ, S, post, n, s, p, k⟩ => k [] H A [] S Ext.refl s rfl p
theorem da_cons (ha : PE X e (liftE X.K te)) (hr : PA X es (liftA X.K t)) (hs : starEach (e :: es) X.env = (false, eval e X.env) :: starEach es X.env := by rfl) : PA X (e :: es) (liftA X.K (dCons te t)) :=
  pa_mono (pa_cons ha hr hs) fun σ H Q ⟨A, ρ, S, post, n, s, p, k⟩ => ⟨A, ρ, S, _, n, s, p, fun v1 H1 A1 d1 S1 e1 s1 r1 p1 =>
    ⟨A1, ρ, S1, _, n.ext e1, s1, p1, fun vs H2 A2 ds S2 e2 s2 r2 p2 => k (v1 :: vs) H2 A2 (d1 :: ds) S2 (e1.trans e2) s2 ⟨v1, vs, rfl, r1.ext e2, r2⟩ p2⟩⟩
theorem dk_nil : PK X [] (liftA X.K dNil) := pk_mono pk_nil fun σ H Q ⟨A, ρ, S, post, n, s, p, k⟩ => k [] H A [] S Ext.refl s rfl p
theorem dk_cons {kws : List Keyword} {nm : Option Str} {kpos : Pos} (ha : PE X e (liftE X.K te)) (hr : PK X kws (liftA X.K t)) : PK X (⟨nm, e, kpos⟩ :: kws) (liftA X.K (dCons te t)) :=
  pk_mono (pk_cons ha hr) fun σ H Q ⟨A, ρ, S, post, n, s, p, k⟩ => ⟨A, ρ, S, _, n, s, p, fun v1 H1 A1 d1 S1 e1 s1 r1 p1 =>
    ⟨A1, ρ, S1, _, n.ext e1, s1, p1, fun vs H2 A2 ds S2 e2 s2 r2 p2 => k (v1 :: vs) H2 A2 (d1 :: ds) S2 (e1.trans e2) s2 ⟨v1, vs, rfl, r1.ext e2, r2⟩ p2⟩⟩
theorem relS_tup {K : PySem.W.Frag} {H : Hp} {A : List Addr} {S : Store} (s : RelS K H A S) {p : Addr} {o : HO} (h : H p = none) : Ext H A (upd H p o) A ∧ RelS K (upd H p o) A S :=
  ⟨Ext.same (same_upd h), s.same (same_upd h)⟩
/-- the object of a new tuple -/
abbrev obT (us : List Value) : Obj := { cls := .type "tuple", data := .seq us.toArray }
theorem laidP {pins : List (Addr × Obj)} {σ : L2.St} {H : Hp} {s : Shared} {h' : Heap} {tk : Nat} {vs : List V} {us : List Value} {p : Addr} (I : Inv X pins σ H s) (kp : ∀ b o, s.heap.get? b = some o → h'.get? b = some o) (hp : s.heap.objs.size ≤ p) (he : h'.get? p = some (obT us)) (rv : Vals vs us) (hz : vs.length ≤ sizeLine) :
    Inv X pins σ (upd H p (.frz (obT us) (.tup vs))) { s with heap := h', toks := tk } :=
  I.laid kp hp ⟨he, hz, us, rv, ⟨_, he, rfl, _, rfl⟩⟩
def tTupP (t : TA) : TE := fun σ H Q => t σ H fun xs H1 => xs.length ≤ sizeLine ∧ ∀ (p : Addr) (o : Obj), H1 p = none → o.dict = none → Q (.ref p) (upd H1 p (.frz o (.tup xs)))
theorem pe_tupP {x1} {t : TA} (h : PA X es t) : PE X (.Tuple es x1 pos) (tTupP t) := by
  refine ⟨fun pins s σ H Q I w => ?_⟩
  refine wpAny_Tuple_spliced (thn (h.run pos pins s σ H _ I w) fun us s1 ⟨vs, H1, I1, rv, hz, q⟩ => ⟨Nat.le_trans (Nat.le_of_eq rv.length.symm) hz, ?_⟩)
  exact ⟨.ref s1.heap.objs.size, _, laidP (tk := s1.toks) I1 (fun b o e => Heap.get?_push_of_some _ e) (Nat.le_refl _) (Heap.get?_push_size _ rfl) rv hz, rfl, q _ (obT us) (I1.hok.fresh (Nat.le_refl _)) rfl⟩
theorem de_tup {x1} (h : PA X es (liftA X.K t)) : PE X (.Tuple es x1 pos) (liftE X.K (dTup t)) :=
  pe_mono (pe_tupP h) fun σ H Q ⟨A, ρ, S, post, n, s, p, k⟩ => ⟨A, ρ, S, _, n, s, p, fun vs H1 A1 ds S1 e1 s1 r1 ⟨hl, p1⟩ => ⟨by rw [r1.len]; exact le_line hl, fun a o ha ho =>
    let ⟨e2, s2⟩ := relS_tup (o := .frz o (.tup vs)) s1 ha
    k (.ref a) (upd H1 a (.frz o (.tup vs))) A1 (.tup ds) S1 (e1.trans e2) s2 ⟨a, vs, rfl, .inl ⟨o, upd_same, ho⟩, r1.ext e2⟩ p1⟩⟩
theorem de_lst (h : PA X es (liftA X.K t)) : PE X (.List es pos) (liftE X.K (dLst t)) :=
  pe_mono (pe_lst h) fun σ H Q ⟨A, ρ, S, post, n, s, p, k⟩ => ⟨A, ρ, S, _, n, s, p, fun vs H1 A1 ds S1 e1 s1 r1 ⟨hl, p1⟩ => ⟨by rw [r1.len]; exact le_line hl, fun a ha => by
    have e2 : Ext H1 A1 (upd H1 a (.lst vs)) (A1 ++ [a]) := ext_new s1 ha
    refine k (.ref a) (upd H1 a (.lst vs)) (A1 ++ [a]) (.lr S1.length) (S1 ++ [.lst ds]) (e1.trans e2) (s1.new (o := .lst vs) (en := .lst ds) ha ⟨vs, upd_same, r1.ext e2⟩) ⟨a, rfl, ?_⟩ p1
    rw [s1.len, List.getElem?_append_right (Nat.le_refl _), Nat.sub_self]
    rfl⟩⟩
theorem lift_CB {K : PySem.W.Frag} {rd : DC} {r : List V → Hp → VK → Prop} (hr : RulC K rd r) {σ : L2.St} {H : Hp} {Q : VK} : liftE K (dCB rd t) σ H Q → tCB r (liftA K t) σ H Q := by
  rintro ⟨A, ρ, S, post, n, s, p, k⟩
  exact ⟨A, ρ, S, _, n, s, p, fun vs H1 A1 ds S1 e1 s1 r1 p1 => hr H1 A1 S1 ds vs post Q s1 r1 p1 (k.go e1)⟩
theorem de_callB {x : Str} {p : Pos} {id : String} {rd : DC} {r : List V → Hp → VK → Prop} (hc : CallR X (.builtin id) r) (hr : RulC X.K rd r) (hg : Gl X x) (hm : X.mg x = none) (hv : bootBuiltins x = some (.builtin id)) (ha : PA X (e :: es) (liftA X.K t))
    (hdb : (x == ("__debug__" : Str)) = false := by decide) (hn : x ≠ "__name__" := by decide) (he : starEach (e :: es) X.env = (false, eval e X.env) :: starEach es X.env := by rfl) (hpl : (backTo pos (starEach es X.env)).any (·.1) = false := by rfl) :
    PE X (.Call (.Name x p) (e :: es) [] pos) (liftE X.K (dCB rd t)) := pe_mono (pe_callB hc hg hm hv ha hn hdb he hpl) fun _ _ _ => lift_CB hr
theorem de_callTy {x : Str} {p : Pos} {T : String} {rd : DC} {r : List V → Hp → VK → Prop} (hc : CallR X (.type T) r) (hr : RulC X.K rd r) (hg : Gl X x) (hm : X.mg x = none) (hv : bootBuiltins x = some (.type T)) (ha : PA X (e :: es) (liftA X.K t))
    (hdb : (x == ("__debug__" : Str)) = false := by decide) (hn : x ≠ "__name__" := by decide) (he : starEach (e :: es) X.env = (false, eval e X.env) :: starEach es X.env := by rfl) (hpl : (backTo pos (starEach es X.env)).any (·.1) = false := by rfl) :
    PE X (.Call (.Name x p) (e :: es) [] pos) (liftE X.K (dCB rd t)) := pe_mono (pe_callTy hc hg hm hv ha hn hdb he hpl) fun _ _ _ => lift_CB hr
end
end DL
/-! DN: operators, tests, statements over data. -/
namespace DL
open PySem PySem.Spec PyProof.Rows L2
variable [HasT]

/-! ### data as the library's data -/
mutual
def plain : D → Bool
  | .lr _ => false
  | .tup ds => plains ds
  | .rl ds => plains ds
  | .ztup _ => false
  | .exc _ _ _ _ => false
  | .opq _ => false
  | _ => true
def plains : List D → Bool
  | [] => true
  | d :: ds => plain d && plains ds
end
mutual
def toP : D → PyData
  | .non => .none
  | .bl b => .bool b
  | .int i => .int i
  | .str x => .str x
  | .tup ds => .tuple (toPs ds)
  | .rl ds => .list (toPs ds)
  | .lr _ => .none
  | .ztup _ => .none
  | .exc _ _ _ _ => .none
  | .opq _ => .none
def toPs : List D → List PyData
  | [] => []
  | d :: ds => toP d :: toPs ds
end
/-- what a list of ours holds -/
def seqOf (S : Store) (x : D) (ds : List D) : Prop := x = .tup ds ∨ x = .rl ds ∨ ∃ n : Nat, x = .lr n ∧ S[n]? = some (.lst ds)
def dataOf (S : Store) (x : D) (p : PyData) : Prop := (plain x = true ∧ p = toP x) ∨ ∃ (n : Nat) (ds : List D), x = .lr n ∧ S[n]? = some (.lst ds) ∧ plains ds = true ∧ p = .list (toPs ds)
section
variable {K : PySem.W.Frag} {H : Hp} {A : List Addr}
mutual
theorem RelD.dp : ∀ {d : D} {v : V}, RelD K H A d v → plain d = true → Dp K H v (toP d)
  | .non, v, h, _ => by
    rw [show v = .non from h, toP]
    exact .non
  | .bl b, v, h, _ => by
    rw [show v = .bl b from h, toP]
    exact .bl b
  | .int i, v, h, _ => by
    rw [show v = .int i from h, toP]
    exact .int i
  | .str x, v, h, _ => by
    rw [show v = .str x from h, toP]
    exact .str x
  | .tup ds, v, ⟨a, vs, e, h2, h3⟩, p => by
    rw [e, toP]
    rw [plain] at p
    exact .tup h2.sq (RelDs.dp h3 p)
  | .rl ds, v, ⟨a, vs, e, h2, h3⟩, p => by
    rw [e, toP]
    rw [plain] at p
    exact .lst h2.sq (RelDs.dp h3 p)
  | .lr n, v, _, p => by
    rw [plain] at p
    cases p
  | .ztup ds, v, _, p => by
    rw [plain] at p
    cases p
  | .exc _ _ _ _, v, _, p => by
    rw [plain] at p
    cases p
  | .opq _, v, _, p => by
    rw [plain] at p
    cases p
theorem RelDs.dp : ∀ {ds : List D} {vs : List V}, RelDs K H A ds vs → plains ds = true → DpAll K H vs (toPs ds)
  | [], vs, h, _ => by
    rw [show vs = [] from h, toPs]
    exact .nil
  | d :: ds, vs, ⟨v, r, e, h2, h3⟩, p => by
    rw [plains, Bool.and_eq_true] at p
    rw [e, toPs]
    exact .cons (RelD.dp h2 p.1) (RelDs.dp h3 p.2)
end
theorem seqOf.rel {S : Store} {x : D} {ds : List D} {v : V} (s : RelS K H A S) (q : seqOf S x ds) (r : RelD K H A x v) : ∃ a vs, v = .ref a ∧ (SqL K H a vs ∨ SqT K H a vs) ∧ RelDs K H A ds vs := by
  rcases q with rfl | rfl | ⟨n, rfl, hn⟩
  · obtain ⟨a, vs, e, h2, h3⟩ := r
    exact ⟨a, vs, e, .inr h2.sq, h3⟩
  · obtain ⟨a, vs, e, h2, h3⟩ := r
    exact ⟨a, vs, e, .inl h2.sq, h3⟩
  · obtain ⟨a, e, ha⟩ := r
    obtain ⟨vs, h1, h2⟩ := s.get hn ha
    exact ⟨a, vs, e, .inl (.inl (.inl h1)), h2⟩
theorem dataOf.rel {S : Store} {x : D} {p : PyData} {v : V} (s : RelS K H A S) (q : dataOf S x p) (r : RelD K H A x v) : Dp K H v p := by
  rcases q with ⟨h, rfl⟩ | ⟨n, ds, rfl, hn, hp, rfl⟩
  · exact r.dp h
  · obtain ⟨a, e, ha⟩ := r
    obtain ⟨vs, h1, h2⟩ := s.get hn ha
    rw [e]
    exact .lst (.inl (.inl h1)) (h2.dp hp)
end

/-! ### ints -/
def o2I (C : Int → Int → Prop) (g : Int → Int → D) : D2 := fun x y S post => match x, y with
  | .int i, .int j => C i j ∧ post (g i j) S
  | _, _ => False
def o2J (g : Int → Int → D) : D2 := fun x y S post => match x, y with
  | .int i, .int j => post (g i j) S
  | _, _ => False
def o1J (g : Int → D) : D1 := fun x S post => match x with
  | .int i => post (g i) S
  | _ => False
section
variable {K : PySem.W.Frag}
theorem rul_2I {C : Int → Int → Prop} {g : Int → Int → D} {g' : Int → Int → V} (hg : ∀ K H A i j, RelD K H A (g i j) (g' i j)) : Rul2 K (o2I C g) (rI C g') := by
  intro H A S d1 d2 v1 v2 post Q s r1 r2 h k
  cases d1 <;> cases d2 <;> try exact False.elim h
  rename_i i j
  cases (show v1 = .int i from r1)
  cases (show v2 = .int j from r2)
  exact ⟨i, j, rfl, rfl, h.1, k.now s (hg _ _ _ _ _) h.2⟩
theorem rul_2J {g : Int → Int → D} {g' : Int → Int → V} (hg : ∀ K H A i j, RelD K H A (g i j) (g' i j)) : Rul2 K (o2J g) (rI0 g') := by
  intro H A S d1 d2 v1 v2 post Q s r1 r2 h k
  cases d1 <;> cases d2 <;> try exact False.elim h
  rename_i i j
  cases (show v1 = .int i from r1)
  cases (show v2 = .int j from r2)
  exact ⟨i, j, rfl, rfl, k.now s (hg _ _ _ _ _) h⟩
theorem rul_1J {g : Int → D} {g' : Int → V} (hg : ∀ K H A i, RelD K H A (g i) (g' i)) : Rul1 K (o1J g) (rU g') := by
  intro H A S d v post Q s r h k
  cases d <;> try exact False.elim h
  rename_i i
  cases (show v = .int i from r)
  exact ⟨i, rfl, k.now s (hg _ _ _ _) h⟩
/-- + -/
def oAdd : D2 := fun x y S post => match x, y with
  | .int i, .int j => post (.int (i + j)) S
  | .str a, .str b => a.length + b.length ≤ 100000 ∧ post (.str (a ++ b)) S
  | .lr n, .lr m => ∃ xs ys, S[n]? = some (.lst xs) ∧ S[m]? = some (.lst ys) ∧ xs.length + ys.length ≤ 100000 ∧ post (.lr S.length) (S ++ [.lst (xs ++ ys)])
  | _, _ => False
def rAdd3 : R2 := fun x y H Q => rI0 (fun i j => .int (i + j)) x y H Q ∨ (∃ i j, x = .str i ∧ y = .str j ∧ i.length + j.length ≤ sizeLine ∧ Q (.str (i ++ j)) H) ∨ rCat x y H Q
theorem op_add3 {X : Cx} : OpR X (binaryOp .Add) rAdd3 := OpR.or op_add (OpR.or op_add_str op_cat)
theorem relD_last {H : Hp} {S : Store} {A : List Addr} {p : Addr} {o : HO} (s : RelS K H A S) : RelD K (upd H p o) (A ++ [p]) (.lr S.length) (.ref p) := by
  refine ⟨p, rfl, ?_⟩
  rw [s.len, List.getElem?_append_right (Nat.le_refl _), Nat.sub_self]
  rfl
/-- a new list is told -/
theorem fin_list {H : Hp} {A : List Addr} {S : Store} {post : DK} {Q : VK} {p : Addr} {ds : List D} {vs : List V} (s : RelS K H A S) (k : KontE K H A post Q) (hp : H p = none) (r : RelDs K H A ds vs) (h : post (.lr S.length) (S ++ [.lst ds])) : Q (.ref p) (upd H p (.lst vs)) := by
  have e : Ext H A (upd H p (.lst vs)) (A ++ [p]) := ext_new s hp
  exact k (.ref p) _ (A ++ [p]) (.lr S.length) (S ++ [.lst ds]) e (s.new (o := .lst vs) (en := .lst ds) hp ⟨vs, upd_same, r.ext e⟩) (relD_last s) h
theorem fin_tup {H : Hp} {A : List Addr} {S : Store} {post : DK} {Q : VK} {p : Addr} {ds : List D} {vs : List V} (s : RelS K H A S) (k : KontE K H A post Q) {o : Obj} (hp : H p = none) (ho : o.dict = none) (r : RelDs K H A ds vs) (h : post (.tup ds) S) : Q (.ref p) (upd H p (.frz o (.tup vs))) := by
  obtain ⟨e, s2⟩ := relS_tup (o := .frz o (.tup vs)) s hp
  exact k (.ref p) _ A (.tup ds) S e s2 ⟨p, vs, rfl, .inl ⟨o, upd_same, ho⟩, r.ext e⟩ h
theorem rul_add : Rul2 K oAdd rAdd3 := by
  intro H A S d1 d2 v1 v2 post Q s r1 r2 h k
  cases d1 <;> cases d2 <;> try exact False.elim h
  · rename_i i j
    cases (show v1 = .int i from r1)
    cases (show v2 = .int j from r2)
    exact .inl ⟨i, j, rfl, rfl, k.now (d := .int (i + j)) s rfl h⟩
  · rename_i i j
    cases (show v1 = .str i from r1)
    cases (show v2 = .str j from r2)
    exact .inr (.inl ⟨i, j, rfl, rfl, le_line h.1, k.now (d := .str (i ++ j)) s rfl h.2⟩)
  · obtain ⟨xs, ys, h1, h2, hl, p⟩ := h
    obtain ⟨a, e1, ha⟩ := r1
    obtain ⟨b, e2, hb⟩ := r2
    obtain ⟨us, g1, w1⟩ := s.get h1 ha
    obtain ⟨ws, g2, w2⟩ := s.get h2 hb
    exact .inr (.inr ⟨a, b, us, ws, e1, e2, g1, g2, by rw [w1.len, w2.len]; exact le_line hl, fun q hq => fin_list s k hq (w1.append w2) p⟩)
/-- xs[i] -/
def oIx : D2 := fun x y S post => ∃ ds i d, seqOf S x ds ∧ y = .int i ∧ atI ds i = some d ∧ post d S
theorem RelDs.atI {H : Hp} {A : List Addr} {ds : List D} {vs : List V} {i : Int} {d : D} (r : RelDs K H A ds vs) (h : L2.atI ds i = some d) : ∃ v, L2.atI vs i = some v ∧ RelD K H A d v := by
  have hl := r.len
  unfold L2.atI at h ⊢
  rw [hl]
  cases q : ixN ds.length i with
  | none =>
    rw [q] at h
    cases h
  | some j =>
    rw [q] at h
    exact r.get h
theorem rul_ix : Rul2 K oIx (rIx K) := by
  intro H A S d1 d2 v1 v2 post Q s r1 r2 ⟨ds, i, d, hq, hi, he, p⟩ k
  subst hi
  cases (show v2 = .int i from r2)
  obtain ⟨a, vs, rfl, hs, w⟩ := hq.rel s r1
  obtain ⟨v, hv, rv⟩ := w.atI he
  rcases hs with hs | hs
  · exact .inl ⟨a, vs, i, v, rfl, rfl, hs, hv, k.now s rv p⟩
  · exact .inr (.inl ⟨a, vs, i, v, rfl, rfl, hs, hv, k.now s rv p⟩)
/-- ==, != -/
def oEq (neg : Bool) : D2 := fun x y S post => match x, y with
  | .int i, .int j => post (.bl (neg ^^ decide (i = j))) S
  | .str i, .str j => post (.bl (neg ^^ decide (i = j))) S
  | .bl i, .bl j => post (.bl (neg ^^ decide (i = j))) S
  | x, y => ∃ p q, dataOf S x p ∧ dataOf S y q ∧ SeqAt.shaped p = true ∧ SeqAt.shaped q = true ∧ post (.bl (neg ^^ PyData.eqv p q)) S
def rEq2 (K : PySem.W.Frag) : R2 := fun x y H Q => rEq x y H Q ∨ rEqD K x y H Q
def rNe2 (K : PySem.W.Frag) : R2 := fun x y H Q => rNe x y H Q ∨ rNeD K x y H Q
theorem op_eq2 {X : Cx} (hu : X.A.units + 64 < cLine) : OpR X (compareOp .Eq) (rEq2 X.K) := OpR.or op_eq (op_eqD hu)
theorem op_ne2 {X : Cx} (hu : X.A.units + 64 < cLine) : OpR X (compareOp .NotEq) (rNe2 X.K) := OpR.or op_ne (op_neD hu)
theorem fin_bool {H : Hp} {A : List Addr} {S : Store} {post : DK} {Q : VK} {b c : Bool} (s : RelS K H A S) (k : KontE K H A post Q) (h : post (.bl b) S) (e : b = c) : Q (.bl c) H := by
  subst e
  exact k.now (d := .bl b) s rfl h
theorem rul_eq : Rul2 K (oEq false) (rEq2 K) := by
  intro H A S d1 d2 v1 v2 post Q s r1 r2 h k
  by_cases c : (∃ i j, d1 = .int i ∧ d2 = .int j) ∨ (∃ i j, d1 = .str i ∧ d2 = .str j) ∨ (∃ i j, d1 = .bl i ∧ d2 = .bl j)
  · rcases c with ⟨i, j, rfl, rfl⟩ | ⟨i, j, rfl, rfl⟩ | ⟨i, j, rfl, rfl⟩
    · cases (show v1 = .int i from r1)
      cases (show v2 = .int j from r2)
      exact .inl ⟨rfl, fin_bool s k h (by simp)⟩
    · cases (show v1 = .str i from r1)
      cases (show v2 = .str j from r2)
      exact .inl ⟨rfl, fin_bool s k h (by simp)⟩
    · cases (show v1 = .bl i from r1)
      cases (show v2 = .bl j from r2)
      exact .inl ⟨rfl, fin_bool s k h (by simp)⟩
  · have h' : ∃ p q, dataOf S d1 p ∧ dataOf S d2 q ∧ SeqAt.shaped p = true ∧ SeqAt.shaped q = true ∧ post (.bl (false ^^ PyData.eqv p q)) S := by
      unfold oEq at h
      split at h
      · exact absurd (.inl ⟨_, _, rfl, rfl⟩) c
      · exact absurd (.inr (.inl ⟨_, _, rfl, rfl⟩)) c
      · exact absurd (.inr (.inr ⟨_, _, rfl, rfl⟩)) c
      · exact h
    obtain ⟨p, q, h1, h2, g1, g2, hp⟩ := h'
    exact .inr ⟨p, q, h1.rel s r1, h2.rel s r2, g1, g2, fin_bool s k hp (by simp)⟩
theorem rul_ne : Rul2 K (oEq true) (rNe2 K) := by
  intro H A S d1 d2 v1 v2 post Q s r1 r2 h k
  by_cases c : (∃ i j, d1 = .int i ∧ d2 = .int j) ∨ (∃ i j, d1 = .str i ∧ d2 = .str j) ∨ (∃ i j, d1 = .bl i ∧ d2 = .bl j)
  · rcases c with ⟨i, j, rfl, rfl⟩ | ⟨i, j, rfl, rfl⟩ | ⟨i, j, rfl, rfl⟩
    · cases (show v1 = .int i from r1)
      cases (show v2 = .int j from r2)
      exact .inl ⟨rfl, fin_bool s k h (by simp)⟩
    · cases (show v1 = .str i from r1)
      cases (show v2 = .str j from r2)
      exact .inl ⟨rfl, fin_bool s k h (by simp)⟩
    · cases (show v1 = .bl i from r1)
      cases (show v2 = .bl j from r2)
      exact .inl ⟨rfl, fin_bool s k h (by simp)⟩
  · have h' : ∃ p q, dataOf S d1 p ∧ dataOf S d2 q ∧ SeqAt.shaped p = true ∧ SeqAt.shaped q = true ∧ post (.bl (true ^^ PyData.eqv p q)) S := by
      unfold oEq at h
      split at h
      · exact absurd (.inl ⟨_, _, rfl, rfl⟩) c
      · exact absurd (.inr (.inl ⟨_, _, rfl, rfl⟩)) c
      · exact absurd (.inr (.inr ⟨_, _, rfl, rfl⟩)) c
      · exact h
    obtain ⟨p, q, h1, h2, g1, g2, hp⟩ := h'
    exact .inr ⟨p, q, h1.rel s r1, h2.rel s r2, g1, g2, fin_bool s k hp (by simp)⟩
/-- is None, is not None -/
def oIsN (neg : Bool) : D2 := fun x y S post => match y with
  | .non => post (.bl (neg ^^ (match x with | .non => true | _ => false))) S
  | _ => False
theorem isNon_rel {H : Hp} {A : List Addr} : ∀ {d : D} {v : V}, RelD K H A d v → decide (v = .non) = (match d with | .non => true | _ => false)
  | .non, v, h => by
    rw [show v = .non from h]
    rfl
  | .bl b, v, h => by
    rw [show v = .bl b from h]
    rfl
  | .int i, v, h => by
    rw [show v = .int i from h]
    rfl
  | .str x, v, h => by
    rw [show v = .str x from h]
    rfl
  | .tup _, v, ⟨a, vs, e, _⟩ => by
    rw [e]
    rfl
  | .ztup _, v, ⟨a, vs, e, _⟩ => by
    rw [e]
    rfl
  | .rl _, v, ⟨a, vs, e, _⟩ => by
    rw [e]
    rfl
  | .lr _, v, ⟨a, e, _⟩ => by
    rw [e]
    rfl
  | .exc _ _ _ _, v, ⟨e, _⟩ => by
    rw [e]
    rfl
  | .opq _, v, ⟨a, e, _⟩ => by
    rw [e]
    rfl
theorem rul_isN : Rul2 K (oIsN false) (fun x y H Q => y = .non ∧ Q (.bl (decide (x = .non))) H) := by
  intro H A S d1 d2 v1 v2 post Q s r1 r2 h k
  cases d2 <;> try exact False.elim h
  cases (show v2 = .non from r2)
  exact ⟨rfl, fin_bool s k h (by rw [isNon_rel r1, Bool.false_xor])⟩
theorem rul_notN : Rul2 K (oIsN true) (fun x y H Q => y = .non ∧ Q (.bl (!decide (x = .non))) H) := by
  intro H A S d1 d2 v1 v2 post Q s r1 r2 h k
  cases d2 <;> try exact False.elim h
  cases (show v2 = .non from r2)
  exact ⟨rfl, fin_bool s k h (by rw [isNon_rel r1, Bool.true_xor])⟩

/-! ### built-ins -/
def cLen : DC := fun ds S post => ∃ x xs, ds = [x] ∧ seqOf S x xs ∧ post (.int xs.length) S
theorem rels1 {H : Hp} {A : List Addr} {d : D} {vs : List V} (r : RelDs K H A [d] vs) : ∃ v, vs = [v] ∧ RelD K H A d v := by
  obtain ⟨v, w, rfl, h1, h2⟩ := r
  exact ⟨v, by rw [show w = [] from h2], h1⟩
theorem rels2 {H : Hp} {A : List Addr} {d e : D} {vs : List V} (r : RelDs K H A [d, e] vs) : ∃ v u, vs = [v, u] ∧ RelD K H A d v ∧ RelD K H A e u := by
  obtain ⟨v, w, rfl, h1, h2⟩ := r
  obtain ⟨u, rfl, h3⟩ := rels1 h2
  exact ⟨v, u, rfl, h1, h3⟩
theorem rul_len : RulC K cLen (fun xs H Q => ∃ p ys, xs = [.ref p] ∧ (SqL K H p ys ∨ SqT K H p ys) ∧ Q (.int ys.length) H) := by
  intro H A S ds vs post Q s r hh k
  obtain ⟨x, xs, rfl, hq, h⟩ := hh
  obtain ⟨v, rfl, rv⟩ := rels1 r
  obtain ⟨a, us, rfl, hs, w⟩ := hq.rel s rv
  exact ⟨a, us, rfl, hs, by rw [w.len]; exact k.now (d := .int xs.length) s rfl h⟩
def c2I (g : Int → Int → Int) : DC := fun ds S post => ∃ i j, ds = [.int i, .int j] ∧ post (.int (g i j)) S
theorem rul_2c {g : Int → Int → Int} : RulC K (c2I g) (fun xs H Q => ∃ i j, xs = [.int i, .int j] ∧ Q (.int (g i j)) H) := by
  intro H A S ds vs post Q s r ⟨i, j, hd, h⟩ k
  subst hd
  obtain ⟨v, u, rfl, rv, ru⟩ := rels2 r
  cases (show v = .int i from rv)
  cases (show u = .int j from ru)
  exact ⟨i, j, rfl, k.now (d := .int (g i j)) s rfl h⟩
def cInt : DC := fun ds S post => (∃ i, ds = [.int i] ∧ post (.int i) S) ∨ ∃ b, ds = [.bl b] ∧ post (.int (if b then 1 else 0)) S
theorem rul_int : RulC K cInt (fun xs H Q => (∃ i, xs = [.int i] ∧ Q (.int i) H) ∨ ∃ b, xs = [.bl b] ∧ Q (.int (if b then 1 else 0)) H) := by
  intro H A S ds vs post Q s r h k
  rcases h with ⟨i, rfl, h⟩ | ⟨b, rfl, h⟩
  · obtain ⟨v, rfl, rv⟩ := rels1 r
    cases (show v = .int i from rv)
    exact .inl ⟨i, rfl, k.now (d := .int i) s rfl h⟩
  · obtain ⟨v, rfl, rv⟩ := rels1 r
    cases (show v = .bl b from rv)
    exact .inr ⟨b, rfl, k.now (d := .int (if b then 1 else 0)) s rfl h⟩
def cTuple : DC := fun ds S post => ∃ x xs, ds = [x] ∧ seqOf S x xs ∧ post (.tup xs) S
def rTupleP (K : PySem.W.Frag) : List V → Hp → VK → Prop := fun xs H Q => ∃ p ys, xs = [.ref p] ∧ ((SqL K H p ys ∧ ∀ (l : Addr) (o : Obj), H l = none → o.dict = none → Q (.ref l) (upd H l (.frz o (.tup ys)))) ∨ (SqT K H p ys ∧ Q (.ref p) H))
theorem call_tupleP {X : Cx} : CallR X (.type "tuple") (rTupleP X.K) := by
  intro pins s σ H xs us Q I r ⟨p, ys, e, h⟩
  subst e
  obtain ⟨u, rfl, rx⟩ := vals1 r
  obtain rfl : u = Value.ref p := rx
  rcases h with ⟨hq, q⟩ | ⟨hq, q⟩
  · obtain ⟨its, rv, pl, hz⟩ := I.list hq
    refine call_tuple_list pl.isList (fun h' kp => ?_) (by have := rv.length; simp only [List.size_toArray]; omega)
    have I1 : Inv X pins σ H { s with heap := h' } := I.kept (t' := s.toks) kp
    exact ⟨.ref h'.objs.size, _, laidP (s := { s with heap := h' }) (tk := s.toks) I1 (fun b o e => Heap.get?_push_of_some _ e) (Nat.le_refl _) (Heap.get?_push_size _ rfl) rv hz, rfl, q _ (obT its) (I1.hok.fresh (Nat.le_refl _)) rfl⟩
  · obtain ⟨its, rv, pl, hz⟩ := I.tuple hq
    exact call_tuple_same pl ⟨.ref p, H, I, rfl, q⟩
theorem rul_tuple : RulC K cTuple (rTupleP K) := by
  intro H A S ds vs post Q s r hh k
  obtain ⟨x, xs, rfl, hq, h⟩ := hh
  obtain ⟨v, rfl, rv⟩ := rels1 r
  by_cases ht : ∃ ds, x = .tup ds
  · obtain ⟨ds, rfl⟩ := ht
    have e : ds = xs := by simpa [seqOf] using hq
    subst e
    obtain ⟨a, us, rfl, hs, w⟩ := rv
    exact ⟨a, us, rfl, .inr ⟨hs.sq, k.now (d := .tup ds) s ⟨a, us, rfl, hs, w⟩ h⟩⟩
  · have hL : ∃ a us, v = .ref a ∧ SqL K H a us ∧ RelDs K H A xs us := by
      rcases hq with rfl | rfl | ⟨n, rfl, hn⟩
      · exact absurd ⟨_, rfl⟩ ht
      · obtain ⟨a, us, e, h2, h3⟩ := rv
        exact ⟨a, us, e, h2.sq, h3⟩
      · obtain ⟨a, e, ha⟩ := rv
        obtain ⟨us, h1, h2⟩ := s.get hn ha
        exact ⟨a, us, e, .inl (.inl h1), h2⟩
    obtain ⟨a, us, rfl, hs, w⟩ := hL
    exact ⟨a, us, rfl, .inl ⟨hs, fun l o hl ho => fin_tup s k hl ho w h⟩⟩
def cList : DC := fun ds S post => ∃ x xs, ds = [x] ∧ seqOf S x xs ∧ post (.lr S.length) (S ++ [.lst xs])
theorem rul_list : RulC K cList (fun xs H Q => ∃ p ys, xs = [.ref p] ∧ (SqL K H p ys ∨ SqT K H p ys) ∧ ∀ l, H l = none → Q (.ref l) (upd H l (.lst ys))) := by
  intro H A S ds vs post Q s r hh k
  obtain ⟨x, xs, rfl, hq, h⟩ := hh
  obtain ⟨v, rfl, rv⟩ := rels1 r
  obtain ⟨a, us, rfl, hs, w⟩ := hq.rel s rv
  exact ⟨a, us, rfl, hs, fun l hl => fin_list s k hl w h⟩
end
end DL
/-! DO: tests, statements, targets, loops, comprehensions over data. -/
namespace DL
open PySem PySem.Spec PyProof.Rows L2
variable [HasT]

/-! ### less is known -/
section
variable {K : PySem.W.Frag} {H H' : Hp} {A B : List Addr}
theorem keep_t (k : ∀ a o, H a = some o → ¬ MutO o → H' a = some o) {a : Addr} {xs : List V} (h : SqT K H a xs) : SqT K H' a xs := by
  rcases h with (h | ⟨o, h⟩) | h
  · exact .inl (.inl (k _ _ h nmut_tup))
  · exact .inl (.inr ⟨o, k _ _ h nmut_frz⟩)
  · exact .inr h
theorem keep_p (k : ∀ a o, H a = some o → ¬ MutO o → H' a = some o) {a : Addr} {xs : List V} (h : PTup K H a xs) : PTup K H' a xs := by
  rcases h with ⟨o, h, hd⟩ | h
  · exact .inl ⟨o, k _ _ h nmut_frz, hd⟩
  · exact .inr h
theorem keep_f (k : ∀ a o, H a = some o → ¬ MutO o → H' a = some o) {a : Addr} {xs : List V} (h : FixL K H a xs) : FixL K H' a xs := by
  rcases h with ⟨o, h⟩ | h
  · exact .inl ⟨o, k _ _ h nmut_frz⟩
  · exact .inr h
mutual
theorem RelD.keep (k : ∀ a o, H a = some o → ¬ MutO o → H' a = some o) : ∀ {d : D} {v : V}, RelD K H A d v → RelD K H' (A ++ B) d v
  | .non, _, h => h
  | .bl _, _, h => h
  | .int _, _, h => h
  | .str _, _, h => h
  | .tup _, _, ⟨a, vs, h1, h2, h3⟩ => ⟨a, vs, h1, keep_p k h2, RelDs.keep k h3⟩
  | .ztup _, _, ⟨a, vs, h1, h2, h3⟩ => ⟨a, vs, h1, keep_t k h2, RelDs.keep k h3⟩
  | .rl _, _, ⟨a, vs, h1, h2, h3⟩ => ⟨a, vs, h1, keep_f k h2, RelDs.keep k h3⟩
  | .lr _, _, ⟨a, h1, h2⟩ => ⟨a, h1, by
      rw [List.getElem?_append_left (List.getElem?_eq_some_iff.mp h2).1]
      exact h2⟩
  | .exc _ _ _ _, _, ⟨h1, u, h2, h3⟩ => ⟨h1, u, k _ _ h2 nmut_xd, RelD.keep k h3⟩
  | .opq _, _, ⟨a, h1, h2, h3⟩ => ⟨a, h1, h3 _ _ a (fun b o q n => k b o q n) h2, h3⟩
theorem RelDs.keep (k : ∀ a o, H a = some o → ¬ MutO o → H' a = some o) : ∀ {ds : List D} {vs : List V}, RelDs K H A ds vs → RelDs K H' (A ++ B) ds vs
  | [], _, h => h
  | _ :: _, _, ⟨v, r, h1, h2, h3⟩ => ⟨v, r, h1, RelD.keep k h2, RelDs.keep k h3⟩
end
theorem RelDs.keep0 (k : ∀ a o, H a = some o → ¬ MutO o → H' a = some o) {ds : List D} {vs : List V} (h : RelDs K H A ds vs) : RelDs K H' A ds vs := by
  have g := h.keep (B := []) k
  rwa [List.append_nil] at g
theorem RelE.keep (k : ∀ a o, H a = some o → ¬ MutO o → H' a = some o) {en : Ent} {a : Addr} (r : RelE K H A en a) (h : ∀ o, H a = some o → H' a = some o) : RelE K H' (A ++ B) en a := by
  cases en with
  | lst ds =>
    obtain ⟨vs, h1, h2⟩ := r
    exact ⟨vs, h _ h1, h2.keep k⟩
  | dct kvs =>
    obtain ⟨ws, h1, h2, h3⟩ := r
    exact ⟨ws, h _ h1, h2, h3.keep k⟩
theorem keep_upd {p : Addr} {o o' : HO} (h : H p = some o) (m : MutO o) : ∀ a u, H a = some u → ¬ MutO u → upd H p o' a = some u := fun a u q n => by
  have e : a ≠ p := fun z => by
    subst z
    rw [h] at q
    cases q
    exact n m
  rw [upd_ne e]
  exact q
/-- a thing that is not in the store is changed -/
theorem RelS.out {S : Store} (s : RelS K H A S) {p : Addr} {o o' : HO} (hp : p ∉ A) (h : H p = some o) (m : LdO o) : RelS K (upd H p o') A S := by
  refine ⟨s.len, s.nd, fun n e hn => ?_, s.tabs.step fun b u q hn => by
    rw [upd_ne fun z => hn (by rw [z, h] at q; cases q; exact m)]
    exact q⟩
  obtain ⟨a, ha, r⟩ := s.ent n e hn
  have g := r.keep (B := []) (keep_upd (o' := o') h (.inl m)) fun u q => by
    have e : a ≠ p := fun z => by
      subst z
      exact hp (List.mem_iff_getElem?.mpr ⟨n, ha⟩)
    rw [upd_ne e]
    exact q
  rw [List.append_nil] at g
  exact ⟨a, ha, g⟩
theorem RelS.push {S : Store} (s : RelS K H A S) {p : Addr} {en : Ent} (hp : p ∉ A) (r : RelE K H (A ++ [p]) en p) : RelS K H (A ++ [p]) (S ++ [en]) := by
  refine ⟨by rw [List.length_append, List.length_append, s.len]; rfl, List.nodup_append.mpr ⟨s.nd, by simp, fun a ha b hb => ?_⟩, fun n en' hn => ?_, s.tabs⟩
  · rw [List.mem_singleton.mp hb]
    intro q
    rw [q] at ha
    exact hp ha
  · by_cases hl : n < S.length
    · rw [List.getElem?_append_left hl] at hn
      obtain ⟨a, ha, r'⟩ := s.ent n en' hn
      refine ⟨a, ?_, r'.keep (fun _ _ q _ => q) fun _ q => q⟩
      rw [List.getElem?_append_left (List.getElem?_eq_some_iff.mp ha).1]
      exact ha
    · have hn' : n = S.length := by
        have q := (List.getElem?_eq_some_iff.mp hn).1
        rw [List.length_append] at q
        simp at q
        omega
      subst hn'
      rw [List.getElem?_append_right (Nat.le_refl _), Nat.sub_self] at hn
      simp at hn
      subst hn
      refine ⟨p, ?_, r⟩
      rw [s.len, List.getElem?_append_right (Nat.le_refl _), Nat.sub_self]
      rfl
theorem Ext.out {A' : List Addr} (e : Ext H A H' A') {p : Addr} {o : HO} (h : H p = none) : Ext H A (upd H' p o) A' := by
  refine ⟨e.pre, fun a u q => ?_⟩
  have n : a ≠ p := ne_of_none q h
  rw [upd_ne n]
  exact e.keep a u q
end

/-! ### forgetting what is new -/
mutual
def below (n : Nat) : D → Bool
  | .lr k => decide (k < n)
  | .tup ds => belows n ds
  | .ztup ds => belows n ds
  | .rl ds => belows n ds
  | .exc _ _ _ w => below n w
  | _ => true
def belows (n : Nat) : List D → Bool
  | [] => true
  | d :: ds => below n d && belows n ds
end
def belowE (n : Nat) : Ent → Bool
  | .lst ds => belows n ds
  | .dct kvs => belows n (kvs.map (·.2))
section
variable {K : PySem.W.Frag} {H H' : Hp} {A A' : List Addr} {n : Nat}
mutual
theorem RelD.take : ∀ {d : D} {v : V}, RelD K H A d v → below n d = true → RelD K H (A.take n) d v
  | .non, _, h, _ => h
  | .bl _, _, h, _ => h
  | .int _, _, h, _ => h
  | .str _, _, h, _ => h
  | .tup ds, _, ⟨a, vs, h1, h2, h3⟩, b => ⟨a, vs, h1, h2, RelDs.takeA h3 (by rw [below] at b; exact b)⟩
  | .ztup ds, _, ⟨a, vs, h1, h2, h3⟩, b => ⟨a, vs, h1, h2, RelDs.takeA h3 (by rw [below] at b; exact b)⟩
  | .rl ds, _, ⟨a, vs, h1, h2, h3⟩, b => ⟨a, vs, h1, h2, RelDs.takeA h3 (by rw [below] at b; exact b)⟩
  | .lr k, _, ⟨a, h1, h2⟩, b => ⟨a, h1, by
      rw [below, decide_eq_true_eq] at b
      rw [List.getElem?_take, if_pos b]
      exact h2⟩
  | .exc _ _ _ w, _, ⟨h1, u, h2, h3⟩, b => ⟨h1, u, h2, RelD.take h3 (by rw [below] at b; exact b)⟩
  | .opq _, _, h, _ => h
theorem RelDs.takeA : ∀ {ds : List D} {vs : List V}, RelDs K H A ds vs → belows n ds = true → RelDs K H (A.take n) ds vs
  | [], _, h, _ => h
  | d :: ds, _, ⟨v, r, h1, h2, h3⟩, b => by
    rw [belows, Bool.and_eq_true] at b
    exact ⟨v, r, h1, RelD.take h2 b.1, RelDs.takeA h3 b.2⟩
end
theorem RelS.take {S : Store} (s : RelS K H A S) (b : (S.take n).all (belowE n) = true) : RelS K H (A.take n) (S.take n) := by
  refine ⟨by rw [List.length_take, List.length_take, s.len], s.nd.sublist (List.take_sublist _ _), fun i e hi => ?_, s.tabs⟩
  have b' : belowE n e = true := List.all_eq_true.mp b e (List.mem_iff_getElem?.mpr ⟨i, hi⟩)
  rw [List.getElem?_take] at hi
  by_cases hin : i < n
  · rw [if_pos hin] at hi
    obtain ⟨a, ha, r⟩ := s.ent i e hi
    refine ⟨a, by rw [List.getElem?_take, if_pos hin]; exact ha, ?_⟩
    cases e with
    | lst ds =>
      obtain ⟨vs, h1, h2⟩ := r
      exact ⟨vs, h1, h2.takeA b'⟩
    | dct kvs =>
      obtain ⟨ws, h1, h2, h3⟩ := r
      exact ⟨ws, h1, h2, h3.takeA b'⟩
  · rw [if_neg hin] at hi
    cases hi
theorem Ext.take (e : Ext H A H' A') (h : A.length ≤ n) : Ext H A H' (A'.take n) := by
  obtain ⟨B, rfl, f⟩ := e.pre
  refine ⟨⟨B.take (n - A.length), ?_, fun b hb => f b (List.mem_of_mem_take hb)⟩, e.keep⟩
  rw [List.take_append, List.take_of_length_le h]
end
def dGc (te : DE) : DE := fun ρ S post => te ρ S fun d S1 => ∃ n, S.length ≤ n ∧ below n d = true ∧ (S1.take n).all (belowE n) = true ∧ post d (S1.take n)
section
variable {X : Cx} {e : Expr} {te : DE}
theorem de_gc (h : PE X e (liftE X.K te)) : PE X e (liftE X.K (dGc te)) :=
  pe_mono h fun σ H Q ⟨A, ρ, S, post, n, s, p, k⟩ => ⟨A, ρ, S, _, n, s, p, fun v1 H1 A1 d1 S1 e1 s1 r1 ⟨m, hm, b1, b2, p1⟩ =>
    k v1 H1 (A1.take m) d1 (S1.take m) (e1.take (by rw [← s.len]; exact hm)) (s1.take b2) (r1.take b1) p1⟩
end

/-! ### tests -/
def asB (d : D) (f : Bool → Prop) : Prop := match d with
  | .bl k => f k
  | _ => False
def dTest (te : DE) : DT := fun ρ S post => te ρ S fun d S1 => asB d fun k => post k S1
def dAnd (t u : DT) : DT := fun ρ S post => t ρ S fun c S1 => if c = true then u ρ S1 post else post false S1
def dOr (t u : DT) : DT := fun ρ S post => t ρ S fun c S1 => if c = true then post true S1 else u ρ S1 post
def dNot (t : DT) : DT := fun ρ S post => t ρ S fun c S1 => post (!c) S1
def dAndV (ta tb : DE) : DE := fun ρ S post => ta ρ S fun d S1 => asB d fun c => if c = true then tb ρ S1 post else post (.bl false) S1
def dOrV (ta tb : DE) : DE := fun ρ S post => ta ρ S fun d S1 => asB d fun c => if c = true then post (.bl true) S1 else tb ρ S1 post
def dNotV (ta : DE) : DE := fun ρ S post => ta ρ S fun d S1 => asB d fun c => post (.bl (!c)) S1
def dIf (t : DT) (ta tb : DE) : DE := fun ρ S post => t ρ S fun c S1 => if c = true then ta ρ S1 post else tb ρ S1 post
section
variable {X : Cx} {pos : Pos} {a b : Expr} {rest : List Expr} {te ta tb : DE} {t u : DT}
theorem asB_elim {K : PySem.W.Frag} {H : Hp} {A : List Addr} {d : D} {v : V} {f : Bool → Prop} (r : RelD K H A d v) (h : asB d f) : ∃ k, v = .bl k ∧ d = .bl k ∧ f k := by
  cases d <;> try exact False.elim h
  rename_i k
  exact ⟨k, r, rfl, h⟩
theorem lift_test {K : PySem.W.Frag} {σ : L2.St} {H : Hp} {Q : Bool → Hp → Prop} : liftT K (dTest te) σ H Q → liftE K te σ H (fun x H' => ∃ k, x = .bl k ∧ Q k H') := by
  rintro ⟨A, ρ, S, post, n, s, p, k⟩
  refine ⟨A, ρ, S, _, n, s, p, fun v1 H1 A1 d1 S1 e1 s1 r1 p1 => ?_⟩
  obtain ⟨c, rfl, rfl, h⟩ := asB_elim r1 p1
  exact ⟨c, rfl, k c H1 A1 S1 e1 s1 h⟩
theorem dt_cmp {op : CmpOp} {rd : D2} {r : R2} (ho : OpR X (compareOp op) r) (hr : Rul2 X.K rd r) (ha : PE X a (liftE X.K ta)) (hb : PE X b (liftE X.K tb)) (hm : behindInMarks op b = false) : PT X (.Compare a [op] [b] pos) (liftT X.K (dTest (dOp rd ta tb))) :=
  pt_mono (pt_cmpR ho ha hb hm) fun _ _ _ h => lift_op hr (Q := fun x H' => ∃ k, x = .bl k ∧ _) (lift_test h)
theorem dt_val {e : Expr} (h : PE X e (liftE X.K te)) (he : ∀ whole, isTrue e X.env whole = (do let v ← whole; standAt e.pos; holding [v] (truthy v)) := by intro _; rfl) : PT X e (liftT X.K (dTest te)) :=
  pt_mono (pt_val h he) fun _ _ _ h => lift_test h
theorem dt_not (h : PT X a (liftT X.K t)) : PT X (.UnaryOp .Not a pos) (liftT X.K (dNot t)) :=
  pt_mono (pt_not h) fun σ H Q ⟨A, ρ, S, post, n, s, p, k⟩ => ⟨A, ρ, S, _, n, s, p, fun c H1 A1 S1 e1 s1 p1 => k (!c) H1 A1 S1 e1 s1 p1⟩
theorem dw_and1 (h : PT X a (liftT X.K t)) : PW X (.BoolOp .And [a] pos) (liftT X.K t) := pw_and1 h
theorem dw_or1 (h : PT X a (liftT X.K t)) : PW X (.BoolOp .Or [a] pos) (liftT X.K t) := pw_or1 h
theorem dw_and (h : PT X a (liftT X.K t)) (g : PW X (.BoolOp .And (b :: rest) pos) (liftT X.K u)) : PW X (.BoolOp .And (a :: b :: rest) pos) (liftT X.K (dAnd t u)) :=
  pw_mono (pw_and h g) fun σ H Q ⟨A, ρ, S, post, n, s, p, k⟩ => ⟨A, ρ, S, _, n, s, p, fun c H1 A1 S1 e1 s1 p1 => by
    cases c with
    | true => exact ⟨A1, ρ, S1, post, n.ext e1, s1, p1, fun c2 H2 A2 S2 e2 s2 p2 => k c2 H2 A2 S2 (e1.trans e2) s2 p2⟩
    | false => exact k false H1 A1 S1 e1 s1 p1⟩
theorem dw_or (h : PT X a (liftT X.K t)) (g : PW X (.BoolOp .Or (b :: rest) pos) (liftT X.K u)) : PW X (.BoolOp .Or (a :: b :: rest) pos) (liftT X.K (dOr t u)) :=
  pw_mono (pw_or h g) fun σ H Q ⟨A, ρ, S, post, n, s, p, k⟩ => ⟨A, ρ, S, _, n, s, p, fun c H1 A1 S1 e1 s1 p1 => by
    cases c with
    | true => exact k true H1 A1 S1 e1 s1 p1
    | false => exact ⟨A1, ρ, S1, post, n.ext e1, s1, p1, fun c2 H2 A2 S2 e2 s2 p2 => k c2 H2 A2 S2 (e1.trans e2) s2 p2⟩⟩
theorem de_one {op} (h : PE X a (liftE X.K ta)) : PE X (.BoolOp op [a] pos) (liftE X.K ta) := pe_one h
theorem de_and (ha : PE X a (liftE X.K ta)) (hb : PE X (.BoolOp .And (b :: rest) pos) (liftE X.K tb)) : PE X (.BoolOp .And (a :: b :: rest) pos) (liftE X.K (dAndV ta tb)) :=
  pe_mono (pe_and ha hb) fun σ H Q ⟨A, ρ, S, post, n, s, p, k⟩ => ⟨A, ρ, S, _, n, s, p, fun v1 H1 A1 d1 S1 e1 s1 r1 p1 => by
    obtain ⟨c, rfl, rfl, h⟩ := asB_elim r1 p1
    refine ⟨c, rfl, ?_⟩
    cases c with
    | true => exact ⟨A1, ρ, S1, post, n.ext e1, s1, h, k.go e1⟩
    | false => exact (k.go e1).now (d := .bl false) s1 rfl h⟩
theorem de_or (ha : PE X a (liftE X.K ta)) (hb : PE X (.BoolOp .Or (b :: rest) pos) (liftE X.K tb)) : PE X (.BoolOp .Or (a :: b :: rest) pos) (liftE X.K (dOrV ta tb)) :=
  pe_mono (pe_or ha hb) fun σ H Q ⟨A, ρ, S, post, n, s, p, k⟩ => ⟨A, ρ, S, _, n, s, p, fun v1 H1 A1 d1 S1 e1 s1 r1 p1 => by
    obtain ⟨c, rfl, rfl, h⟩ := asB_elim r1 p1
    refine ⟨c, rfl, ?_⟩
    cases c with
    | false => exact ⟨A1, ρ, S1, post, n.ext e1, s1, h, k.go e1⟩
    | true => exact (k.go e1).now (d := .bl true) s1 rfl h⟩
theorem de_not (ha : PE X a (liftE X.K ta)) : PE X (.UnaryOp .Not a pos) (liftE X.K (dNotV ta)) :=
  pe_mono (pe_not ha) fun σ H Q ⟨A, ρ, S, post, n, s, p, k⟩ => ⟨A, ρ, S, _, n, s, p, fun v1 H1 A1 d1 S1 e1 s1 r1 p1 => by
    obtain ⟨c, rfl, rfl, h⟩ := asB_elim r1 p1
    exact ⟨c, rfl, (k.go e1).now (d := .bl (!c)) s1 rfl h⟩⟩
theorem de_ifExp {c : Expr} (hc : PT X c (liftT X.K t)) (ha : PE X a (liftE X.K ta)) (hb : PE X b (liftE X.K tb)) : PE X (.IfExp c a b pos) (liftE X.K (dIf t ta tb)) :=
  pe_mono (pe_ifExp hc ha hb) fun σ H Q ⟨A, ρ, S, post, n, s, p, k⟩ => ⟨A, ρ, S, _, n, s, p, fun c H1 A1 S1 e1 s1 p1 => by
    cases c with
    | true => exact ⟨A1, ρ, S1, post, n.ext e1, s1, p1, k.go e1⟩
    | false => exact ⟨A1, ρ, S1, post, n.ext e1, s1, p1, k.go e1⟩⟩
end

/-! ### targets -/
def KontG (K : PySem.W.Frag) (H : Hp) (A : List Addr) (σ : L2.St) (ws : List Nat) (post : DEnv → Store → Prop) (Q : L2.St → Hp → Prop) : Prop :=
  ∀ σ' H' A' ρ' S', Ext H A H' A' → RelN K H' A' ρ' σ' → RelS K H' A' S' → (∀ vs : List Nat, (∀ i ∈ ws, i ∈ vs) → wipe σ' vs = wipe σ vs) → post ρ' S' → Q σ' H'
def liftW (K : PySem.W.Frag) (ws : List Nat) (g : DG) : TG := fun v σ H Q => ∃ A ρ S d post, RelN K H A ρ σ ∧ RelS K H A S ∧ RelD K H A d v ∧ g d ρ S post ∧ KontG K H A σ ws post Q
def liftWs (K : PySem.W.Frag) (ws : List Nat) (g : DGs) : TGs := fun vs σ H Q => ∃ A ρ S ds post, RelN K H A ρ σ ∧ RelS K H A S ∧ RelDs K H A ds vs ∧ g ds ρ S post ∧ KontG K H A σ ws post Q
theorem wipe_set (σ : L2.St) (i : Nat) (x : Option V) : ∀ vs : List Nat, i ∈ vs → wipe (σ.set i x) vs = wipe σ vs
  | v :: vs, h => by
    show (wipe (σ.set i x) vs).set v none = (wipe σ vs).set v none
    by_cases hi : i ∈ vs
    · rw [wipe_set σ i x vs hi]
    · have e : i = v := by
        rcases List.mem_cons.mp h with e | e
        · exact e
        · exact absurd e hi
      subst e
      have out : ∀ (vs : List Nat), i ∉ vs → wipe (σ.set i x) vs = (wipe σ vs).set i x := by
        intro vs
        induction vs with
        | nil => intro _; rfl
        | cons u us ih =>
          intro hu
          have h1 : i ≠ u := fun z => hu (by rw [z]; exact List.mem_cons_self)
          have h2 : i ∉ us := fun z => hu (List.mem_cons_of_mem _ z)
          show (wipe (σ.set i x) us).set u none = ((wipe σ us).set u none).set i x
          rw [ih h2, List.set_comm _ _ h1]
      rw [out vs hi, List.set_set]
def gName (i : Nat) : DG := fun d ρ S post => post (ρ.set i (some d)) S
def gTup (n : Nat) (gs : DGs) : DG := fun d ρ S post => ∃ ds, (d = .tup ds ∨ d = .ztup ds) ∧ ds.length = n ∧ gs ds ρ S post
def gNil : DGs := fun ds ρ S post => ds = [] ∧ post ρ S
def gCons (g : DG) (gs : DGs) : DGs := fun ds ρ S post => ∃ d r, ds = d :: r ∧ g d ρ S fun ρ1 S1 => gs r ρ1 S1 post
def gSub (to ti : DE) (st : DSet) : DG := fun d ρ S post => to ρ S fun o S1 => ti ρ S1 fun i S2 => st o i d S2 fun S3 => post ρ S3
def setSeq : DSet := fun o i d S post => ∃ (n : Nat) (ds : List D) (k : Int) (j : Nat), o = .lr n ∧ S[n]? = some (.lst ds) ∧ i = .int k ∧ ixN ds.length k = some j ∧ post (S.set n (.lst (ds.set j d)))
section
variable {X : Cx} {pos : Pos}
theorem dg_name (i : Nat) {x : Str} (hN : X.N.Nodup) (hi : X.N[i]? = some x := by rfl) (hx : Loc X.env.scope x := by first | exact Or.inl rfl | exact Or.inr rfl) (hf : X.fn x = true ∨ X.env.scope.names.lookup x = some .local := by first | exact .inl rfl | exact .inr rfl) : PG X (.Name x pos) (liftW X.K [i] (gName i)) :=
  pg_mono (pg_name hN hi hx hf) fun v σ H Q ⟨A, ρ, S, d, post, n, s, r, p, k⟩ => k _ H A _ S Ext.refl (n.set i r) s (fun vs h => wipe_set σ i _ vs (h i (by simp))) p
theorem dgs_nil : PGs X [] (liftWs X.K [] gNil) :=
  pgs_mono pgs_nil fun vs σ H Q ⟨A, ρ, S, ds, post, n, s, r, ⟨e, p⟩, k⟩ => by
    subst e
    exact ⟨r, k _ H A _ S Ext.refl n s (fun _ _ => rfl) p⟩
theorem dgs_cons {e : Expr} {es : List Expr} {g : DG} {gs : DGs} {w1 w2 : List Nat} (h1 : PG X e (liftW X.K w1 g)) (h2 : PGs X es (liftWs X.K w2 gs))
    (hs : (assignEach (e :: es) X.env).map (·.2) = assign e X.env :: (assignEach es X.env).map (·.2) := by rfl) : PGs X (e :: es) (liftWs X.K (w1 ++ w2) (gCons g gs)) :=
  pgs_mono (pgs_cons h1 h2 hs) fun vs σ H Q ⟨A, ρ, S, ds, post, n, s, r, ⟨d, rr, e, p⟩, k⟩ => by
    subst e
    obtain ⟨v, vr, rfl, r1, r2⟩ := r
    refine ⟨v, vr, rfl, A, ρ, S, d, _, n, s, r1, p, fun σ1 H1 A1 ρ1 S1 e1 n1 s1 hw p1 => ?_⟩
    refine ⟨A1, ρ1, S1, rr, post, n1, s1, r2.ext e1, p1, fun σ2 H2 A2 ρ2 S2 e2 n2 s2 hw2 p2 => ?_⟩
    exact k σ2 H2 A2 ρ2 S2 (e1.trans e2) n2 s2 (fun us h => (hw2 us fun i hi => h i (List.mem_append_right _ hi)).trans (hw us fun i hi => h i (List.mem_append_left _ hi))) p2
theorem dg_tup {es : List Expr} {k : Nat} {gs : DGs} {n : Nat} {ws : List Nat} (hc : X.calm = true) (h : PGs X es (liftWs X.K ws gs)) (hn : (assignEach es X.env).length = n := by rfl) (hst : (assignEach es X.env).findIdx? (·.1) = none := by rfl) :
    PG X (.Tuple es k pos) (liftW X.K ws (gTup n gs)) :=
  pg_mono (pg_tup hc h hn hst) fun v σ H Q ⟨A, ρ, S, d, post, nn, s, r, ⟨ds, e, hl, p⟩, kk⟩ => by
    have hr : ∃ a vs, v = .ref a ∧ SqT X.K H a vs ∧ RelDs X.K H A ds vs := by
      rcases e with rfl | rfl
      · obtain ⟨a, vs, q, h2, h3⟩ := r
        exact ⟨a, vs, q, h2.sq, h3⟩
      · exact r
    obtain ⟨a, vs, rfl, h2, h3⟩ := hr
    exact ⟨a, vs, rfl, h2, by rw [h3.len]; exact hl, A, ρ, S, ds, post, nn, s, h3, p, kk⟩
theorem dg_sub {o i : Expr} {to ti : DE} {st : DSet} {t : TSet} (ho : PE X o (liftE X.K to)) (hi : PE X i (liftE X.K ti)) (hs : PSet X t) (hr : RulSet X.K st t)
    (ha : ∀ v, assign (.Subscript o i pos) X.env v = (do
      let ov ← holding [v] (eval o X.env)
      let iv ← holding [v, ov] (eval i X.env)
      standAt pos
      holding [v, ov, iv] (setItem ov iv v)
      release [v, ov, iv] []) := by intro _; rfl) : PG X (.Subscript o i pos) (liftW X.K [] (gSub to ti st)) :=
  pg_mono (pg_sub ho hi hs ha) fun v σ H Q ⟨A, ρ, S, d, post, n, s, r, p, k⟩ => ⟨A, ρ, S, _, n, s, p, fun v1 H1 A1 d1 S1 e1 s1 r1 p1 => ⟨A1, ρ, S1, _, n.ext e1, s1, p1, fun v2 H2 A2 d2 S2 e2 s2 r2 p2 =>
    hr H2 A2 S2 d1 d2 d v1 v2 v _ _ s2 (r1.ext e2) r2 (r.ext (e1.trans e2)) p2 fun H3 A3 S3 e3 s3 p3 => k σ H3 A3 ρ S3 ((e1.trans e2).trans e3) (n.ext ((e1.trans e2).trans e3)) s3 (fun _ _ => rfl) p3⟩⟩
theorem rul_set {K : PySem.W.Frag} : RulSet K setSeq rSetL := by
  intro H A S o i d ov iv v post Q s ro ri r h k
  obtain ⟨n, ds, j, m, rfl, hn, rfl, hm, p⟩ := h
  obtain ⟨a, rfl, ha⟩ := ro
  cases (show iv = .int j from ri)
  obtain ⟨vs, h1, h2⟩ := s.get hn ha
  have hp : a ∈ A := List.mem_iff_getElem?.mpr ⟨n, ha⟩
  have m1 : LdO (.lst vs) := .inl ⟨_, rfl⟩
  have m2 : LdO (.lst (vs.set m v)) := .inl ⟨_, rfl⟩
  have e : Ext H A (upd H a (.lst (vs.set m v))) A := ext_set (S := S) hp h1 m1 m2
  exact ⟨a, vs, j, m, rfl, rfl, h1, by rw [h2.len]; exact hm, k _ A _ e (s.set (en := .lst (ds.set m d)) ha h1 m1 m2 ⟨_, upd_same, (h2.ext e).set m (r.ext e)⟩) p⟩
end

/-! ### statements -/
def dNext : DS := fun E ρ S => E.nx ρ S
def dSeq (t u : DS) : DS := fun E ρ S => t { E with nx := u E } ρ S
def dRet (te : DE) : DS := fun E ρ S => te ρ S E.rt
def dRetN : DS := fun E _ S => E.rt .non S
def dDrop (te : DE) : DS := fun E ρ S => te ρ S fun _ S1 => E.nx ρ S1
def dIfS (c : DT) (t u : DS) : DS := fun E ρ S => c ρ S fun b S1 => if b = true then t E ρ S1 else u E ρ S1
def dAsg (te : DE) (g : DG) : DS := fun E ρ S => te ρ S fun d S1 => g d ρ S1 E.nx
def dApp (to te : DE) : DE := fun ρ S post => to ρ S fun o S1 => (∃ (n : Nat) (ds : List D), o = .lr n ∧ S1[n]? = some (.lst ds)) ∧ te ρ S1 fun d S2 => ∃ (n : Nat) (ds : List D), o = .lr n ∧ S2[n]? = some (.lst ds) ∧ ds.length ≤ 100000 ∧ post .non (S2.set n (.lst (ds ++ [d])))
section
variable {W : WX} {X : Cx} {st : Stmt} {rest : List Stmt} {t u : DS} {e : Expr} {te : DE} {pos : Pos}
theorem dss_nil : PSs X [] (liftS X.K W dNext) := pss_mono pss_nil fun Dn σ H ⟨A, ρ, S, E, n, s, h, k1, k2, k3, k4⟩ => k1.now n s h
theorem dss_cons (h1 : PS X st (liftS X.K W t)) (h2 : PSs X rest (liftS X.K W u)) : PSs X (st :: rest) (liftS X.K W (dSeq t u)) :=
  pss_mono (pss_cons h1 h2) fun Dn σ H ⟨A, ρ, S, E, n, s, h, k1, k2, k3, k4⟩ => ⟨A, ρ, S, { E with nx := u E }, n, s, h, fun σ' H' A' ρ' S' e n' s' p => ⟨A', ρ', S', E, n', s', p, k1.go e, k2.go e, k3.go e, k4.go e⟩, k2, k3, ⟨k4.ct, k4.ex⟩⟩
theorem dss_one (h1 : PS X st (liftS X.K W t)) : PSs X [st] (liftS X.K W t) := pss_one h1
theorem ds_pass : PS X (.Pass pos) (liftS X.K W dNext) := ps_mono ps_pass fun Dn σ H ⟨A, ρ, S, E, n, s, h, k1, k2, k3, k4⟩ => k1.now n s h
theorem ds_ret (he : PE X e (liftE X.K te)) : PS X (.Return (some e) pos) (liftS X.K W (dRet te)) :=
  ps_mono (ps_ret he) fun Dn σ H ⟨A, ρ, S, E, n, s, h, k1, k2, k3, k4⟩ => ⟨A, ρ, S, E.rt, n, s, h, k2⟩
theorem ds_retN : PS X (.Return none pos) (liftS X.K W dRetN) := ps_mono ps_retN fun Dn σ H ⟨A, ρ, S, E, n, s, h, k1, k2, k3, k4⟩ => k2.now (d := .non) s rfl h
theorem ds_expr (he : PE X e (liftE X.K te)) (hs : swapsWith e none pos.line X.env = pure false := by rfl) : PS X (.Expr e pos) (liftS X.K W (dDrop te)) :=
  ps_mono (ps_expr he hs) fun Dn σ H ⟨A, ρ, S, E, n, s, h, k1, k2, k3, k4⟩ => ⟨A, ρ, S, _, n, s, h, fun v H' A' d S' e s' r p => k1 σ H' A' ρ S' e (n.ext e) s' p⟩
theorem ds_if {c : Expr} {a b : List Stmt} {tc : DT} (hc : PT X c (liftT X.K tc)) (ha : PSs X a (liftS X.K W t)) (hb : PSs X b (liftS X.K W u)) : PS X (.If c a b pos) (liftS X.K W (dIfS tc t u)) :=
  ps_mono (ps_if hc ha hb) fun Dn σ H ⟨A, ρ, S, E, n, s, h, k1, k2, k3, k4⟩ => ⟨A, ρ, S, _, n, s, h, fun b H' A' S' e s' p => by
    cases b with
    | true => exact ⟨A', ρ, S', E, n.ext e, s', p, k1.go e, k2.go e, k3.go e, k4.go e⟩
    | false => exact ⟨A', ρ, S', E, n.ext e, s', p, k1.go e, k2.go e, k3.go e, k4.go e⟩⟩
theorem lift_asg {W : WX} {K : PySem.W.Frag} {g : DG} {ws : List Nat} {Dn : Ends} {σ : L2.St} {H : Hp} : liftS K W (dAsg te g) Dn σ H → tAsg (liftE K te) (liftW K ws g) Dn σ H := by
  rintro ⟨A, ρ, S, E, n, s, h, k1, k2, k3, k4⟩
  exact ⟨A, ρ, S, _, n, s, h, fun v H' A' d S' e s' r p => ⟨A', ρ, S', d, E.nx, n.ext e, s', r, p, fun σ2 H2 A2 ρ2 S2 e2 n2 s2 _ p2 => k1 σ2 H2 A2 ρ2 S2 (e.trans e2) n2 s2 p2⟩⟩
theorem ds_asg {tg : Expr} {g : DG} {ws : List Nat} (he : PE X e (liftE X.K te)) (hg : PG X tg (liftW X.K ws g)) (hs : swapsWithSole [tg] e pos.line X.env = pure false := by rfl) (hw : swappedStores [tg] e X.env = pure none := by rfl)
    (h1 : (assignEach [tg] X.env).map (·.2) = [assign tg X.env] := by rfl) : PS X (.Assign [tg] e pos) (liftS X.K W (dAsg te g)) :=
  ps_mono (ps_asg he hg hs hw h1) fun _ _ _ h => lift_asg h
theorem ds_set (i : Nat) {x : Str} {pos' : Pos} (hN : X.N.Nodup) (he : PE X e (liftE X.K te)) (hi : X.N[i]? = some x := by rfl) (hx : Loc X.env.scope x := by first | exact Or.inl rfl | exact Or.inr rfl) (hs : swapsWith e (some (.Name x pos')) pos.line X.env = pure false := by rfl)
    (hf : X.fn x = true ∨ X.env.scope.names.lookup x = some .local := by first | exact .inl rfl | exact .inr rfl) : PS X (.Assign [.Name x pos'] e pos) (liftS X.K W (dAsg te (gName i))) :=
  ps_mono (ps_set hN hi hx he hs hf) fun Dn σ H ⟨A, ρ, S, E, n, s, h, k1, k2, k3, k4⟩ =>
    ⟨A, ρ, S, _, n, s, h, fun v H' A' d S' e s' r p => k1 _ H' A' _ S' e ((n.ext e).set i r) s' p⟩
theorem de_app {o a : Expr} {apos cpos : Pos} {to ta : DE} (ho : PE X o (liftE X.K to)) (ha : PE X a (liftE X.K ta)) (hbase : attributeBase o "append" X.env (eval o X.env) = eval o X.env := by rfl)
    (hfew : ((backTo cpos (starEach [a] X.env)).all (fun x => !x.1) && (backToKw cpos (keywordEach [] X.env)).all (fun x => x.1.isSome)
      && decide ([a].length + ([] : List Keyword).length + (if ([] : List Keyword).isEmpty then 0 else 1) < 30)) = true := by rfl)
    (hline : (apos.endLine == cpos.line) = true := by rfl) (hs : starEach [a] X.env = (false, eval a X.env) :: starEach [] X.env := by rfl) (hplain : (backTo cpos (starEach [] X.env)).any (·.1) = false := by rfl) :
    PE X (.Call (.Attribute o "append" apos) [a] [] cpos) (liftE X.K (dApp to ta)) := by
  refine pe_mono (pe_bm PySem.F.plainAttrs_list PySem.F.slot_list_append PySem.F.type_list_append mt_append ho (pa_cons ha pa_nil hs) hbase hfew hline hs hplain) ?_
  rintro σ H Q ⟨A, ρ, S, post, n, s, p, k⟩
  refine ⟨A, ρ, S, _, n, s, p, fun v1 H1 A1 d1 S1 e1 s1 r1 ⟨⟨m0, ds0, eq0, hm0⟩, p1⟩ => ?_⟩
  subst eq0
  obtain ⟨a1, rfl, ha1⟩ := r1
  obtain ⟨vs0, g1, w1⟩ := s1.get hm0 ha1
  refine ⟨.inl ⟨rfl, vs0, .inl (.inl g1)⟩, A1, ρ, S1, _, n.ext e1, s1, p1, fun v2 H2 A2 d2 S2 e2 s2 r2 ⟨m, ds, eqm, hm, hl, p2⟩ => ?_⟩
  cases eqm
  have ha2 := e2.at_ ha1
  obtain ⟨vs, h1, h2⟩ := s2.get hm ha2
  have hp : a1 ∈ A2 := List.mem_iff_getElem?.mpr ⟨m0, ha2⟩
  have q1 : LdO (.lst vs) := .inl ⟨_, rfl⟩
  have q2 : LdO (.lst (vs ++ [v2])) := .inl ⟨_, rfl⟩
  have e3 : Ext H2 A2 (upd H2 a1 (.lst (vs ++ [v2]))) A2 := ext_set (S := S2) hp h1 q1 q2
  exact ⟨a1, vs, v2, rfl, rfl, h1, by rw [h2.len]; exact lt_line hl, k .non _ A2 .non _ ((e1.trans e2).trans e3) (s2.set (en := .lst (ds ++ [d2])) ha2 h1 q1 q2 ⟨_, upd_same, (h2.ext e3).append (RelDs.one (r2.ext e3))⟩) rfl p2⟩
end
end DL
/-! DP: what is walked, loops, comprehensions; calls of own defs, a def's promise. -/
namespace DL
open PySem PySem.Spec PyProof.Rows L2
variable [HasT]

/-- the iterator J gives xs, wherever C holds of the store -/
def ItOk (K : PySem.W.Frag) (J : It) (H' : Hp) (A' : List Addr) (xs : List D) (C : Store → Prop) : Prop :=
  ∀ H2 A2 S2, Ext H' A' H2 A2 → RelS K H2 A2 S2 → C S2 → J.stop xs.length H2 ∧ ∀ (i : Nat) (d : D), xs[i]? = some d → J.go i H2 ∧ ∀ x H3, J.yld i H2 x H3 → (∀ a o, H2 a = some o → H3 a = some o) ∧ RelD K H3 A2 d x
def liftI (K : PySem.W.Frag) (w : DIt) : TI := fun σ H R => ∃ A ρ S post, RelN K H A ρ σ ∧ RelS K H A S ∧ w ρ S post ∧
  ∀ J H' A' xs C S', Ext H A H' A' → RelS K H' A' S' → ItOk K J H' A' xs C → post xs C S' → R J H'
/-- anything that holds items -/
def wSeq (te : DE) : DIt := fun ρ S post => te ρ S fun d S1 => ∃ xs, seqOf S1 d xs ∧ post xs (fun S2 => seqOf S2 d xs) S1
def upTo (lo : Int) (n : Nat) : List D := (List.range n).map fun (i : Nat) => D.int (lo + (i : Int))
def wRng1 (t : DA) : DIt := fun ρ S post => t ρ S fun ds S1 => ∃ j, ds = [.int j] ∧ -1000000 ≤ j ∧ j ≤ 1000000 ∧ post (upTo 0 j.toNat) (fun _ => True) S1
def wRng2 (t : DA) : DIt := fun ρ S post => t ρ S fun ds S1 => ∃ i j, ds = [.int i, .int j] ∧ -1000000 ≤ i ∧ i ≤ 1000000 ∧ -1000000 ≤ j ∧ j ≤ 1000000 ∧ post (upTo i (j - i).toNat) (fun _ => True) S1
theorem upTo_len (lo : Int) (n : Nat) : (upTo lo n).length = n := by simp [upTo]
theorem upTo_get {lo : Int} {n i : Nat} {d : D} (h : (upTo lo n)[i]? = some d) : i < n ∧ d = .int (lo + (i : Int)) := by
  unfold upTo at h
  rw [List.getElem?_map] at h
  cases q : (List.range n)[i]? with
  | none =>
    rw [q] at h
    cases h
  | some k =>
    rw [q] at h
    obtain ⟨h1, h2⟩ := List.getElem?_eq_some_iff.mp q
    rw [List.getElem_range] at h2
    rw [List.length_range] at h1
    subst h2
    exact ⟨h1, (Option.some.inj h).symm⟩
section
variable {K : PySem.W.Frag} {H : Hp} {A : List Addr}
theorem itok_tup {a : Addr} {vs : List V} {xs : List D} {C : Store → Prop} (h : SqT K H a vs) (r : RelDs K H A xs vs) : ItOk K (Itt K a) H A xs C := by
  intro H2 A2 S2 e s hc
  have h2 := ext_t e h
  have r2 := r.ext e
  refine ⟨⟨vs, h2, by rw [r2.len]; exact Nat.le_refl _⟩, fun i d hd => ?_⟩
  obtain ⟨v, hv, rv⟩ := r2.get hd
  refine ⟨⟨vs, v, h2, hv⟩, fun x H3 ⟨e3, f⟩ => ?_⟩
  subst e3
  refine ⟨fun _ _ q => q, ?_⟩
  have ev := f vs h2
  rw [hv] at ev
  cases ev
  exact rv
theorem itok_list {x : D} {a : Addr} {xs : List D} (rx : RelD K H A x (.ref a)) (hx : ∀ ds, x ≠ .tup ds) : ItOk K (Itl K a) H A xs fun S2 => seqOf S2 x xs := by
  intro H2 A2 S2 e s hc
  have rx2 := rx.ext e
  have q : ∃ vs, SqL K H2 a vs ∧ RelDs K H2 A2 xs vs := by
    rcases hc with rfl | rfl | ⟨n, rfl, hn⟩
    · exact absurd rfl (hx _)
    · obtain ⟨a', vs, e', h2, h3⟩ := rx2
      cases e'
      exact ⟨vs, h2.sq, h3⟩
    · obtain ⟨a', e', ha⟩ := rx2
      cases e'
      obtain ⟨vs, h1, h2⟩ := s.get hn ha
      exact ⟨vs, .inl (.inl h1), h2⟩
  obtain ⟨vs, h2, r2⟩ := q
  refine ⟨⟨vs, h2, by rw [r2.len]; exact Nat.le_refl _⟩, fun i d hd => ?_⟩
  obtain ⟨v, hv, rv⟩ := r2.get hd
  refine ⟨⟨vs, v, h2, hv⟩, fun x H3 ⟨e3, f⟩ => ?_⟩
  subst e3
  refine ⟨fun _ _ q => q, ?_⟩
  have ev := f vs h2
  rw [hv] at ev
  cases ev
  exact rv
theorem itok_rng {lo : Int} {n : Nat} {C : Store → Prop} : ItOk K (Itr lo n) H A (upTo lo n) C := by
  intro H2 A2 S2 e s hc
  refine ⟨Nat.le_of_eq (upTo_len lo n).symm, fun i d hd => ?_⟩
  obtain ⟨hi, rfl⟩ := upTo_get hd
  refine ⟨hi, fun x H3 ⟨e3, f⟩ => ?_⟩
  subst e3
  exact ⟨fun _ _ q => q, f⟩
end
section
variable {X : Cx} {tg : Expr}
theorem di_seq {l : Expr} {te : DE} (hl : PE X l (liftE X.K te)) : PI X tg l (liftI X.K (wSeq te)) := by
  refine ⟨fun pins s σ H R I ⟨A, ρ, S, post, n, rs, p, k⟩ => ?_⟩
  refine thn (hl.run pins s σ H (fun v H1 => ∃ a d A1 S1 xs, v = .ref a ∧ Ext H A H1 A1 ∧ RelS X.K H1 A1 S1 ∧ RelD X.K H1 A1 d v ∧ seqOf S1 d xs ∧ post xs (fun S2 => seqOf S2 d xs) S1) I ⟨A, ρ, S, _, n, rs, p, fun v H1 A1 d S1 e s1 r ⟨xs, hq, p1⟩ => ?_⟩) fun v s1 ⟨x, H1, I1, r1, q1⟩ => ?_
  · obtain ⟨a, vs, rfl, _⟩ := hq.rel s1 r
    exact ⟨a, d, A1, S1, xs, rfl, e, s1, r, hq, p1⟩
  · obtain ⟨a, d, A1, S1, xs, rfl, e, rs1, r, hq, p1⟩ := q1
    cases r1
    have fresh : ∀ b ∈ [s1.heap.objs.size], FpOk X pins H1 b := fun b hb => by
      rw [List.mem_singleton.mp hb]
      exact I1.fpOk (Nat.le_refl _) (I1.hok.fresh (Nat.le_refl _))
    by_cases ht : ∃ ds, d = .tup ds
    · obtain ⟨ds, rfl⟩ := ht
      have hds : xs = ds := by
        rcases hq with h | h | ⟨_, h, _⟩
        · exact (D.tup.inj h).symm
        · cases h
        · cases h
      subst hds
      obtain ⟨a', vs, e', h2, h3⟩ := r
      cases e'
      obtain ⟨its, rv, p', hz⟩ := I1.tuple h2.sq
      refine wpAny_pyIter_tuple (show s1.heap.IsTuple a its.toArray from p') ?_
      exact ⟨s1.heap.objs.size, [s1.heap.objs.size], _, Itt X.K a, H1, rfl, I1.kept (t' := s1.toks) (fun b o e => Heap.get?_push_of_some _ e), turn_tuple a _, ⟨_, Heap.get?_push_size _ rfl, rfl, rfl⟩, fresh,
        k _ H1 A1 xs _ S1 e rs1 (itok_tup h2.sq h3) p1⟩
    · have hx : ∀ ds, d ≠ .tup ds := fun ds z => ht ⟨ds, z⟩
      have ok := itok_list (xs := xs) r hx
      obtain ⟨a', vs, e', hs, h3⟩ := hq.rel rs1 r
      cases e'
      have hl' : SqL X.K H1 a vs := by
        rcases hq with h | rfl | ⟨m, rfl, hm⟩
        · exact absurd h (hx _)
        · obtain ⟨a2, vs2, e2, g2, g3⟩ := r
          cases e2
          rcases hs with hs | hs
          · exact hs
          · obtain ⟨its, _, p1', _⟩ := I1.list g2.sq
            obtain ⟨its', _, p2', _⟩ := I1.tuple hs
            obtain ⟨o, nn, q1, q2, _⟩ := p1'
            obtain ⟨o', q1', q2', _⟩ := p2'
            rw [q1] at q1'
            cases q1'
            rw [q2] at q2'
            exact absurd (Value.type.inj q2') (by decide)
        · obtain ⟨a2, e2, ha⟩ := r
          cases e2
          rcases hs with hs | hs
          · exact hs
          · obtain ⟨us, g1, _⟩ := rs1.get hm ha
            obtain ⟨its, _, p1', _⟩ := I1.list (.inl (.inl g1) : SqL X.K H1 a us)
            obtain ⟨its', _, p2', _⟩ := I1.tuple hs
            obtain ⟨o, nn, q1, q2, _⟩ := p1'
            obtain ⟨o', q1', q2', _⟩ := p2'
            rw [q1] at q1'
            cases q1'
            rw [q2] at q2'
            exact absurd (Value.type.inj q2') (by decide)
      obtain ⟨its, rv, p', hz⟩ := I1.list hl'
      refine wpAny_pyIter_list p'.isList ?_
      exact ⟨s1.heap.objs.size, [s1.heap.objs.size], _, Itl X.K a, H1, rfl, I1.kept (t' := s1.toks) (fun b o e => Heap.get?_push_of_some _ e), turn_list a _, ⟨_, Heap.get?_push_size _ rfl, rfl, rfl⟩, fresh,
        k _ H1 A1 xs _ S1 e rs1 ok p1⟩
theorem rng_small {j : Int} (h1 : -1000000 ≤ j) (h2 : j ≤ 1000000) : -(2 ^ 62) ≤ j ∧ j < 2 ^ 62 := by omega
theorem di_rng1 {a : Expr} {t : DA} {p pos : Pos} (hg : Gl X "range") (hm : X.mg "range" = none) (ha : PA X [a] (liftA X.K t)) (hs : starEach [a] X.env = [(false, eval a X.env)] := by rfl) : PI X tg (.Call (.Name "range" p) [a] [] pos) (liftI X.K (wRng1 t)) :=
  pi_mono (pi_range1 hg hm ha hs) fun σ H R ⟨A, ρ, S, post, n, s, h, k⟩ => ⟨A, ρ, S, _, n, s, h, fun vs H' A' ds S' e s' r ⟨j, ed, h1, h2, p1⟩ => by
    subst ed
    obtain ⟨v, rfl, rv⟩ := rels1 r
    cases (show v = .int j from rv)
    exact ⟨j, rfl, (rng_small h1 h2).1, (rng_small h1 h2).2, k _ H' A' _ _ S' e s' itok_rng p1⟩⟩
theorem di_rng2 {a b : Expr} {t : DA} {p pos : Pos} (hg : Gl X "range") (hm : X.mg "range" = none) (ha : PA X [a, b] (liftA X.K t)) (hs : starEach [a, b] X.env = [(false, eval a X.env), (false, eval b X.env)] := by rfl) (hs2 : starEach [b] X.env = [(false, eval b X.env)] := by rfl) :
    PI X tg (.Call (.Name "range" p) [a, b] [] pos) (liftI X.K (wRng2 t)) :=
  pi_mono (pi_range2 hg hm ha hs hs2) fun σ H R ⟨A, ρ, S, post, n, s, h, k⟩ => ⟨A, ρ, S, _, n, s, h, fun vs H' A' ds S' e s' r ⟨i, j, ed, h1, h2, h3, h4, p1⟩ => by
    subst ed
    obtain ⟨v, u, rfl, rv, ru⟩ := rels2 r
    cases (show v = .int i from rv)
    cases (show u = .int j from ru)
    exact ⟨i, j, rfl, ⟨(rng_small h1 h2).1, (rng_small h1 h2).2, (rng_small h3 h4).1, (rng_small h3 h4).2⟩, k _ H' A' _ _ S' e s' itok_rng p1⟩⟩
end

/-! ### for -/
def dFor (w : DIt) (g : DG) (tb : DS) : DS := fun E ρ S => w ρ S fun xs C S1 => ∃ I : Nat → DEnv → Store → Prop, I 0 ρ S1 ∧ (∀ i ρ S, i ≤ xs.length → I i ρ S → C S) ∧
  (∀ (i : Nat) (d : D) (ρ : DEnv) (S : Store), xs[i]? = some d → I i ρ S → g d ρ S fun ρ2 S2 => tb { E with nx := I (i + 1), ct := I (i + 1), bk := E.nx } ρ2 S2) ∧ ∀ ρ S, I xs.length ρ S → E.nx ρ S
theorem lift_for {W : WX} {K : PySem.W.Frag} {w : DIt} {g : DG} {tb : DS} {ws : List Nat} {Dn : Ends} {σ : L2.St} {H : Hp} : liftS K W (dFor w g tb) Dn σ H → tFor (liftI K w) (liftW K ws g) (liftS K W tb) Dn σ H := by
  rintro ⟨A, ρ, S, E, n, s, h, k1, k2, k3, k4⟩
  refine ⟨A, ρ, S, _, n, s, h, fun J H' A' xs C S' e s' ok ⟨I, i0, iC, step, done⟩ => ?_⟩
  refine ⟨fun i m σ2 H2 => m = xs.length - i ∧ i ≤ xs.length ∧ ∃ A2 ρ2 S2, Ext H' A' H2 A2 ∧ RelN K H2 A2 ρ2 σ2 ∧ RelS K H2 A2 S2 ∧ I i ρ2 S2, ⟨xs.length, by simp, Nat.zero_le _, A', ρ, S', Ext.refl, n.ext e, s', i0⟩, ?_⟩
  rintro i m σ2 H2 ⟨rfl, hi, A2, ρ2, S2, e2, n2, s2, p2⟩
  obtain ⟨st, go⟩ := ok H2 A2 S2 e2 s2 (iC i ρ2 S2 hi p2)
  by_cases hlt : i < xs.length
  · have hx : xs[i]? = some xs[i] := List.getElem?_eq_getElem hlt
    obtain ⟨g1, g2⟩ := go i _ hx
    refine .inr ⟨g1, fun σ3 H3 => ∃ A3 ρ3 S3, Ext H' A' H3 A3 ∧ RelN K H3 A3 ρ3 σ3 ∧ RelS K H3 A3 S3 ∧ I (i + 1) ρ3 S3, fun σ3 H3 ⟨A3, ρ3, S3, e3, n3, s3, p3⟩ => ⟨xs.length - (i + 1), by omega, rfl, hlt, A3, ρ3, S3, e3, n3, s3, p3⟩, fun x H3 hy => ?_⟩
    obtain ⟨same, rx⟩ := g2 x H3 hy
    have e3 : Ext H2 A2 H3 A2 := Ext.same same
    refine ⟨A2, ρ2, S2, xs[i], _, n2.ext e3, s2.same same, rx, step i _ ρ2 S2 hx p2, fun σ4 H4 A4 ρ4 S4 e4 n4 s4 _ p4 => ?_⟩
    have e24 : Ext H' A' H4 A4 := (e2.trans e3).trans e4
    have e04 : Ext H A H4 A4 := e.trans e24
    refine ⟨A4, ρ4, S4, _, n4, s4, p4, fun σ5 H5 A5 ρ5 S5 e5 n5 s5 p5 => ⟨A5, ρ5, S5, e24.trans e5, n5, s5, p5⟩, k2.go e04, fun σ5 H5 A5 ρ5 S5 e5 n5 s5 p5 => k1 σ5 H5 A5 ρ5 S5 (e04.trans e5) n5 s5 p5, ⟨fun σ5 H5 A5 ρ5 S5 e5 n5 s5 p5 => ⟨A5, ρ5, S5, e24.trans e5, n5, s5, p5⟩, k4.ex.go e04⟩⟩
  · have ei : i = xs.length := by omega
    subst ei
    exact .inl ⟨st, k1 σ2 H2 A2 ρ2 S2 (e.trans e2) n2 s2 (done ρ2 S2 p2)⟩
theorem ds_for {W : WX} {X : Cx} {tg iter : Expr} {body : List Stmt} {w : DIt} {g : DG} {tb : DS} {ws : List Nat} {pos : Pos} (hp : PassesOwn (model X.prog X.w) X.A X.env X.xe) (hc : X.calm = true) (hi : PI X tg iter (liftI X.K w)) (hg : PG X tg (liftW X.K ws g)) (hb : PSs X body (liftS X.K W tb))
    (hs : ∀ x, foldedSetIterable iter X.env x = pure x := by intro _; rfl) : PS X (.For tg iter body [] pos) (liftS X.K W (dFor w g tb)) :=
  ps_mono (ps_for hp hc hi hg hb hs) fun _ _ _ h => lift_for h

/-! ### comprehensions -/
def wipeD (ρ : DEnv) : List Nat → DEnv
  | [] => ρ
  | v :: vs => (wipeD ρ vs).set v none
theorem RelN.wipe {K : PySem.W.Frag} {H : Hp} {A : List Addr} {ρ : DEnv} {σ : L2.St} (n : RelN K H A ρ σ) : ∀ vs : List Nat, RelN K H A (wipeD ρ vs) (L2.wipe σ vs)
  | [] => n
  | v :: vs => by
    have ih := RelN.wipe n vs
    refine ⟨?_, fun i d h => ?_⟩
    · show ((wipeD ρ vs).set v none).length = ((L2.wipe σ vs).set v none).length
      rw [List.length_set, List.length_set, ih.len]
    · have h' : ((wipeD ρ vs).set v none)[i]? = some (some d) := h
      show ∃ u, ((L2.wipe σ vs).set v none)[i]? = some (some u) ∧ _
      by_cases e : v = i
      · subst e
        rw [List.getElem?_set] at h'
        simp at h'
      · rw [List.getElem?_set_ne e] at h' ⊢
        exact ih.at_ i d h'
def dLc (w : DIt) (g : DG) (tt : DT) (te : DE) (vs : List Nat) : DE := fun ρ S post => w ρ S fun xs C S1 => ∃ I : Nat → List D → Store → Prop, I 0 [] S1 ∧ (∀ i acc S, i ≤ xs.length → I i acc S → C S) ∧
  (∀ (i : Nat) (d : D) (acc : List D) (S : Store), xs[i]? = some d → I i acc S → g d (wipeD ρ vs) S fun ρ2 S2 => tt ρ2 S2 fun b S3 => if b = true then te ρ2 S3 fun y S4 => acc.length ≤ 100000 ∧ I (i + 1) (acc ++ [y]) S4 else I (i + 1) acc S3) ∧
  ∀ acc S, I xs.length acc S → post (.lr S.length) (S ++ [.lst acc])
theorem lift_lc {K : PySem.W.Frag} {w : DIt} {g : DG} {tt : DT} {te : DE} {vs ws : List Nat} (hws : ∀ i ∈ ws, i ∈ vs) {σ : L2.St} {H : Hp} {Q : VK} : liftE K (dLc w g tt te vs) σ H Q → tLc (liftI K w) (liftW K ws g) (liftT K tt) (liftE K te) vs σ H Q := by
  rintro ⟨A, ρ, S, post, n, s, h, k⟩
  refine ⟨A, ρ, S, _, n, s, h, fun J H' A' xs C S' e s' ok ⟨I, i0, iC, step, done⟩ => ?_⟩
  intro Dl hDl
  refine ⟨fun i m H2 => m = xs.length - i ∧ i ≤ xs.length ∧ ∃ A2 S2 acc us, Ext H' A' H2 A2 ∧ RelS K H2 A2 S2 ∧ Dl ∉ A2 ∧ H2 Dl = some (.lst us) ∧ RelDs K H2 A2 acc us ∧ I i acc S2, ⟨xs.length, by simp, Nat.zero_le _, A', S', [], [], Ext.same (same_upd hDl), s'.same (same_upd hDl), s'.notin hDl, upd_same, rfl, i0⟩, ?_⟩
  rintro i m H2 ⟨rfl, hi, A2, S2, acc, us, e2, s2, hn2, hd2, r2, p2⟩
  obtain ⟨st, go⟩ := ok H2 A2 S2 e2 s2 (iC i acc S2 hi p2)
  by_cases hlt : i < xs.length
  · have hx : xs[i]? = some xs[i] := List.getElem?_eq_getElem hlt
    obtain ⟨g1, g2⟩ := go i _ hx
    refine .inr ⟨g1, fun H3 => ∃ A3 S3 acc3 us3, Ext H' A' H3 A3 ∧ RelS K H3 A3 S3 ∧ Dl ∉ A3 ∧ H3 Dl = some (.lst us3) ∧ RelDs K H3 A3 acc3 us3 ∧ I (i + 1) acc3 S3, fun H3 ⟨A3, S3, acc3, us3, q⟩ => ⟨xs.length - (i + 1), by omega, rfl, hlt, A3, S3, acc3, us3, q⟩, fun x H3 hy => ?_⟩
    obtain ⟨same, rx⟩ := g2 x H3 hy
    have e3 : Ext H2 A2 H3 A2 := Ext.same same
    have n3 : RelN K H3 A2 (wipeD ρ vs) (L2.wipe σ vs) := ((n.ext e).ext e2).ext e3 |>.wipe vs
    refine ⟨A2, wipeD ρ vs, S2, xs[i], _, n3, s2.same same, rx, step i _ acc S2 hx p2, fun σ4 H4 A4 ρ4 S4 e4 n4 s4 hw p4 => ?_⟩
    have hww : L2.wipe σ4 vs = L2.wipe σ vs := by
      rw [hw vs hws]
      have idem : ∀ (us : List Nat) (τ : L2.St), (∀ i ∈ us, i ∈ vs) → L2.wipe (L2.wipe τ us) vs = L2.wipe τ vs := by
        intro us
        induction us with
        | nil => intro τ _; rfl
        | cons u us ih =>
          intro τ hu
          show L2.wipe ((L2.wipe τ us).set u none) vs = _
          rw [wipe_set _ u none vs (hu u List.mem_cons_self)]
          exact ih τ fun i hi => hu i (List.mem_cons_of_mem _ hi)
      exact idem vs σ fun _ h => h
    refine ⟨hww, A4, ρ4, S4, _, n4, s4, p4, fun b H5 A5 S5 e5 s5 p5 => ?_⟩
    -- what stays of the list that is being made
    have stay : ∀ {H6 : Hp} {A6 : List Addr}, Ext H2 A2 H6 A6 → H6 Dl = some (.lst us) ∧ Dl ∉ A6 := fun {H6 A6} e6 => by
      refine ⟨?_, fun hm => ?_⟩
      · rcases e6.keep _ _ hd2 with q | ⟨q, _⟩ | ⟨_, q⟩
        · exact q
        · exact absurd q hn2
        · cases q
      · obtain ⟨B, rfl, f⟩ := e6.pre
        rcases List.mem_append.mp hm with hm | hm
        · exact hn2 hm
        · obtain ⟨_, q⟩ := f _ hm _ hd2
          cases q
    cases b with
    | true =>
      refine ⟨A5, ρ4, S5, _, n4.ext e5, s5, p5, fun y H6 A6 d6 S6 e6 s6 r6 ⟨hl, p6⟩ => ?_⟩
      have e26 : Ext H2 A2 H6 A6 := ((e3.trans e4).trans e5).trans e6
      obtain ⟨q1, q2⟩ := stay e26
      have mu : LdO (.lst us) := .inl ⟨_, rfl⟩
      have kp := keep_upd (o' := .lst (us ++ [y])) q1 (.inl mu)
      have ex : Ext H' A' H6 A6 := e2.trans e26
      have hdn : H' Dl = none := hDl
      refine ⟨us, q1, ?_, A6, S6, acc ++ [d6], us ++ [y], ex.out hdn, s6.out q2 q1 mu, q2, upd_same, ?_, p6⟩
      · rw [r2.len]
        exact lt_line hl
      · exact ((r2.ext e26).append (RelDs.one r6)).keep0 kp
    | false =>
      have e25 : Ext H2 A2 H5 A5 := (e3.trans e4).trans e5
      obtain ⟨q1, q2⟩ := stay e25
      exact ⟨A5, S5, acc, us, e2.trans e25, s5, q2, q1, r2.ext e25, p5⟩
  · have ei : i = xs.length := by omega
    subst ei
    refine .inl ⟨st, ?_⟩
    have ex := e.trans e2
    have hdn : FreeO H Dl := e.free (.of hDl)
    obtain ⟨B, eB, fB⟩ := ex.pre
    have ex2 : Ext H A H2 (A2 ++ [Dl]) := ⟨⟨B ++ [Dl], by rw [eB, List.append_assoc], fun b hb => by
      rcases List.mem_append.mp hb with hb | hb
      · exact fB b hb
      · rw [List.mem_singleton.mp hb]
        exact hdn⟩, ex.keep⟩
    refine k (.ref Dl) H2 (A2 ++ [Dl]) (.lr S2.length) (S2 ++ [.lst acc]) ex2 (s2.push (en := .lst acc) hn2 ⟨us, hd2, r2.keep (fun _ _ q _ => q)⟩) ⟨Dl, rfl, ?_⟩ (done acc S2 p2)
    rw [s2.len, List.getElem?_append_right (Nat.le_refl _), Nat.sub_self]
    rfl
section
variable {X : Cx} {pos : Pos}
def dYes : DT := fun _ S post => post true S
theorem dts_nil : PTs X [] (liftT X.K dYes) := ⟨fun pins s σ H Q I ⟨A, ρ, S, post, n, rs, p, k⟩ => pts_nil.run pins s σ H Q I (k true H A S Ext.refl rs p)⟩
theorem dts_one {c : Expr} {t : DT} (h : PT X c (liftT X.K t)) : PTs X [c] (liftT X.K t) := pts_one h
theorem de_lc {elt tg iter : Expr} {ifs : List Expr} {scope : Scope} {own : List (Str × Nat)} {w : DIt} {g : DG} {tt : DT} {te : DE} {ws : List Nat} (hws : ∀ i ∈ ws, i ∈ own.map (·.2)) (hc : X.calm = true) (hN : X.N.Nodup) (hi : PI X tg iter (liftI X.K w)) (ok : BlkOk X.N X.env.scope scope own)
    (hg : ∀ (s : Shared) (H : Hp) (C : Addr) (cl : List (Str × Addr)) (fp : List Addr), PG (X.blk s H scope (compEnvC scope cl C X.env) fp) tg (liftW X.K ws g)) (ht : ∀ (s : Shared) (H : Hp) (C : Addr) (cl : List (Str × Addr)) (fp : List Addr), PTs (X.blk s H scope (compEnvC scope cl C X.env) fp) ifs (liftT X.K tt))
    (he : ∀ (s : Shared) (H : Hp) (C : Addr) (cl : List (Str × Addr)) (fp : List Addr), PE (X.blk s H scope (compEnvC scope cl C X.env) fp) elt (liftE X.K te)) (hs : ∀ x, foldedSetIterable iter X.env x = pure x := by intro _; rfl) :
    PE X (.ListComp elt [⟨tg, iter, ifs, 0⟩] scope pos) (liftE X.K (dLc w g tt te (own.map (·.2)))) :=
  pe_mono (pe_lc hc hN hi ok hg ht he hs) fun _ _ _ => lift_lc hws
end

/-! ### calls of own defs -/
mutual
def ren (f : Nat → Nat) : D → D
  | .lr n => .lr (f n)
  | .tup ds => .tup (rens f ds)
  | .ztup ds => .ztup (rens f ds)
  | .rl ds => .rl (rens f ds)
  | .exc a d c w => .exc a d c (ren f w)
  | d => d
def rens (f : Nat → Nat) : List D → List D
  | [] => []
  | d :: ds => ren f d :: rens f ds
end
def renE (f : Nat → Nat) : Ent → Ent
  | .lst ds => .lst (rens f ds)
  | .dct kvs => .dct (kvs.map fun p => (p.1, ren f p.2))
theorem rens_map (f : Nat → Nat) : ∀ ds : List D, rens f ds = ds.map (ren f)
  | [] => rfl
  | d :: ds => by rw [rens, rens_map f ds]; rfl
def rn (m : List Nat) (n : Nat) : Nat → Nat := fun i => (m[i]?).getD (n + (i - m.length))
def setAll : List Nat → List Ent → Store → Store
  | n :: m, e :: es, S => setAll m es (S.set n e)
  | _, _, S => S
def callD (sp : DSp) (ds : List D) (S : Store) (post : DK) : Prop := ∃ (m : List Nat) (ds' : List D) (Sc : Store), m.Nodup ∧ rens (rn m S.length) ds' = ds ∧ Sc.length = m.length ∧ (∀ (i n : Nat) (e : Ent), m[i]? = some n → Sc[i]? = some e → S[n]? = some (renE (rn m S.length) e)) ∧
  sp ds' Sc fun d S' => post (ren (rn m S.length) d) (setAll m ((S'.take m.length).map (renE (rn m S.length))) S ++ (S'.drop m.length).map (renE (rn m S.length)))
def dCall (sp : DSp) (t : DA) : DE := fun ρ S post => t ρ S fun ds S1 => callD sp ds S1 post
section
variable {K : PySem.W.Frag} {H : Hp} {A1 A2 : List Addr} {f : Nat → Nat}
mutual
theorem RelD.unren (h : ∀ i a, A2[f i]? = some a → A1[i]? = some a) : ∀ {d : D} {v : V}, RelD K H A2 (ren f d) v → RelD K H A1 d v
  | .non, _, r => r
  | .bl _, _, r => r
  | .int _, _, r => r
  | .str _, _, r => r
  | .tup _, _, ⟨a, vs, h1, h2, h3⟩ => ⟨a, vs, h1, h2, RelDs.unren h h3⟩
  | .ztup _, _, ⟨a, vs, h1, h2, h3⟩ => ⟨a, vs, h1, h2, RelDs.unren h h3⟩
  | .rl _, _, ⟨a, vs, h1, h2, h3⟩ => ⟨a, vs, h1, h2, RelDs.unren h h3⟩
  | .lr _, _, ⟨a, h1, h2⟩ => ⟨a, h1, h _ a h2⟩
  | .exc _ _ _ _, _, ⟨h1, u, h2, h3⟩ => ⟨h1, u, h2, RelD.unren h h3⟩
  | .opq _, _, r => r
theorem RelDs.unren (h : ∀ i a, A2[f i]? = some a → A1[i]? = some a) : ∀ {ds : List D} {vs : List V}, RelDs K H A2 (rens f ds) vs → RelDs K H A1 ds vs
  | [], _, r => r
  | _ :: _, _, ⟨v, w, h1, h2, h3⟩ => ⟨v, w, h1, RelD.unren h h2, RelDs.unren h h3⟩
end
mutual
theorem RelD.ren (h : ∀ (i : Nat) (a : Addr), A1[i]? = some a → A2[f i]? = some a) : ∀ {d : D} {v : V}, RelD K H A1 d v → RelD K H A2 (DL.ren f d) v
  | .non, _, r => r
  | .bl _, _, r => r
  | .int _, _, r => r
  | .str _, _, r => r
  | .tup _, _, ⟨a, vs, h1, h2, h3⟩ => ⟨a, vs, h1, h2, RelDs.ren h h3⟩
  | .ztup _, _, ⟨a, vs, h1, h2, h3⟩ => ⟨a, vs, h1, h2, RelDs.ren h h3⟩
  | .rl _, _, ⟨a, vs, h1, h2, h3⟩ => ⟨a, vs, h1, h2, RelDs.ren h h3⟩
  | .lr _, _, ⟨a, h1, h2⟩ => ⟨a, h1, h _ a h2⟩
  | .exc _ _ _ _, _, ⟨h1, u, h2, h3⟩ => ⟨h1, u, h2, RelD.ren h h3⟩
  | .opq _, _, r => r
theorem RelDs.ren (h : ∀ (i : Nat) (a : Addr), A1[i]? = some a → A2[f i]? = some a) : ∀ {ds : List D} {vs : List V}, RelDs K H A1 ds vs → RelDs K H A2 (rens f ds) vs
  | [], _, r => r
  | _ :: _, _, ⟨v, w, h1, h2, h3⟩ => ⟨v, w, h1, RelD.ren h h2, RelDs.ren h h3⟩
end
theorem map_snd_ren (kvs : List (Key × D)) : (kvs.map fun p => (p.1, ren f p.2)).map (·.2) = rens f (kvs.map (·.2)) := by
  rw [rens_map, List.map_map, List.map_map]
  rfl
theorem RelE.ren (h : ∀ (i : Nat) (a : Addr), A1[i]? = some a → A2[f i]? = some a) {e : Ent} {a : Addr} (r : RelE K H A1 e a) : RelE K H A2 (renE f e) a := by
  cases e with
  | lst ds =>
    obtain ⟨vs, h1, h2⟩ := r
    exact ⟨vs, h1, h2.ren h⟩
  | dct kvs =>
    obtain ⟨ws, h1, h2, h3⟩ := r
    refine ⟨ws, h1, by rw [h2, List.map_map]; rfl, ?_⟩
    rw [map_snd_ren]
    exact h3.ren h
theorem RelE.unren (h : ∀ i a, A2[f i]? = some a → A1[i]? = some a) {e : Ent} {a : Addr} (r : RelE K H A2 (renE f e) a) : RelE K H A1 e a := by
  cases e with
  | lst ds =>
    obtain ⟨vs, h1, h2⟩ := r
    exact ⟨vs, h1, h2.unren h⟩
  | dct kvs =>
    obtain ⟨ws, h1, h2, h3⟩ := r
    rw [map_snd_ren] at h3
    refine ⟨ws, h1, ?_, h3.unren h⟩
    rw [h2, List.map_map]
    rfl
theorem setAll_len : ∀ (m : List Nat) (es : List Ent) (S : Store), (setAll m es S).length = S.length
  | [], _, _ => rfl
  | _ :: _, [], _ => rfl
  | n :: m, e :: es, S => by rw [setAll, setAll_len m es, List.length_set]
theorem setAll_out : ∀ (m : List Nat) (es : List Ent) (S : Store) (n : Nat), n ∉ m → (setAll m es S)[n]? = S[n]?
  | [], _, _, _, _ => rfl
  | _ :: _, [], _, _, _ => rfl
  | k :: m, e :: es, S, n, h => by
    rw [setAll, setAll_out m es _ n fun z => h (List.mem_cons_of_mem _ z), List.getElem?_set_ne fun z => h (by rw [z]; exact List.mem_cons_self)]
theorem setAll_in : ∀ (m : List Nat) (es : List Ent) (S : Store) (i n : Nat) (e : Ent), m.Nodup → m[i]? = some n → es[i]? = some e → n < S.length → (setAll m es S)[n]? = some e
  | [], _, _, _, _, _, _, h, _, _ => by simp at h
  | _ :: _, [], _, _, _, _, _, _, h, _ => by simp at h
  | k :: m, e' :: es, S, 0, n, e, hd, h1, h2, hl => by
    simp at h1 h2
    subst h1 h2
    rw [setAll, setAll_out m es _ k (List.nodup_cons.mp hd).1, List.getElem?_set_self hl]
  | k :: m, e' :: es, S, i + 1, n, e, hd, h1, h2, hl => by
    rw [setAll]
    exact setAll_in m es _ i n e (List.nodup_cons.mp hd).2 (by simpa using h1) (by simpa using h2) (by rw [List.length_set]; exact hl)
end
theorem callD_inv {K : PySem.W.Frag} {H : Hp} {A : List Addr} {S Sc : Store} {m : List Nat} {ds ds' : List D} {vs : List V} (s : RelS K H A S) (r : RelDs K H A ds vs) (hm : m.Nodup) (hds : rens (rn m S.length) ds' = ds) (hl : Sc.length = m.length)
    (hsub : ∀ (i n : Nat) (e : Ent), m[i]? = some n → Sc[i]? = some e → S[n]? = some (renE (rn m S.length) e)) : ∃ Ac, RelS K H Ac Sc ∧ RelDs K H Ac ds' vs ∧ ∀ (post : DK) (Q : VK), KontE K H A post Q →
      KontE K H Ac (fun d S' => post (ren (rn m S.length) d) (setAll m ((S'.take m.length).map (renE (rn m S.length))) S ++ (S'.drop m.length).map (renE (rn m S.length)))) Q := by
  let Ac : List Addr := m.map fun n => (A[n]?).getD 0
  have hAc : ∀ (i n : Nat), m[i]? = some n → ∃ a, A[n]? = some a ∧ Ac[i]? = some a ∧ n < S.length := fun i n hi => by
    have hil : i < Sc.length := by
      rw [hl]
      exact (List.getElem?_eq_some_iff.mp hi).1
    have q := hsub i n Sc[i] hi (List.getElem?_eq_getElem hil)
    obtain ⟨a, ha, _⟩ := s.ent n _ q
    refine ⟨a, ha, ?_, (List.getElem?_eq_some_iff.mp q).1⟩
    show (m.map fun n => (A[n]?).getD 0)[i]? = some a
    rw [List.getElem?_map, hi, Option.map_some, ha]
    rfl
  have lAc : Ac.length = m.length := by
    show (m.map _).length = _
    rw [List.length_map]
  have un : ∀ (i : Nat) (a : Addr), A[rn m S.length i]? = some a → Ac[i]? = some a := fun i a hi => by
    by_cases him : i < m.length
    · have hi' : m[i]? = some m[i] := List.getElem?_eq_getElem him
      obtain ⟨b, hb, hb2, _⟩ := hAc i _ hi'
      have e : rn m S.length i = m[i] := by
        unfold rn
        rw [hi']
        rfl
      rw [e, hb] at hi
      cases hi
      exact hb2
    · exfalso
      have e : rn m S.length i = S.length + (i - m.length) := by
        unfold rn
        rw [List.getElem?_eq_none (by omega)]
        rfl
      rw [e] at hi
      have q := (List.getElem?_eq_some_iff.mp hi).1
      rw [s.len] at q
      omega
  have ndAc : Ac.Nodup := by
    rw [List.nodup_iff_pairwise_ne] at *
    rw [List.pairwise_iff_getElem]
    intro i j hi hj hij e
    rw [lAc] at hi hj
    obtain ⟨a, ha, ha2, hla⟩ := hAc i m[i] (List.getElem?_eq_getElem hi)
    obtain ⟨b, hb, hb2, hlb⟩ := hAc j m[j] (List.getElem?_eq_getElem hj)
    have e1 : a = b := by
      have g1 := List.getElem?_eq_getElem (l := Ac) (by rw [lAc]; exact hi)
      have g2 := List.getElem?_eq_getElem (l := Ac) (by rw [lAc]; exact hj)
      rw [g1] at ha2
      rw [g2] at hb2
      rw [← Option.some.inj ha2, ← Option.some.inj hb2]
      exact e
    subst e1
    have q : m[i] = m[j] := (List.getElem?_inj (by rw [← s.len]; exact hla) s.nd).mp (ha.trans hb.symm)
    exact (List.pairwise_iff_getElem.mp hm) i j hi hj hij q
  have sC : RelS K H Ac Sc := by
    refine ⟨by rw [hl, lAc], ndAc, fun i e hi => ?_, s.tabs⟩
    have him : i < m.length := by
      rw [← hl]
      exact (List.getElem?_eq_some_iff.mp hi).1
    have hi' : m[i]? = some m[i] := List.getElem?_eq_getElem him
    have q := hsub i _ e hi' hi
    obtain ⟨a, ha, ha2, _⟩ := hAc i _ hi'
    exact ⟨a, ha2, (s.get q ha).unren un⟩
  have rC : RelDs K H Ac ds' vs := RelDs.unren (f := rn m S.length) un (by rw [hds]; exact r)
  refine ⟨Ac, sC, rC, fun post Q k v H' Ac' d S' e s' r' p => ?_⟩
  obtain ⟨B, rfl, fB⟩ := e.pre
  have e2 : Ext H A H' (A ++ B) := by
    refine ⟨⟨B, rfl, fB⟩, fun a o q => ?_⟩
    rcases e.keep a o q with g | ⟨g1, g2⟩ | g1
    · exact .inl g
    · obtain ⟨i, hi⟩ := List.mem_iff_getElem?.mp g1
      have him : i < m.length := by
        rw [← lAc]
        exact (List.getElem?_eq_some_iff.mp hi).1
      obtain ⟨b, hb, hb2, _⟩ := hAc i _ (List.getElem?_eq_getElem him)
      rw [hi] at hb2
      cases hb2
      exact .inr (.inl ⟨List.mem_iff_getElem?.mpr ⟨_, hb⟩, g2⟩)
    · exact .inr (.inr g1)
  have rnok : ∀ (i : Nat) (a : Addr), (Ac ++ B)[i]? = some a → (A ++ B)[rn m S.length i]? = some a := fun i a hi => by
    by_cases him : i < m.length
    · have hi' : m[i]? = some m[i] := List.getElem?_eq_getElem him
      obtain ⟨b, hb, hb2, _⟩ := hAc i _ hi'
      have en : rn m S.length i = m[i] := by
        unfold rn
        rw [hi']
        rfl
      rw [List.getElem?_append_left (by rw [lAc]; exact him), hb2] at hi
      cases hi
      rw [en, List.getElem?_append_left (List.getElem?_eq_some_iff.mp hb).1]
      exact hb
    · have en : rn m S.length i = S.length + (i - m.length) := by
        unfold rn
        rw [List.getElem?_eq_none (by omega)]
        rfl
      rw [List.getElem?_append_right (by rw [lAc]; omega), lAc] at hi
      rw [en, s.len, List.getElem?_append_right (by omega), Nat.add_sub_cancel_left]
      exact hi
  have hlen : S'.length = m.length + B.length := by rw [s'.len, List.length_append, lAc]
  refine k v H' (A ++ B) _ _ e2 ?_ (r'.ren rnok) p
  refine ⟨?_, ?_, fun n en hn => ?_, s'.tabs⟩
  · rw [List.length_append, setAll_len, List.length_map, List.length_drop, hlen, List.length_append, s.len]
    omega
  · refine List.nodup_append.mpr ⟨s.nd, (List.nodup_append.mp s'.nd).2.1, fun a ha b hb z => ?_⟩
    subst z
    exact s.notin0 (fB a hb) ha
  · by_cases hns : n < S.length
    · rw [List.getElem?_append_left (by rw [setAll_len]; exact hns)] at hn
      have hna : n < A.length := by rw [← s.len]; exact hns
      refine ⟨A[n], by rw [List.getElem?_append_left hna]; exact List.getElem?_eq_getElem hna, ?_⟩
      by_cases hnm : n ∈ m
      · obtain ⟨i, hi⟩ := List.mem_iff_getElem?.mp hnm
        have him : i < m.length := (List.getElem?_eq_some_iff.mp hi).1
        have hiS : i < S'.length := by omega
        have g : ((S'.take m.length).map (renE (rn m S.length)))[i]? = some (renE (rn m S.length) S'[i]) := by
          rw [List.getElem?_map, List.getElem?_take, if_pos him, List.getElem?_eq_getElem hiS]
          rfl
        rw [setAll_in m _ S i n _ hm hi g hns] at hn
        cases hn
        obtain ⟨a, ha, ha2, _⟩ := hAc i n hi
        have ea : A[n] = a := by
          rw [List.getElem?_eq_getElem hna] at ha
          exact Option.some.inj ha
        rw [ea]
        have q := s'.get (List.getElem?_eq_getElem hiS) (by rw [List.getElem?_append_left (by rw [lAc]; exact him)]; exact ha2)
        exact q.ren rnok
      · rw [setAll_out m _ S n hnm] at hn
        have q := s.get hn (List.getElem?_eq_getElem hna)
        refine q.ext e2 fun o qo => ?_
        rcases e.keep _ o qo with g | ⟨g1, _⟩ | ⟨_, g1⟩
        · exact g
        rotate_left
        · have z := s.ld (List.getElem_mem hna) qo
          subst g1
          rcases z with ⟨_, z⟩ | ⟨_, z⟩ | ⟨_, _, z⟩ <;> cases z
        · exfalso
          obtain ⟨i, hi⟩ := List.mem_iff_getElem?.mp g1
          have him : i < m.length := by
            rw [← lAc]
            exact (List.getElem?_eq_some_iff.mp hi).1
          obtain ⟨b, hb, hb2, _⟩ := hAc i _ (List.getElem?_eq_getElem him)
          rw [hi] at hb2
          cases hb2
          have z : n = m[i] := (List.getElem?_inj hna s.nd).mp ((List.getElem?_eq_getElem hna).trans hb.symm)
          exact hnm (by rw [z]; exact List.getElem_mem him)
    · rw [List.getElem?_append_right (by rw [setAll_len]; omega), setAll_len, List.getElem?_map, List.getElem?_drop] at hn
      cases q : S'[m.length + (n - S.length)]? with
      | none =>
        rw [q] at hn
        cases hn
      | some e0 =>
        rw [q] at hn
        have en0 : renE (rn m S.length) e0 = en := Option.some.inj hn
        subst en0
        obtain ⟨a, ha, ra⟩ := s'.ent _ _ q
        refine ⟨a, ?_, ra.ren rnok⟩
        rw [List.getElem?_append_right (by rw [lAc]; omega), lAc, Nat.add_sub_cancel_left] at ha
        rw [List.getElem?_append_right (by rw [← s.len]; omega), ← s.len]
        exact ha
theorem lift_callD {K : PySem.W.Frag} {sp : DSp} {H : Hp} {A : List Addr} {S : Store} {ds : List D} {vs : List V} {post : DK} {Q : VK} {E : XK} (s : RelS K H A S) (r : RelDs K H A ds vs) (h : callD sp ds S post) (k : KontE K H A post Q) : spL K sp vs H Q E := by
  obtain ⟨m, ds', Sc, hm, hds, hl, hsub, hsp⟩ := h
  obtain ⟨Ac, sC, rC, kk⟩ := callD_inv s r hm hds hl hsub
  exact ⟨Ac, ds', Sc, _, sC, rC, hsp, kk _ _ k⟩
section
variable {X : Cx} {k : Nat} {fa : Addr} {fd : FuncData} {ps : List Str} {sp : DSp} {x : Str} {p pos : Pos} {e : Expr} {es : List Expr} {t : DA}
theorem de_call (F : FnOk X.prog X.w X.K X.mg X.base CX0 k fa fd ps (spL X.K sp)) (hr : Room k X.A) (hg : Gl X x) (hm : X.mg x = some (.ref fa)) (hk : PySem.W.keepIn X.K (.ref fa) = true) (hb : Binds X.K fd ps [])
    (ha : PA X (e :: es) (liftA X.K t)) (hdb : (x == ("__debug__" : Str)) = false := by decide) (he : starEach (e :: es) X.env = (false, eval e X.env) :: starEach es X.env := by rfl) (hpl : (backTo pos (starEach es X.env)).any (·.1) = false := by rfl) :
    PE X (.Call (.Name x p) (e :: es) [] pos) (liftE X.K (dCall sp t)) :=
  pe_mono (pe_call (dvs := []) F hr hg hm hk hb .nil pass0 ha hdb he hpl) fun σ H Q ⟨A, ρ, S, post, n, s, h, kk⟩ => ⟨A, ρ, S, _, n, s, h, fun vs H' A' ds S' e s' r p1 => by
    show spL X.K sp (vs ++ []) H' Q E0
    rw [List.append_nil]
    exact lift_callD s' r p1 (kk.go e)⟩
end

/-! ### a def keeps its promise -/
def fnEnd (S : Store) (post : DK) : DK := fun d S' => (∃ n, S.length ≤ n ∧ below n d = true ∧ (S'.take n).all (belowE n) = true ∧ post d (S'.take n)) ∨
  ∃ (j : Nat) (e : Ent), d = .lr j ∧ S.length ≤ j ∧ S'[j]? = some e ∧ belowE S.length e = true ∧ (S'.take S.length).all (belowE S.length) = true ∧ post (.lr S.length) (S'.take S.length ++ [e])
def startD (N : List Str) (ds : List D) : DEnv := ds.map some ++ List.replicate (N.length - ds.length) none
theorem RelN.start {K : PySem.W.Frag} {H : Hp} {A : List Addr} {N : List Str} {ds : List D} {vs : List V} (r : RelDs K H A ds vs) : RelN K H A (startD N ds) (L2.start N vs) := by
  have hl := r.len
  refine ⟨by simp [startD, L2.start, hl], fun i d h => ?_⟩
  unfold startD at h
  by_cases hi : i < ds.length
  · rw [List.getElem?_append_left (by simpa using hi), List.getElem?_map] at h
    cases q : ds[i]? with
    | none =>
      rw [q] at h
      cases h
    | some d' =>
      rw [q] at h
      simp at h
      subst h
      obtain ⟨v, hv, rv⟩ := r.get q
      refine ⟨v, ?_, rv⟩
      unfold L2.start
      rw [List.getElem?_append_left (by rw [List.length_map, hl]; exact hi), List.getElem?_map, hv]
      rfl
  · rw [List.getElem?_append_right (by simpa using hi)] at h
    rw [List.getElem?_replicate] at h
    split at h <;> simp at h
theorem fnFin {K : PySem.W.Frag} {A : List Addr} {S : Store} {H : Hp} {post : DK} {Q : VK} (s : RelS K H A S) (kk : KontE K H A post Q) : KontE K H A (fnEnd S post) Q := by
  intro v H' A' d S' e s' r' h'
  rcases h' with ⟨n, h1, h2, h3, h4⟩ | ⟨j, en, rfl, h1, h2, h3, h4, h5⟩
  · exact kk v H' (A'.take n) d (S'.take n) (e.take (by rw [← s.len]; exact h1)) (s'.take h3) (r'.take h2) h4
  · obtain ⟨a, rfl, ha⟩ := r'
    obtain ⟨B, rfl, fB⟩ := e.pre
    have hsl : S.length = A.length := s.len
    have hjA : A.length ≤ j := by rw [← hsl]; exact h1
    have haB : a ∈ B := by
      rw [List.getElem?_append_right hjA] at ha
      exact List.mem_iff_getElem?.mpr ⟨_, ha⟩
    have hna : a ∉ A := s.notin0 (fB a haB)
    have tk : (A ++ B).take S.length = A := by rw [hsl, List.take_left']; rfl
    have s2 : RelS K H' A (S'.take S.length) := by
      have q := s'.take h4
      rwa [tk] at q
    have e2 : Ext H A H' (A ++ [a]) := ⟨⟨[a], rfl, fun b hb => by rw [List.mem_singleton.mp hb]; exact fB a haB⟩, e.keep⟩
    have ren0 : RelE K H' A en a := by
      have q := s'.get h2 ha
      have q' : RelE K H' ((A ++ B).take S.length) en a := by
        cases en with
        | lst ds =>
          obtain ⟨vs, g1, g2⟩ := q
          exact ⟨vs, g1, g2.takeA h3⟩
        | dct kvs =>
          obtain ⟨ws, g1, g2, g3⟩ := q
          exact ⟨ws, g1, g2, g3.takeA h3⟩
      rwa [tk] at q'
    refine kk (.ref a) H' (A ++ [a]) (.lr S.length) (S'.take S.length ++ [en]) e2 (s2.push hna (ren0.keep (fun _ _ q _ => q) fun _ q => q)) ⟨a, rfl, ?_⟩ h5
    rw [hsl, List.getElem?_append_right (Nat.le_refl _), Nat.sub_self]
    rfl
theorem fnBody {W : WX} {K : PySem.W.Frag} {N : List Str} {tb : DS} {A : List Addr} {S : Store} {H : Hp} {ds : List D} {vs : List V} {post : DK} {Q : VK} (s : RelS K H A S) (r : RelDs K H A ds vs)
    (hd : tb ⟨fun _ S' => fnEnd S post .non S', fnEnd S post, fun _ _ => False, fun _ _ => False, fun _ _ _ _ => False⟩ (startD N ds) S) (kk : KontE K H A post Q) : liftS K W tb { nx := fun _ H' => Q .non H', rt := Q } (L2.start N vs) H := by
  have fin : KontE K H A (fnEnd S post) Q := fnFin s kk
  exact ⟨A, startD N ds, S, _, RelN.start r, s, hd, fun σ' H' A' ρ' S' e n' s' p => fin .non H' A' .non S' e s' rfl p, fin, fun _ _ _ _ _ _ _ _ p => p.elim, ⟨fun _ _ _ _ _ _ _ _ p => p.elim, kontX0⟩⟩
theorem fn_okD {P : Program} {w : World} {K : PySem.W.Frag} {mg : Str → Option Value} {base : Heap} {x qual : Str} {st : Stmt} {f : Addr} {fd : FuncData} {N ps : List Str} {k : Nat} {sp : DSp} {tb : DS} (F : Fun K x qual st f fd) (Sc : FnScope N ps (defScope st))
    (hl : ∀ ds S post, sp ds S post → ds.length = ps.length)
    (hb : ∀ (cdv : Value) (A : Around) (outer : List Env) (s : Shared) (H : Hp) (E : XK), Room k (A.deeper (envOfC qual (defScope st) s.heap.objs.size f cdv)) → PSs (cxOf CX0 P w K mg base N qual (defScope st) f cdv A outer s H E).nox (defBody st) (liftS K W0 tb))
    (hd : ∀ ds S post, sp ds S post → tb ⟨fun _ S' => fnEnd S post .non S', fnEnd S post, fun _ _ => False, fun _ _ => False, fun _ _ _ _ => False⟩ (startD N ds) S) : FnOk P w K mg base CX0 (k + 1) f fd ps (spL K sp) := by
  refine F.ok Sc (fun vs H Q E ⟨A, ds, S, post, s, r, h, kk⟩ => by rw [r.len]; exact hl ds S post h) (fun cdv A0 outer s0 H vs Q E hr ⟨A, ds, S, post, s, r, h, kk⟩ => ⟨_, hb cdv A0 outer s0 H E hr, ?_⟩)
  exact fnBody s r (hd ds S post h) kk
end DL
/-! DQ: repr; defs under no running repr. -/
namespace DL
open PySem PySem.Spec PyProof.Rows L2
variable [HasT]

/-! ### data that may be shown and compared -/
structure FineP (c k : Nat) (p : PyData) : Prop where
  sh : p.showable = true
  nd : p.hasDict = false
  lf : p.leavesShort 100 = true
  cl : p.canLay0 = true
  wt : p.weight ≤ c
  dp : p.depth ≤ k
structure FineA (c k : Nat) (ps : List PyData) : Prop where
  sh : PyData.showableAll ps = true
  nd : PyData.hasDictAll ps = false
  lf : PyData.leavesShortAll 100 ps = true
  cl : PyData.canLayAll0 ps = true
  wt : PyData.weightAll ps ≤ c
  dp : PyData.depthAll ps ≤ k
def Fine (c k : Nat) (d : D) : Prop := plain d = true ∧ FineP c k (toP d)
theorem FineP.mono {c k c' k' : Nat} {p : PyData} (h : FineP c k p) (hc : c ≤ c') (hk : k ≤ k') : FineP c' k' p := ⟨h.sh, h.nd, h.lf, h.cl, Nat.le_trans h.wt hc, Nat.le_trans h.dp hk⟩
theorem Fine.mono {c k c' k' : Nat} {d : D} (h : Fine c k d) (hc : c ≤ c') (hk : k ≤ k') : Fine c' k' d := ⟨h.1, h.2.mono hc hk⟩
theorem log2_small {n : Nat} (h : n < 2 ^ 64) : n.log2 < 64 := by
  by_cases h0 : n = 0
  · subst h0
    decide
  · exact (Nat.log2_lt h0).mpr h
theorem fineP_int {i : Int} (h : i.natAbs < 2 ^ 64) : FineP 64 0 (.int i) := by
  have hl := log2_small h
  refine ⟨?_, rfl, ?_, rfl, ?_, Nat.le_refl _⟩
  · show decide (i.natAbs.log2 < 1920) = true
    exact decide_eq_true (by omega)
  · show decide ((PyData.shown (.int i)).length ≤ 100) = true
    refine decide_eq_true ?_
    have e := int_text_length_le (a := i) (k := 64) (by decide) hl
    show (Str.ofString (toString i)).length ≤ 100
    rw [PySem.ofString_length]
    omega
  · show (if i == 0 then 0 else i.natAbs.log2 + 1) ≤ 64
    split <;> omega
theorem fine_int {i : Int} (h : i.natAbs < 2 ^ 64) : Fine 64 0 (.int i) := ⟨rfl, fineP_int h⟩
theorem fine_bl {b : Bool} : Fine 0 0 (.bl b) := ⟨rfl, rfl, rfl, rfl, rfl, Nat.le_refl _, Nat.le_refl _⟩
theorem fine_non : Fine 0 0 .non := ⟨rfl, rfl, rfl, rfl, rfl, Nat.le_refl _, Nat.le_refl _⟩
theorem fineA_of {c k : Nat} : ∀ {ds : List D}, (∀ d ∈ ds, Fine c k d) → plains ds = true ∧ FineA (ds.length * (c + 1)) k (toPs ds)
  | [], _ => ⟨rfl, rfl, rfl, rfl, rfl, Nat.zero_le _, Nat.zero_le _⟩
  | d :: ds, h => by
    obtain ⟨h1, h2⟩ := h d List.mem_cons_self
    obtain ⟨g1, g2⟩ := fineA_of fun e he => h e (List.mem_cons_of_mem _ he)
    refine ⟨by rw [plains, h1, g1]; rfl, ?_⟩
    rw [toPs]
    refine ⟨by rw [PyData.showableAll, h2.sh, g2.sh]; rfl, by rw [PyData.hasDictAll, h2.nd, g2.nd]; rfl, by rw [PyData.leavesShortAll, h2.lf, g2.lf]; rfl, by rw [PyData.canLayAll0, h2.cl, g2.cl]; rfl, ?_, ?_⟩
    · have a := h2.wt
      have b := g2.wt
      have e : (ds.length + 1) * (c + 1) = ds.length * (c + 1) + (c + 1) := Nat.succ_mul _ _
      rw [PyData.weightAll, List.length_cons, e]
      omega
    · have a := h2.dp
      have b := g2.dp
      rw [PyData.depthAll]
      omega
theorem fine_tup {c k : Nat} {ds : List D} (h : ∀ d ∈ ds, Fine c k d) : Fine (ds.length * (c + 1)) (k + 1) (.tup ds) := by
  obtain ⟨h1, h2⟩ := fineA_of h
  refine ⟨by rw [plain]; exact h1, ?_⟩
  rw [toP]
  refine ⟨by rw [PyData.showable]; exact h2.sh, by rw [PyData.hasDict]; exact h2.nd, by rw [PyData.leavesShort]; exact h2.lf, by rw [PyData.canLay0]; exact h2.cl, ?_, ?_⟩
  · rw [PyData.weight]
    exact h2.wt
  · rw [PyData.depth]
    have := h2.dp
    omega
theorem fine_rl {c k : Nat} {ds : List D} (h : ∀ d ∈ ds, Fine c k d) : Fine (ds.length * (c + 1)) (k + 1) (.rl ds) := by
  obtain ⟨h1, h2⟩ := fineA_of h
  refine ⟨by rw [plain]; exact h1, ?_⟩
  rw [toP]
  refine ⟨by rw [PyData.showable]; exact h2.sh, by rw [PyData.hasDict]; exact h2.nd, by rw [PyData.leavesShort]; exact h2.lf, by rw [PyData.canLay0]; exact h2.cl, ?_, ?_⟩
  · rw [PyData.weight]
    exact h2.wt
  · rw [PyData.depth]
    have := h2.dp
    omega
theorem FineP.shaped {c k : Nat} {p : PyData} (h : FineP c k p) (hk : k ≤ 64) : SeqAt.shaped p = true := by
  unfold SeqAt.shaped
  rw [h.cl, decide_eq_true (Nat.le_trans h.dp hk)]
  rfl
theorem FineP.size {p : PyData} {k : Nat} (h : FineP 100000 k p) : p.shown.length ≤ sizeLine := by
  have a := PyData.shown_le 100 (by decide) p h.lf
  have b := h.wt
  rw [sizeLine_eq]
  omega

/-! ### repr -/
def cRepr : DC := fun ds S post => ∃ x p, ds = [x] ∧ dataOf S x p ∧ FineP 100000 60 p ∧ post (.str p.shown) S
def rRepr (K : PySem.W.Frag) : List V → Hp → VK → Prop := fun xs H Q => ∃ x p, xs = [x] ∧ Dp K H x p ∧ FineP 100000 60 p ∧ Q (.str p.shown) H
theorem call_repr_dp {X : Cx} (hg : X.A.guards = some []) (hu : X.A.units + 64 < cLine) : CallR X (.builtin "repr") (rRepr X.K) := by
  intro pins s σ H xs us Q I r h
  obtain ⟨x, p, rfl, hd, hf, q⟩ := h
  obtain ⟨u, rfl, rx⟩ := vals1 r
  have hsz := hf.size
  cases hd with
  | non =>
    cases rx
    exact PySem.P.repr_of_none ⟨.str _, H, I.tok _, ⟨_, rfl⟩, q⟩
  | bl b =>
    cases rx
    refine PySem.P.repr_of_bool ⟨.str _, H, I.tok _, ⟨_, rfl⟩, ?_⟩
    cases b <;> exact q
  | int i =>
    obtain ⟨t, rfl⟩ := rx
    have hs : decide (i.natAbs.log2 < 1920) = true := hf.sh
    exact PySem.P.repr_of_int (of_decide_eq_true hs) ⟨.str _, H, I.tok _, ⟨_, rfl⟩, q⟩
  | str z =>
    obtain ⟨t, rfl⟩ := rx
    exact PySem.P.repr_of_str ⟨.str _, H, I.tok _, ⟨_, rfl⟩, q⟩ hsz
  | lst h1 h2 =>
    obtain ⟨as, hr⟩ := Dp.reads I _ _ _ (Dp.lst h1 h2) rx
    cases rx
    have hdp := hf.dp
    exact repr_of_reads' hr hf.sh (fun z => by rw [hf.nd] at z; cases z) hg (by omega) (fun _ _ e => e) (fun h' u tk kp => ⟨.str _, H, I.kept (t' := tk) kp, ⟨_, rfl⟩, q⟩) hsz
  | tup h1 h2 =>
    obtain ⟨as, hr⟩ := Dp.reads I _ _ _ (Dp.tup h1 h2) rx
    cases rx
    have hdp := hf.dp
    exact repr_of_reads' hr hf.sh (fun z => by rw [hf.nd] at z; cases z) hg (by omega) (fun _ _ e => e) (fun h' u tk kp => ⟨.str _, H, I.kept (t' := tk) kp, ⟨_, rfl⟩, q⟩) hsz
theorem rul_repr {K : PySem.W.Frag} : RulC K cRepr (rRepr K) := by
  intro H A S ds vs post Q s r hh k
  obtain ⟨x, p, rfl, hq, hf, h⟩ := hh
  obtain ⟨v, rfl, rv⟩ := rels1 r
  exact ⟨v, p, rfl, hq.rel s rv, hf, k.now (d := .str p.shown) s rfl h⟩
theorem cr_max {X : Cx} (hc : X.calm = true) : CallR X (.builtin "max") (fun xs H Q => ∃ i j, xs = [.int i, .int j] ∧ Q (.int ((fun i j => if j > i then j else i) i j)) H) := call_max2 hc
theorem cr_min {X : Cx} (hc : X.calm = true) : CallR X (.builtin "min") (fun xs H Q => ∃ i j, xs = [.int i, .int j] ∧ Q (.int ((fun i j => if j < i then j else i) i j)) H) := call_min2 hc

/-! ### defs under no running repr -/
structure FnG (P : Program) (w : World) (K : PySem.W.Frag) (mg : Str → Option Value) (base : Heap) (CX : CXT) (k : Nat) (f : Addr) (fd : FuncData) (ps : List Str) (sp : Sp) : Prop where
  len : ∀ vs H Q E, sp vs H Q E → vs.length = ps.length
  run : ∀ (A : Around) (outer : List Env) (s : Shared) (H : Hp) (args : Args) (us : List Value) (vs : List V) (Q : VK) (E : XK),
    A.guards = some [] → Room k A → Env0 P w K mg base A outer s H → BindsTo s fd args (ps.zip us) → Vals vs us → sp vs H Q E → codeAny (model P w) A (.call (.ref f) args) (CR CX outer P w H s Q E) s
theorem FnG.mono {P : Program} {w : World} {K : PySem.W.Frag} {mg : Str → Option Value} {base : Heap} {CX : CXT} {j k : Nat} {f : Addr} {fd : FuncData} {ps : List Str} {sp : Sp} (F : FnG P w K mg base CX j f fd ps sp) (h : j ≤ k) : FnG P w K mg base CX k f fd ps sp :=
  ⟨F.len, fun A outer s H args us vs Q E hg hr => F.run A outer s H args us vs Q E hg (hr.mono h)⟩
section
variable {X : Cx} {CX : CXT} {k : Nat} {fa : Addr} {fd : FuncData} {ps ks : List Str} {sp : Sp} {E : XK}
theorem runG {pins : List (Addr × Obj)} {σ : L2.St} {H : Hp} {s : Shared} {Q : VK} {us : List Value} {vs : List V} (F : FnG X.prog X.w X.K X.mg X.base CX k fa fd ps sp) (hg : X.A.guards = some []) (hr : Room k X.A) (hb : L2.Binds X.K fd ps []) (hx : Passes CX X E)
    (I : Inv X pins σ H s) (rv : Vals vs us) (h : sp vs H Q E) : wpAny (model X.prog X.w) X.A (call (.ref fa) us) (EP X pins σ Q) X.xe s := by
  have hl : (us ++ []).length = ps.length := by
    rw [List.append_nil, ← rv.length]
    exact F.len _ _ _ _ h
  have bt := hb s us I.kIn hl
  rw [List.append_nil] at bt
  refine wpAny_call (codeAny_mono (F.run X.A X.stack s H ⟨us, []⟩ us vs Q E hg hr I.env0 bt rv h) fun r s' hq => ?_)
  cases r with
  | error ex => exact hx pins σ H s ex s' I hq
  | ok fl =>
    cases fl with
    | ret u => exact I.after hq
    | next => exact hq.elim
    | brk => exact hq.elim
    | cont => exact hq.elim
theorem pe_callG {x : Str} {p pos : Pos} {e : Expr} {es : List Expr} {t : TA} (F : FnG X.prog X.w X.K X.mg X.base CX k fa fd ps sp) (hgd : X.A.guards = some []) (hr : Room k X.A) (hg : Gl X x) (hm : X.mg x = some (.ref fa)) (hk : PySem.W.keepIn X.K (.ref fa) = true) (hb : L2.Binds X.K fd ps []) (hx : Passes CX X E)
    (ha : PA X (e :: es) t) (hdb : (x == ("__debug__" : Str)) = false) (he : starEach (e :: es) X.env = (false, eval e X.env) :: starEach es X.env) (hpl : (backTo pos (starEach es X.env)).any (·.1) = false) :
    PE X (.Call (.Name x p) (e :: es) [] pos) (tCall sp [] E t) := by
  refine ⟨fun pins s σ H Q I h => wpAny_Call_Name_kw (ld_glob I hg hm ?_ hdb)⟩
  refine PySem.W.callWith_K (h₀ := X.base) I.ok.mod.kin hk (thn (ha.run pos pins s σ H _ I h) fun us s1 ⟨vs, H1, I1, r, q⟩ => ⟨I1.kIn, ?_⟩) he hpl
  have q' : sp (vs ++ []) H1 Q E := q
  rw [List.append_nil] at q'
  exact runG F hgd hr hb hx I1 r q'
end
theorem fnG_ofC {CX : CXT} {P : Program} {w : World} {K : PySem.W.Frag} {mg : Str → Option Value} {base : Heap} {k : Nat} {f : Addr} {x qual : Str} {st : Stmt} {fd : FuncData} {N ps : List Str} {sp : Sp} (F : Fun K x qual st f fd) (Sc : FnScope N ps (defScope st))
    (len : ∀ vs H Q E, sp vs H Q E → vs.length = ps.length)
    (hbody : ∀ (cdv : Value), fd.code = cdv → ∀ (A : Around) (outer : List Env) (s : Shared) (H : Hp) (vs : List V) (Q : VK) (E : XK), (A.deeper (envOfC qual (defScope st) s.heap.objs.size f cdv)).guards = some [] → Room k (A.deeper (envOfC qual (defScope st) s.heap.objs.size f cdv)) → sp vs H Q E →
      ∃ t, PSs (cxOf CX P w K mg base N qual (defScope st) f cdv A outer s H E) (defBody st) t ∧ t { nx := fun _ H' => Q .non H', rt := Q } (L2.start N vs) H) : FnG P w K mg base CX (k + 1) f fd ps sp := by
  obtain ⟨oc, od, kV, doc, pm, an, cdv, ct, osl, rfl, lk, hcd⟩ := F.ex
  refine ⟨len, fun A outer s H args us vs Q E hg hr e0 hb r hsp => ?_⟩
  have hlen := len _ _ _ _ hsp
  have kin : K.In s.heap := e0.mod.kin.keeps fun b o e => (e0.bs b o e).1
  have nolim : s.heap.NoLimit := e0.mod.nolimit.keeps fun b o e => (e0.bs b o e).1
  have kinds : ∀ y ∈ ps.zip us, (defScope st).names.lookup y.1 = some .local ∨ ((defScope st).names.lookup y.1 = some .cell ∧ ((cellsFrom (s.heap.objs.size + 1) (defScope st).names []).lookup y.1).isSome = true) := by
    intro y hy
    have hm : y.1 ∈ ps := (List.of_mem_zip (show (y.1, y.2) ∈ ps.zip us from hy)).1
    rcases Sc.par y.1 hm with q | q
    · exact .inl q
    · exact .inr ⟨q, PySem.W.cellsFrom_some _ _ _ (.inl q)⟩
  refine codeAny_call_function hr.depth (kin _ _ lk) rfl Sc.co Sc.gen rfl (PySem.W.codeRec_of kin hcd) (hb _ _ _ _ (wpAny_newFunctionEnv_cells Sc.kind kinds fun env he s1 x => ?_))
  subst he
  refine ⟨nolim.keeps x.toInCall.keep, codeAny_func ?_⟩
  obtain ⟨t, ht, hq⟩ := hbody cdv rfl A outer s H vs Q E hg (hr.deeper _) hsp
  have I := inv_start (CX := CX) (E := E) Sc hr.hd e0 hlen r x
  refine wpAny_mono (ht.run [] s1 _ H _ I hq) (fun fl s' hs => ?_) fun e s' hs => hs
  match fl, hs with
  | .ret u, ⟨v, σ', H', J, rv, q⟩ => exact ⟨v, H', J.os, J.bare, J.base, J.hok, rv, q⟩
  | .next, ⟨σ', H', J, q⟩ => exact ⟨V.non, H', J.os, J.bare, J.base, J.hok, rfl, q⟩
  | .brk, ⟨_, _, _, q⟩ => exact False.elim q
  | .cont, ⟨_, _, _, q⟩ => exact False.elim q
theorem fnG_of {CX : CXT} {P : Program} {w : World} {K : PySem.W.Frag} {mg : Str → Option Value} {base : Heap} {k : Nat} {f : Addr} {x qual : Str} {st : Stmt} {fd : FuncData} {N ps : List Str} {sp : Sp} (F : Fun K x qual st f fd) (Sc : FnScope N ps (defScope st))
    (len : ∀ vs H Q E, sp vs H Q E → vs.length = ps.length)
    (hbody : ∀ (cdv : Value) (A : Around) (outer : List Env) (s : Shared) (H : Hp) (vs : List V) (Q : VK) (E : XK), (A.deeper (envOfC qual (defScope st) s.heap.objs.size f cdv)).guards = some [] → Room k (A.deeper (envOfC qual (defScope st) s.heap.objs.size f cdv)) → sp vs H Q E →
      ∃ t, PSs (cxOf CX P w K mg base N qual (defScope st) f cdv A outer s H E) (defBody st) t ∧ t { nx := fun _ H' => Q .non H', rt := Q } (L2.start N vs) H) : FnG P w K mg base CX (k + 1) f fd ps sp :=
  fnG_ofC F Sc len fun cdv _ => hbody cdv
end DL
/-! ZE: next of a zip whose last tuple may still be held; enumerate over a zip. -/
namespace DL
open PySem
variable [HasT]
open Sem (wp)

abbrev ZRec (h : Heap) (z : Addr) (f0 : Value) (f1 : Bool) (TI TO : Addr) : Prop :=
  h.get? z = some { cls := .type "zip", dict := none, data := .fields #[f0, .bool f1, .bool false, .ref TI, .ref TO], slots := #[] }
def ZF (f0 : Value) : Prop := f0 = .none ∨ ∃ T : Nat, f0 = rawInt T

section
variable {prog : Program} {w : World} {A : Around} {E : Value → Shared → Prop} {s : Shared} {z TI TO i1 i2 : Addr} {fp1 fp2 : List Addr} {n1 n2 i : Nat} {P1 P2 : Nat → Value → Prop} {St1 St2 : Nat → Heap → Prop} {f0 : Value} {f1 : Bool}

theorem zfree {Q : Bool → Shared → Prop} (hz : ZRec s.heap z f0 f1 TI TO) (hf : ZF f0) (h1 : Q true s) (h2 : ∀ h', ZRec h' z f0 true TI TO → Heap.SameBut z s.heap h' → Q false { s with heap := h' }) :
    wpAny (model prog w) A (Builtin.SmallTypes.ownedTupleIsFree (.ref z)) Q E s := by
  unfold Builtin.SmallTypes.ownedTupleIsFree
  rcases hf with rfl | ⟨T, rfl⟩
  · exact wpAny_bind (wpAny_field hz rfl (x := .none) rfl (wpAny_pure h1))
  · refine wpAny_bind (wpAny_field hz rfl (x := rawInt T) rfl ?_)
    show wpAny _ _ (loadIfAlive ((T : Int).toNat) >>= _) _ _ _
    have la : ∀ (a : Addr) (Q : Option Obj → Shared → Prop), Q (s.heap.get? a) s → wpAny (model prog w) A (loadIfAlive a) Q E s := fun a Q q _ _ _ => q
    refine wpAny_bind (la _ _ ?_)
    cases hq : s.heap.get? ((T : Int).toNat) with
    | none =>
      simp only [Option.isNone_none, if_true]
      exact wpAny_pure h1
    | some o =>
      simp only [Option.isNone_some, Bool.false_eq_true, if_false]
      refine wpAny_bind (wpAny_field hz rfl (x := .bool f1) rfl ?_)
      cases f1 with
      | true =>
        rw [if_neg (by decide)]
        exact wpAny_pure (h2 s.heap hz (Heap.SameBut.refl _ _))
      | false =>
        rw [if_pos (by decide)]
        exact wpAny_bind (wpAny_setField_rec hz (by simp) fun g' zg' sg' => wpAny_pure (h2 g' zg' sg'))

/-- next of a zip over two iterators -/
theorem znext {Q : Value → Shared → Prop} (S : ZipSep2 z TI TO i1 i2 fp1 fp2) (D1 : Draws prog w A i1 fp1 n1 P1 St1) (D2 : Draws prog w A i2 fp2 n2 P2 St2)
    (hz : ZRec s.heap z f0 f1 TI TO) (hf : ZF f0) (hTI : IsTupOf2 s.heap TI (.ref i1) (.ref i2)) (hTO : ∃ a1 a2, IsTupOf2 s.heap TO a1 a2) (st1 : St1 i s.heap) (st2 : St2 i s.heap) (hlt1 : i < n1) (hlt2 : i < n2)
    (hQ : ∀ x1 x2 h' tk g0 g1, P1 i x1 → P2 i x2 → ZF g0 → ZRec h' z g0 g1 TI TO → (∃ a1 a2, IsTupOf2 h' TO a1 a2) → St1 (i + 1) h' → St2 (i + 1) h' → IsTupOf2 h' s.heap.objs.size x1 x2 → h'.objs.size = s.heap.objs.size + 1 →
      (∀ c o, c ≠ z → c ≠ TO → c ≠ i1 → c ≠ i2 → s.heap.get? c = some o → h'.get? c = some o) → Q (.ref s.heap.objs.size) { s with heap := h', toks := tk }) :
    wpAny (model prog w) A (Builtin.«zip.__next__» ⟨[.ref z], []⟩) (fun fin s' => ∃ v, fin = .done (.ret v) ∧ Q v s') E s := by
  obtain ⟨b1, b2, hTO⟩ := hTO
  obtain ⟨hp, gs, dr, tk0, os⟩ := s
  show wpAny _ _ (field (.ref z) 2 >>= _) _ _ _
  refine wpAny_bind (wpAny_field hz rfl (x := .bool false) rfl ?_)
  show wpAny _ _ (field (.ref z) 3 >>= _) _ _ _
  refine wpAny_bind (wpAny_field hz rfl (x := .ref TI) rfl ?_)
  refine wpAny_bind (wpAny_seqItems hTI rfl ?_)
  refine wpAny_bind (zfree hz hf ?_ fun ha za sa => ?_)
  · -- its own pair is free
    simp only [if_true]
    refine wpAny_bind (wpAny_rule (wpAny_bind (wpAny_field hz rfl (x := .ref TO) rfl ?_)))
    refine wpAny_bind (wpAny_setField_rec hz (by simp) fun ha za sa => ?_)
    replace za : ZRec ha z .ellipsis f1 TI TO := za
    replace sa : Heap.SameBut z hp ha := sa
    refine wpAny_bind ?_
    simp only [List.zipIdx_cons, List.zipIdx_nil, List.forIn_cons, List.forIn_nil]
    refine wpAny_bind (wpAny_bind (wpAny_onRaise ?_))
    show wpAny _ _ (Builtin.SmallTypes.nextOf (.ref i1) >>= _) _ _ ⟨ha, gs, dr, tk0, os⟩
    refine wpAny_bind (D1.item i _ _ _ hlt1 (D1.over st1 sa S.zf1) fun x1 hb tk1 px1 t1b sb => wpAny_pure ?_)
    replace sb : Heap.SameBut i1 ha hb := sb
    have ub : IsTupOf2 hb TO b1 b2 := sb.extBut _ _ S.Ti1 (sa.extBut _ _ S.TOz hTO)
    refine wpAny_bind (wpAny_seqItems (s := ⟨hb, gs, dr, tk1, os⟩) ub rfl ?_)
    refine wpAny_bind (updateSeq_IsTupOf2 (s := ⟨hb, gs, dr, tk1, os⟩) ub fun hc uc sc => ?_)
    replace uc : IsTupOf2 hc TO x1 b2 := uc
    replace sc : Heap.SameBut TO hb hc := sc
    refine wpAny_bind (wpAny_letGo (wpAny_pure (wpAny_bind (wpAny_bind (wpAny_onRaise ?_)))))
    show wpAny _ _ (Builtin.SmallTypes.nextOf (.ref i2) >>= _) _ _ ⟨hc, gs, dr, tk1, os⟩
    refine wpAny_bind (D2.item i _ _ _ hlt2 (D2.over (D2.over (D2.over st2 sa S.zf2) sb S.sep1_2) sc S.Tf2) fun x2 hd tk2 px2 t2d sd => wpAny_pure ?_)
    replace sd : Heap.SameBut i2 hc hd := sd
    have ud : IsTupOf2 hd TO x1 b2 := sd.extBut _ _ S.Ti2 uc
    refine wpAny_bind (wpAny_seqItems (s := ⟨hd, gs, dr, tk2, os⟩) ud rfl ?_)
    refine wpAny_bind (updateSeq_IsTupOf2 (s := ⟨hd, gs, dr, tk2, os⟩) ud fun he ue se => ?_)
    replace ue : IsTupOf2 he TO x1 x2 := ue
    replace se : Heap.SameBut TO hd he := se
    refine wpAny_bind (wpAny_letGo (wpAny_pure (wpAny_pure ?_)))
    refine wpAny_bind (wpAny_seqItems (s := ⟨he, gs, dr, tk2, os⟩) ue rfl (wpAny_bind (wpAny_newTuple ?_)))
    have sz : he.objs.size = hp.objs.size := by rw [se.1, sd.1, sc.1, sb.1, sa.1]
    have zz : ZRec he z .ellipsis f1 TI TO := se.extBut _ _ S.TOz.symm (sd.extBut _ _ S.zi2 (sc.extBut _ _ S.TOz.symm (sb.extBut _ _ S.zi1 za)))
    have kk : ∀ c o, c ≠ z → c ≠ TO → c ≠ i1 → c ≠ i2 → hp.get? c = some o → he.get? c = some o := fun c o q1 q2 q3 q4 y => se.extBut _ _ q2 (sd.extBut _ _ q4 (sc.extBut _ _ q2 (sb.extBut _ _ q3 (sa.extBut _ _ q1 y))))
    have w1 : St1 (i + 1) he := D1.over (D1.over (D1.over t1b sc S.Tf1) sd S.sep2_1) se S.Tf1
    have w2 : St2 (i + 1) he := D2.over t2d se S.Tf2
    have zlt : z < he.objs.size := Heap.lt_size zz
    refine wpAny_bind ?_
    unfold Builtin.SmallTypes.ownedTupleHandOut
    have zp : ZRec (he.push { cls := .type "tuple", data := .seq #[x1, x2] }) z .ellipsis f1 TI TO := Heap.get?_push_of_some _ zz
    refine wpAny_bind (wpAny_setField_rec (s := ⟨he.push { cls := .type "tuple", data := .seq #[x1, x2] }, gs, dr, tk2, os⟩) zp (by simp) fun hf' zf' sf' => ?_)
    replace zf' : ZRec hf' z (rawInt he.objs.size) f1 TI TO := zf'
    refine wpAny_setField_rec zf' (by simp) fun hg' zg' sg' => ?_
    replace zg' : ZRec hg' z (rawInt he.objs.size) false TI TO := zg'
    replace sf' : Heap.SameBut z (he.push { cls := .type "tuple", data := .seq #[x1, x2] }) hf' := sf'
    replace sg' : Heap.SameBut z hf' hg' := sg'
    have up : ∀ c o, c ≠ z → he.get? c = some o → hg'.get? c = some o := fun c o q y => sg'.extBut _ _ q (sf'.extBut _ _ q (Heap.get?_push_of_some _ y))
    have tT : IsTupOf2 hg' he.objs.size x1 x2 := sg'.extBut _ _ (Nat.ne_of_gt zlt) (sf'.extBut _ _ (Nat.ne_of_gt zlt) (Heap.get?_push_size _ rfl))
    have zs : hg'.objs.size = he.objs.size + 1 := by rw [sg'.1, sf'.1, Heap.size_push]
    rw [sz] at zg' tT zs
    refine wpAny_pure ⟨_, rfl, ?_⟩
    show Q (.ref he.objs.size) ⟨hg', gs, dr, tk2, os⟩
    rw [sz]
    exact hQ x1 x2 hg' tk2 _ _ px1 px2 (.inr ⟨_, rfl⟩) zg' ⟨_, _, up _ _ S.TOz ue⟩ (D1.frame _ _ _ w1 fun b hb' o y => up b o (fun q => S.zf1 (q ▸ hb')) y) (D2.frame _ _ _ w2 fun b hb' o y => up b o (fun q => S.zf2 (q ▸ hb')) y) tT zs fun c o q1 q2 q3 q4 y => up c o q1 (kk c o q1 q2 q3 q4 y)
  · -- the last pair is still held
    simp only [Bool.false_eq_true, if_false]
    replace sa : Heap.SameBut z hp ha := sa
    refine wpAny_bind ?_
    rw [← Array.forIn_toList]
    simp only [List.forIn_cons, List.forIn_nil]
    refine wpAny_bind (wpAny_bind (wpAny_holding ?_))
    show wpAny _ _ (Builtin.SmallTypes.nextOf (.ref i1) >>= _) _ _ ⟨ha, gs, dr, tk0, os⟩
    refine wpAny_bind (D1.item i _ _ _ hlt1 (D1.over st1 sa S.zf1) fun x1 hb tk1 px1 t1b sb => wpAny_pure (wpAny_pure ?_))
    replace sb : Heap.SameBut i1 ha hb := sb
    refine wpAny_bind (wpAny_bind (wpAny_holding ?_))
    show wpAny _ _ (Builtin.SmallTypes.nextOf (.ref i2) >>= _) _ _ ⟨hb, gs, dr, tk1, os⟩
    refine wpAny_bind (D2.item i _ _ _ hlt2 (D2.over (D2.over st2 sa S.zf2) sb S.sep1_2) fun x2 hc tk2 px2 t2c sc => wpAny_pure (wpAny_pure (wpAny_pure ?_)))
    replace sc : Heap.SameBut i2 hb hc := sc
    show wpAny _ _ (newTuple [x1, x2] >>= _) _ _ ⟨hc, gs, dr, tk2, os⟩
    refine wpAny_bind (wpAny_newTuple ?_)
    have sz : hc.objs.size = hp.objs.size := by rw [sc.1, sb.1, sa.1]
    have zz : ZRec hc z f0 true TI TO := sc.extBut _ _ S.zi2 (sb.extBut _ _ S.zi1 za)
    have uu : IsTupOf2 hc TO b1 b2 := sc.extBut _ _ S.Ti2 (sb.extBut _ _ S.Ti1 (sa.extBut _ _ S.TOz hTO))
    have kk : ∀ c o, c ≠ z → c ≠ TO → c ≠ i1 → c ≠ i2 → hp.get? c = some o → hc.get? c = some o := fun c o q1 _ q3 q4 y => sc.extBut _ _ q4 (sb.extBut _ _ q3 (sa.extBut _ _ q1 y))
    have w1 : St1 (i + 1) hc := D1.over t1b sc S.sep2_1
    have pu : ∀ {c o}, hc.get? c = some o → (hc.push { cls := .type "tuple", data := .seq #[x1, x2] }).get? c = some o := fun y => Heap.get?_push_of_some _ y
    have tT : IsTupOf2 (hc.push { cls := .type "tuple", data := .seq #[x1, x2] }) hc.objs.size x1 x2 := Heap.get?_push_size _ rfl
    have zs : (hc.push { cls := .type "tuple", data := .seq #[x1, x2] }).objs.size = hc.objs.size + 1 := Heap.size_push ..
    refine wpAny_pure ⟨_, rfl, ?_⟩
    show Q (.ref hc.objs.size) _
    rw [sz] at tT zs ⊢
    exact hQ x1 x2 _ tk2 _ _ px1 px2 hf (pu zz) ⟨_, _, pu uu⟩ (D1.frame _ _ _ w1 fun b _ o y => pu y) (D2.frame _ _ _ t2c fun b _ o y => pu y) tT zs fun c o q1 q2 q3 q4 y => pu (kk c o q1 q2 q3 q4 y)

/-- .. at its end -/
theorem znext_end {Q : Fin → Shared → Prop} (S : ZipSep2 z TI TO i1 i2 fp1 fp2) (D1 : Draws prog w A i1 fp1 n1 P1 St1) (D2 : Draws prog w A i2 fp2 n2 P2 St2)
    (hz : ZRec s.heap z f0 f1 TI TO) (hf : ZF f0) (hTI : IsTupOf2 s.heap TI (.ref i1) (.ref i2)) (hTO : ∃ a1 a2, IsTupOf2 s.heap TO a1 a2) (st1 : St1 i s.heap) (st2 : St2 i s.heap) (hend : i = n1 ∨ (i < n1 ∧ i = n2))
    (hE : ∀ h' tk e, (∀ c o, c ≠ z → c ≠ TO → c ≠ i1 → c ≠ i2 → s.heap.get? c = some o → h'.get? c = some o) → (∃ o, h'.get? e = some o ∧ o.cls = .type "StopIteration") → E (.ref e) { s with heap := h', toks := tk }) :
    wpAny (model prog w) A (Builtin.«zip.__next__» ⟨[.ref z], []⟩) Q E s := by
  obtain ⟨b1, b2, hTO⟩ := hTO
  obtain ⟨hp, gs, dr, tk0, os⟩ := s
  show wpAny _ _ (field (.ref z) 2 >>= _) _ _ _
  refine wpAny_bind (wpAny_field hz rfl (x := .bool false) rfl ?_)
  show wpAny _ _ (field (.ref z) 3 >>= _) _ _ _
  refine wpAny_bind (wpAny_field hz rfl (x := .ref TI) rfl ?_)
  refine wpAny_bind (wpAny_seqItems hTI rfl ?_)
  refine wpAny_bind (zfree hz hf ?_ fun ha za sa => ?_)
  · simp only [if_true]
    refine wpAny_bind (wpAny_rule (wpAny_bind (wpAny_field hz rfl (x := .ref TO) rfl ?_)))
    refine wpAny_bind (wpAny_setField_rec hz (by simp) fun ha za sa => ?_)
    replace za : ZRec ha z .ellipsis f1 TI TO := za
    replace sa : Heap.SameBut z hp ha := sa
    refine wpAny_bind ?_
    simp only [List.zipIdx_cons, List.zipIdx_nil, List.forIn_cons, List.forIn_nil]
    refine wpAny_bind (wpAny_bind (wpAny_onRaise ?_))
    show wpAny _ _ (Builtin.SmallTypes.nextOf (.ref i1) >>= _) _ _ ⟨ha, gs, dr, tk0, os⟩
    -- an iterator has ended
    have stop : ∀ {hq hr : Heap} {j e : Addr} {tk : Nat}, Heap.ExtBut j hq hr → ZRec hq z .ellipsis f1 TI TO → z ≠ j → (∀ c o, c ≠ z → c ≠ TO → c ≠ i1 → c ≠ i2 → hp.get? c = some o → hr.get? c = some o) → (∃ o, hr.get? e = some o ∧ o.cls = .type "StopIteration") →
        wpAny (model prog w) A (setField (.ref z) 0 .none) (fun _ s' => E (.ref e) s') (fun e' s' => E e' s') ⟨hr, gs, dr, tk, os⟩ := fun {hq hr j e tk} sq zq nj kp hst => by
      obtain ⟨oe, q1, q2⟩ := hst
      have zr : ZRec hr z .ellipsis f1 TI TO := sq _ _ nj zq
      have ez : e ≠ z := fun y => by
        subst y
        rw [zr] at q1
        cases q1
        simp at q2
      refine wpAny_setField_rec (s := ⟨hr, gs, dr, tk, os⟩) zr (by simp) fun hs' _ ss' => ?_
      replace ss' : Heap.SameBut z hr hs' := ss'
      exact hE hs' tk e (fun c o c1 c2 c3 c4 y => ss'.extBut _ _ c1 (kp c o c1 c2 c3 c4 y)) ⟨oe, ss'.extBut _ _ ez q1, q2⟩
    rcases hend with rfl | ⟨hlt, rfl⟩
    · refine wpAny_bind (D1.done ⟨ha, gs, dr, tk0, os⟩ _ _ (D1.over st1 sa S.zf1) fun hb e xb hst => ?_)
      replace xb : Heap.ExtBut i1 ha hb := xb
      exact stop xb za S.zi1 (fun c o c1 c2 c3 c4 y => xb _ _ c3 (sa.extBut _ _ c1 y)) hst
    · refine wpAny_bind (D1.item i _ _ _ hlt (D1.over st1 sa S.zf1) fun x1 hb tk1 px1 t1b sb => wpAny_pure ?_)
      replace sb : Heap.SameBut i1 ha hb := sb
      have ub : IsTupOf2 hb TO b1 b2 := sb.extBut _ _ S.Ti1 (sa.extBut _ _ S.TOz hTO)
      refine wpAny_bind (wpAny_seqItems (s := ⟨hb, gs, dr, tk1, os⟩) ub rfl ?_)
      refine wpAny_bind (updateSeq_IsTupOf2 (s := ⟨hb, gs, dr, tk1, os⟩) ub fun hc uc sc => ?_)
      replace sc : Heap.SameBut TO hb hc := sc
      refine wpAny_bind (wpAny_letGo (wpAny_pure (wpAny_bind (wpAny_bind (wpAny_onRaise ?_)))))
      show wpAny _ _ (Builtin.SmallTypes.nextOf (.ref i2) >>= _) _ _ ⟨hc, gs, dr, tk1, os⟩
      refine wpAny_bind (D2.done ⟨hc, gs, dr, tk1, os⟩ _ _ (D2.over (D2.over (D2.over st2 sa S.zf2) sb S.sep1_2) sc S.Tf2) fun hd e xd hst => ?_)
      replace xd : Heap.ExtBut i2 hc hd := xd
      exact stop xd (sc.extBut _ _ S.TOz.symm (sb.extBut _ _ S.zi1 za)) S.zi2 (fun c o c1 c2 c3 c4 y => xd _ _ c4 (sc.extBut _ _ c2 (sb.extBut _ _ c3 (sa.extBut _ _ c1 y)))) hst
  · simp only [Bool.false_eq_true, if_false]
    replace sa : Heap.SameBut z hp ha := sa
    refine wpAny_bind ?_
    rw [← Array.forIn_toList]
    simp only [List.forIn_cons, List.forIn_nil]
    refine wpAny_bind (wpAny_bind (wpAny_holding ?_))
    show wpAny _ _ (Builtin.SmallTypes.nextOf (.ref i1) >>= _) _ _ ⟨ha, gs, dr, tk0, os⟩
    rcases hend with rfl | ⟨hlt, rfl⟩
    · refine wpAny_bind (D1.done ⟨ha, gs, dr, tk0, os⟩ _ _ (D1.over st1 sa S.zf1) fun hb e xb hst => ?_)
      replace xb : Heap.ExtBut i1 ha hb := xb
      exact hE hb tk0 e (fun c o c1 c2 c3 c4 y => xb _ _ c3 (sa.extBut _ _ c1 y)) hst
    · refine wpAny_bind (D1.item i _ _ _ hlt (D1.over st1 sa S.zf1) fun x1 hb tk1 px1 t1b sb => wpAny_pure (wpAny_pure ?_))
      replace sb : Heap.SameBut i1 ha hb := sb
      refine wpAny_bind (wpAny_bind (wpAny_holding ?_))
      show wpAny _ _ (Builtin.SmallTypes.nextOf (.ref i2) >>= _) _ _ ⟨hb, gs, dr, tk1, os⟩
      refine wpAny_bind (D2.done ⟨hb, gs, dr, tk1, os⟩ _ _ (D2.over (D2.over st2 sa S.zf2) sb S.sep1_2) fun hc e xc hst => ?_)
      replace xc : Heap.ExtBut i2 hb hc := xc
      exact hE hc tk1 e (fun c o c1 c2 c3 c4 y => xc _ _ c4 (sb.extBut _ _ c3 (sa.extBut _ _ c1 y))) hst
end
end DL
/-! ZF: enumerate over a zip of two; what it walks over data. -/
namespace DL
open PySem
variable [HasT]
open Sem (wp)
section
variable {prog : Program} {w : World} {A : Around} {E : Value → Shared → Prop} {s : Shared} {z TI TO i1 i2 : Addr} {fp1 fp2 : List Addr} {n1 n2 i : Nat} {P1 P2 : Nat → Value → Prop} {St1 St2 : Nat → Heap → Prop} {f0 : Value} {f1 : Bool}
theorem znextOf {Q : Value → Shared → Prop} (S : ZipSep2 z TI TO i1 i2 fp1 fp2) (D1 : Draws prog w A.in1 i1 fp1 n1 P1 St1) (D2 : Draws prog w A.in1 i2 fp2 n2 P2 St2)
    (hz : ZRec s.heap z f0 f1 TI TO) (hf : ZF f0) (hTI : IsTupOf2 s.heap TI (.ref i1) (.ref i2)) (hTO : ∃ a1 a2, IsTupOf2 s.heap TO a1 a2) (st1 : St1 i s.heap) (st2 : St2 i s.heap) (hlt1 : i < n1) (hlt2 : i < n2)
    (hQ : ∀ x1 x2 h' tk g0 g1, P1 i x1 → P2 i x2 → ZF g0 → ZRec h' z g0 g1 TI TO → (∃ a1 a2, IsTupOf2 h' TO a1 a2) → St1 (i + 1) h' → St2 (i + 1) h' → IsTupOf2 h' s.heap.objs.size x1 x2 → h'.objs.size = s.heap.objs.size + 1 →
      (∀ c o, c ≠ z → c ≠ TO → c ≠ i1 → c ≠ i2 → s.heap.get? c = some o → h'.get? c = some o) → Q (.ref s.heap.objs.size) { s with heap := h', toks := tk }) :
    wpAny (model prog w) A (Builtin.SmallTypes.nextOf (.ref z)) Q E s := by
  have ty : s.TypeIs (.ref z) "zip" := ⟨_, hz, rfl⟩
  unfold Builtin.SmallTypes.nextOf
  exact wpAny_bind (wpAny_callSpecial?_slot (name := Str.ofString "__next__") ty F.slot_zip_next (wpAny_call_entry F.slot_zip_next ty F.entry_zip_next
    (znext S D1 D2 hz hf hTI hTO st1 st2 hlt1 hlt2 fun x1 x2 h' tk g0 g1 q1 q2 q3 q4 q5 q6 q7 q8 q9 q10 => wpAny_pure (hQ x1 x2 h' tk g0 g1 q1 q2 q3 q4 q5 q6 q7 q8 q9 q10)) (F.args_zip_next_1 _)))
theorem znextOf_end {Q : Value → Shared → Prop} (S : ZipSep2 z TI TO i1 i2 fp1 fp2) (D1 : Draws prog w A.in1 i1 fp1 n1 P1 St1) (D2 : Draws prog w A.in1 i2 fp2 n2 P2 St2)
    (hz : ZRec s.heap z f0 f1 TI TO) (hf : ZF f0) (hTI : IsTupOf2 s.heap TI (.ref i1) (.ref i2)) (hTO : ∃ a1 a2, IsTupOf2 s.heap TO a1 a2) (st1 : St1 i s.heap) (st2 : St2 i s.heap) (hend : i = n1 ∨ (i < n1 ∧ i = n2))
    (hE : ∀ h' tk e, (∀ c o, c ≠ z → c ≠ TO → c ≠ i1 → c ≠ i2 → s.heap.get? c = some o → h'.get? c = some o) → (∃ o, h'.get? e = some o ∧ o.cls = .type "StopIteration") → E (.ref e) { s with heap := h', toks := tk }) :
    wpAny (model prog w) A (Builtin.SmallTypes.nextOf (.ref z)) Q E s := by
  have ty : s.TypeIs (.ref z) "zip" := ⟨_, hz, rfl⟩
  unfold Builtin.SmallTypes.nextOf
  exact wpAny_bind (wpAny_callSpecial?_slot (name := Str.ofString "__next__") ty F.slot_zip_next (wpAny_call_entry F.slot_zip_next ty F.entry_zip_next
    (znext_end S D1 D2 hz hf hTI hTO st1 st2 hend hE) (F.args_zip_next_1 _)))

/-- next of an enumerate over a zip -/
theorem eznext {Q : Value → Shared → Prop} {e : Addr} {c : Int} {old : Value} (S : ZipSep2 z TI TO i1 i2 fp1 fp2) (D1 : Draws prog w A.in1 i1 fp1 n1 P1 St1) (D2 : Draws prog w A.in1 i2 fp2 n2 P2 St2)
    (ee : e ≠ z ∧ e ≠ TI ∧ e ≠ TO ∧ e ∉ fp1 ∧ e ∉ fp2) (he : IsEnum s.heap e z c old)
    (hz : ZRec s.heap z f0 f1 TI TO) (hf : ZF f0) (hTI : IsTupOf2 s.heap TI (.ref i1) (.ref i2)) (hTO : ∃ a1 a2, IsTupOf2 s.heap TO a1 a2) (st1 : St1 i s.heap) (st2 : St2 i s.heap) (hlt1 : i < n1) (hlt2 : i < n2)
    (hQ : ∀ x1 x2 h' tk t g0 g1, P1 i x1 → P2 i x2 → ZF g0 → ZRec h' z g0 g1 TI TO → IsTupOf2 h' TI (.ref i1) (.ref i2) → (∃ a1 a2, IsTupOf2 h' TO a1 a2) → St1 (i + 1) h' → St2 (i + 1) h' → IsTupOf2 h' s.heap.objs.size x1 x2 →
      IsEnumOut h' e z (c + 1) (.ref s.heap.objs.size) (s.heap.objs.size + 1) → IsTupOf2 h' (s.heap.objs.size + 1) (.int c t) (.ref s.heap.objs.size) → h'.objs.size = s.heap.objs.size + 2 →
      (∀ c o, c ≠ z → c ≠ TO → c ≠ i1 → c ≠ i2 → c ≠ e → s.heap.get? c = some o → h'.get? c = some o) → Q (.ref (s.heap.objs.size + 1)) { s with heap := h', toks := tk }) :
    wpAny (model prog w) A (Builtin.«enumerate.__next__» ⟨[.ref e], []⟩) (fun fin s' => ∃ v, fin = .done (.ret v) ∧ Q v s') E s := by
  obtain ⟨hp, gs, dr, tk0, os⟩ := s
  obtain ⟨ez, eTI, eTO, ef1, ef2⟩ := ee
  have e1 : e ≠ i1 := fun q => ef1 (q ▸ S.mem1)
  have e2 : e ≠ i2 := fun q => ef2 (q ▸ S.mem2)
  show wpAny _ _ (field (.ref e) 2 >>= _) _ _ _
  refine wpAny_bind (wpAny_field he rfl (x := .ref z) rfl ?_)
  refine wpAny_bind (znextOf S D1 D2 hz hf hTI hTO st1 st2 hlt1 hlt2 fun x1 x2 ha tka g0 g1 p1 p2 zf za uo ta tb tT sz kp => ?_)
  replace kp : ∀ c o, c ≠ z → c ≠ TO → c ≠ i1 → c ≠ i2 → hp.get? c = some o → ha.get? c = some o := kp
  replace sz : ha.objs.size = hp.objs.size + 1 := sz
  replace tT : IsTupOf2 ha hp.objs.size x1 x2 := tT
  have ea : IsEnum ha e z c old := kp _ _ ez eTO e1 e2 he
  have ui : IsTupOf2 ha TI (.ref i1) (.ref i2) := kp _ _ S.TIz S.TITO S.TIi1 S.TIi2 hTI
  obtain ⟨b1, b2, uo⟩ := uo
  show wpAny _ _ (field (.ref e) 3 >>= _) _ _ ⟨ha, gs, dr, tka, os⟩
  refine wpAny_bind (wpAny_field ea rfl (x := rawInt c) rfl ?_)
  show wpAny _ _ (field (.ref e) 4 >>= _) _ _ ⟨ha, gs, dr, tka, os⟩
  refine wpAny_bind (wpAny_field ea rfl (x := .none) rfl ?_)
  show wpAny _ _ (mkInt c >>= _) _ _ ⟨ha, gs, dr, tka, os⟩
  refine wpAny_bind (wpAny_mkInt ?_)
  show wpAny _ _ (setField (.ref e) 3 (rawInt (c + 1)) >>= _) _ _ ⟨ha, gs, dr, tka + 1, os⟩
  refine wpAny_bind (wpAny_setField_rec ea (by simp) fun hb eb sb => ?_)
  replace sb : Heap.SameBut e ha hb := sb
  replace eb : IsEnum hb e z (c + 1) old := eb
  show wpAny _ _ (setField (.ref e) 4 .none >>= _) _ _ ⟨hb, gs, dr, tka + 1, os⟩
  refine wpAny_bind (wpAny_setField_rec eb (by simp) fun hc ec sc => ?_)
  replace sc : Heap.SameBut e hb hc := sc
  replace ec : IsEnum hc e z (c + 1) old := ec
  show wpAny _ _ (newTuple [.int c tka, .ref hp.objs.size] >>= _) _ _ ⟨hc, gs, dr, tka + 1, os⟩
  refine wpAny_bind (wpAny_newTuple ?_)
  have szc : hc.objs.size = hp.objs.size + 1 := by rw [sc.1, sb.1, sz]
  have ed : IsEnum (hc.push { cls := .type "tuple", data := .seq #[.int c tka, .ref hp.objs.size] }) e z (c + 1) old := Heap.get?_push_of_some _ ec
  have td : IsTupOf2 (hc.push { cls := .type "tuple", data := .seq #[.int c tka, .ref hp.objs.size] }) hc.objs.size (.int c tka) (.ref hp.objs.size) := Heap.get?_push_size _ rfl
  have kd : ∀ b o, b ≠ e → ha.get? b = some o → (hc.push { cls := .type "tuple", data := .seq #[.int c tka, .ref hp.objs.size] }).get? b = some o := fun b o q y => Heap.get?_push_of_some _ (sc.extBut _ _ q (sb.extBut _ _ q y))
  have szd : (hc.push { cls := .type "tuple", data := .seq #[.int c tka, .ref hp.objs.size] }).objs.size = hp.objs.size + 2 := by rw [Heap.size_push, szc]
  generalize hhd : hc.push { cls := .type "tuple", data := .seq #[.int c tka, .ref hp.objs.size] } = hd at ed td kd szd
  rw [szc] at td
  show wpAny _ _ (Builtin.SmallTypes.ownedTupleIsFree (.ref e) >>= _) _ _ ⟨hd, gs, dr, tka + 1, os⟩
  refine wpAny_bind ?_
  unfold Builtin.SmallTypes.ownedTupleIsFree
  refine wpAny_bind (wpAny_field ed rfl (x := .none) rfl (wpAny_pure ?_))
  simp only [if_true]
  refine wpAny_bind (wpAny_rule (wpAny_bind (wpAny_field ed rfl (x := old) rfl ?_)))
  refine wpAny_bind (wpAny_setField_rec ed (by simp) fun hf' ef' sf' => ?_)
  replace sf' : Heap.SameBut e hd hf' := sf'
  replace ef' : IsEnum hf' e z (c + 1) (.ref hp.objs.size) := ef'
  rw [szc]
  show wpAny _ _ (Builtin.SmallTypes.ownedTupleHandOut (.ref e) (.ref (hp.objs.size + 1)) >>= _) _ _ ⟨hf', gs, dr, tka + 1, os⟩
  refine wpAny_bind ?_
  unfold Builtin.SmallTypes.ownedTupleHandOut
  refine wpAny_bind (wpAny_setField_rec ef' (by simp) fun hg' eg' sg' => ?_)
  replace sg' : Heap.SameBut e hf' hg' := sg'
  replace eg' : IsEnumOut hg' e z (c + 1) (.ref hp.objs.size) (hp.objs.size + 1) := eg'
  refine wpAny_setField_rec eg' (by simp) fun hh' eh' sh' => ?_
  replace sh' : Heap.SameBut e hg' hh' := sh'
  replace eh' : IsEnumOut hh' e z (c + 1) (.ref hp.objs.size) (hp.objs.size + 1) := eh'
  have elt : e < hp.objs.size := Heap.lt_size he
  have kk : ∀ b o, b ≠ e → hd.get? b = some o → hh'.get? b = some o := fun b o q y => sh'.extBut _ _ q (sg'.extBut _ _ q (sf'.extBut _ _ q y))
  have ka : ∀ b o, b ≠ e → ha.get? b = some o → hh'.get? b = some o := fun b o q y => kk b o q (kd b o q y)
  have n0 : (hp.objs.size : Nat) ≠ e := Nat.ne_of_gt elt
  have n1 : (hp.objs.size + 1 : Nat) ≠ e := Nat.ne_of_gt (Nat.lt_succ_of_lt elt)
  refine wpAny_bind (wpAny_letGo (wpAny_pure ⟨_, rfl, ?_⟩))
  exact hQ x1 x2 hh' _ tka g0 g1 p1 p2 zf (ka _ _ ez.symm za) (ka _ _ eTI.symm ui) ⟨b1, b2, ka _ _ eTO.symm uo⟩ (D1.frame _ _ _ ta fun b hb' o y => ka b o (fun q => ef1 (q ▸ hb')) y) (D2.frame _ _ _ tb fun b hb' o y => ka b o (fun q => ef2 (q ▸ hb')) y)
    (ka _ _ n0 tT) eh' (kk _ _ n1 td) (by rw [sh'.1, sg'.1, sf'.1, szd]) fun b o q1 q2 q3 q4 q5 y => ka b o q5 (kp b o q1 q2 q3 q4 y)

theorem pyNext_ez {Q : Option Value → Shared → Prop} {e : Addr} {c : Int} {old : Value} (S : ZipSep2 z TI TO i1 i2 fp1 fp2) (D1 : Draws prog w A.in1.in1 i1 fp1 n1 P1 St1) (D2 : Draws prog w A.in1.in1 i2 fp2 n2 P2 St2)
    (ee : e ≠ z ∧ e ≠ TI ∧ e ≠ TO ∧ e ∉ fp1 ∧ e ∉ fp2) (he : IsEnum s.heap e z c old)
    (hz : ZRec s.heap z f0 f1 TI TO) (hf : ZF f0) (hTI : IsTupOf2 s.heap TI (.ref i1) (.ref i2)) (hTO : ∃ a1 a2, IsTupOf2 s.heap TO a1 a2) (st1 : St1 i s.heap) (st2 : St2 i s.heap) (hlt1 : i < n1) (hlt2 : i < n2)
    (hQ : ∀ x1 x2 h' tk t g0 g1, P1 i x1 → P2 i x2 → ZF g0 → ZRec h' z g0 g1 TI TO → IsTupOf2 h' TI (.ref i1) (.ref i2) → (∃ a1 a2, IsTupOf2 h' TO a1 a2) → St1 (i + 1) h' → St2 (i + 1) h' → IsTupOf2 h' s.heap.objs.size x1 x2 →
      IsEnumOut h' e z (c + 1) (.ref s.heap.objs.size) (s.heap.objs.size + 1) → IsTupOf2 h' (s.heap.objs.size + 1) (.int c t) (.ref s.heap.objs.size) → h'.objs.size = s.heap.objs.size + 2 →
      (∀ c o, c ≠ z → c ≠ TO → c ≠ i1 → c ≠ i2 → c ≠ e → s.heap.get? c = some o → h'.get? c = some o) → Q (some (.ref (s.heap.objs.size + 1))) { s with heap := h', toks := tk }) :
    wpAny (model prog w) A (pyNext (.ref e)) Q E s := by
  have ty : s.TypeIs (.ref e) "enumerate" := ⟨_, he, rfl⟩
  unfold pyNext
  exact wpAny_bind (wpAny_attempt (wpAny_callSpecial?_slot (name := Str.ofString "__next__") ty F.slot_enumerate_next (wpAny_call_entry F.slot_enumerate_next ty F.entry_enumerate_next
    (eznext S D1 D2 ee he hz hf hTI hTO st1 st2 hlt1 hlt2 fun x1 x2 h' tk t g0 g1 q1 q2 q3 q4 q5 q6 q7 q8 q9 q10 q11 q12 q13 => wpAny_pure (hQ x1 x2 h' tk t g0 g1 q1 q2 q3 q4 q5 q6 q7 q8 q9 q10 q11 q12 q13)) (F.args_enumerate_next_1 _))))
theorem pyNext_ez_end {Q : Option Value → Shared → Prop} {e : Addr} {c : Int} {old : Value} (S : ZipSep2 z TI TO i1 i2 fp1 fp2) (D1 : Draws prog w A.in1.in1 i1 fp1 n1 P1 St1) (D2 : Draws prog w A.in1.in1 i2 fp2 n2 P2 St2)
    (he : IsEnum s.heap e z c old)
    (hz : ZRec s.heap z f0 f1 TI TO) (hf : ZF f0) (hTI : IsTupOf2 s.heap TI (.ref i1) (.ref i2)) (hTO : ∃ a1 a2, IsTupOf2 s.heap TO a1 a2) (st1 : St1 i s.heap) (st2 : St2 i s.heap) (hend : i = n1 ∨ (i < n1 ∧ i = n2))
    (hQ : ∀ h' tk, (∀ c o, c ≠ z → c ≠ TO → c ≠ i1 → c ≠ i2 → s.heap.get? c = some o → h'.get? c = some o) → Q none { s with heap := h', toks := tk }) :
    wpAny (model prog w) A (pyNext (.ref e)) Q E s := by
  have ty : s.TypeIs (.ref e) "enumerate" := ⟨_, he, rfl⟩
  unfold pyNext
  refine wpAny_bind (wpAny_attempt (wpAny_callSpecial?_slot (name := Str.ofString "__next__") ty F.slot_enumerate_next (wpAny_call_entry F.slot_enumerate_next ty F.entry_enumerate_next ?_ (F.args_enumerate_next_1 _))))
  show wpAny _ _ (field (.ref e) 2 >>= _) _ _ _
  refine wpAny_bind (wpAny_field he rfl (x := .ref z) rfl ?_)
  refine wpAny_bind (znextOf_end S D1 D2 hz hf hTI hTO st1 st2 hend fun h' tk x kp hst => ?_)
  obtain ⟨o, ho, hc⟩ := hst
  refine wpAny_bind (wpAny_isInstance (T := "StopIteration") (b := true) ⟨o, ho, hc⟩ isSubtype_stop ?_)
  exact wpAny_pure (hQ _ _ kp)
end

/-! ### enumerate(z) of a zip -/
section
variable {z : Addr}
set_option maxHeartbeats 1000000 in
theorem meets_enum_zip {f0 : Value} {f1 : Bool} {TI TO : Addr} (hf : f0 = .none) (hf1 : f1 = false) :
    Meets (Builtin.«enumerate.__new__» ⟨[.type "enumerate", .ref z], []⟩) (fun _ R s => ZRec s.heap z f0 f1 TI TO ∧
      R (.ok (.ret (.ref s.heap.objs.size))) { s with heap := s.heap.push { cls := .type "enumerate", data := .fields #[.none, .bool false, .ref z, rawInt 0, .none, .none] } }) :=
  .of_wp fun prog w A R s h => by
    subst hf hf1
    obtain ⟨hp, gs, dr, tk, os⟩ := s
    obtain ⟨h1, h⟩ := h
    have hsub := sub_enumerate
    have q1 : ∀ {A' : Around} {E : Value → Shared → Prop} {Q : Value → Shared → Prop}, Q (.ref z) ⟨hp, gs, dr, tk, os⟩ → wpAny (model prog w) A' (pyIter (.ref z)) Q E ⟨hp, gs, dr, tk, os⟩ :=
      fun q => wpAny_pyIter_zip (s := ⟨hp, gs, dr, tk, os⟩) h1 q
    wp_walk using q1
    refine wpAny_stack_any fun st => wpAny_pure ?_
    split
    · rename_i c _ _ _ _ _
      cases (c == Value.type "enumerate")
      · wp_walk using q1
        exact ⟨_, rfl, h⟩
      · wp_walk using q1
        exact ⟨_, rfl, h⟩
    · wp_walk using q1
      exact ⟨_, rfl, h⟩
end
end DL
/-! ZG: zip, enumerate as things walked over data. -/
namespace DL
open PySem PySem.Spec PyProof.Rows L2
variable [HasT]

/-! ### a list or a tuple at an address -/
def SIt (k : Bool) (h : Heap) (it a : Addr) (i : Nat) : Prop := match k with
  | true => h.IsTupleIter it a i
  | false => h.IsListIter it a i
def SOb (k : Bool) (h : Heap) (a : Addr) (items : Array Value) : Prop := match k with
  | true => h.IsTuple a items
  | false => h.IsList a items
def sobj (k : Bool) (a : Addr) : Obj := { cls := .type (match k with | true => "tuple_iterator" | false => "list_iterator"), data := .fields #[.ref a, .int 0 0] }
def kindD : D → Bool
  | .tup _ => true
  | _ => false
theorem sdraws {prog : Program} {w : World} {A : Around} (k : Bool) (hh : A.handled = none) (it a : Addr) (hne : a ≠ it) (items : Array Value) :
    Draws prog w A it [it, a] items.size (fun i v => items[i]? = some v) (fun i h => SIt k h it a i ∧ SOb k h a items) := by
  cases k with
  | true => exact Draws.tuple hh it a hne items
  | false => exact Draws.list hh it a hne items
theorem sbegins (k : Bool) (a : Addr) (items : Array Value) : Begins (.ref a) (sobj k a) fun h => SOb k h a items := by
  cases k with
  | true => exact begins_tuple a items
  | false => exact begins_list a items
theorem sit_start {k : Bool} {h : Heap} {it a : Addr} (e : h.get? it = some (sobj k a)) : SIt k h it a 0 := by
  cases k with
  | true => exact ⟨_, e, rfl, rfl⟩
  | false => exact ⟨_, e, rfl, rfl⟩
theorem SIt.at_ {k : Bool} {h h' : Heap} {it a : Addr} {i : Nat} (x : SIt k h it a i) (e : ∀ o, h.get? it = some o → h'.get? it = some o) : SIt k h' it a i := by
  cases k with
  | true => exact Heap.IsTupleIter.at (show h.IsTupleIter it a i from x) e
  | false => exact Heap.IsListIter.at (show h.IsListIter it a i from x) e
theorem SIt.obj {k : Bool} {h : Heap} {it a : Addr} {i : Nat} (x : SIt k h it a i) : ∃ o, h.get? it = some o ∧ ∀ v, o.data ≠ .cell v := by
  cases k with
  | true =>
    obtain ⟨o, e, _, d⟩ := (show h.IsTupleIter it a i from x)
    exact ⟨o, e, fun v q => by rw [d] at q; cases q⟩
  | false =>
    obtain ⟨o, e, _, d⟩ := (show h.IsListIter it a i from x)
    exact ⟨o, e, fun v q => by rw [d] at q; cases q⟩
structure Src (K : PySem.W.Frag) (x : D) (a : Addr) (xs : List D) (H : Hp) (A : List Addr) (S : Store) : Prop where
  rs : RelS K H A S
  rd : RelD K H A x (.ref a)
  sq : seqOf S x xs
theorem src_inv {X : Cx} {pins : List (Addr × Obj)} {σ : L2.St} {H : Hp} {s : Shared} {A : List Addr} {S : Store} {x : D} {a : Addr} {xs : List D} (I : Inv X pins σ H s) (h : Src X.K x a xs H A S) :
    ∃ its vs, Vals vs its ∧ RelDs X.K H A xs vs ∧ SOb (kindD x) s.heap a its.toArray ∧ its.length = xs.length := by
  rcases h.sq with e | e | ⟨n, e, hn⟩
  · have r := h.rd
    subst e
    obtain ⟨a', vs, e', h2, h3⟩ := r
    cases e'
    obtain ⟨its, rv, p, _⟩ := I.tuple h2.sq
    exact ⟨its, vs, rv, h3, p, by rw [← rv.length, h3.len]⟩
  · have r := h.rd
    subst e
    obtain ⟨a', vs, e', h2, h3⟩ := r
    cases e'
    obtain ⟨its, rv, p, _⟩ := I.list h2.sq
    exact ⟨its, vs, rv, h3, p.isList, by rw [← rv.length, h3.len]⟩
  · have r := h.rd
    subst e
    obtain ⟨a', e', ha⟩ := r
    cases e'
    obtain ⟨vs, h2, h3⟩ := h.rs.get hn ha
    obtain ⟨its, rv, p, _⟩ := I.list (.inl (.inl h2) : SqL X.K H a vs)
    exact ⟨its, vs, rv, h3, p.isList, by rw [← rv.length, h3.len]⟩
theorem Src.lt {X : Cx} {pins : List (Addr × Obj)} {σ : L2.St} {H : Hp} {s : Shared} {A : List Addr} {S : Store} {x : D} {a : Addr} {xs : List D} (I : Inv X pins σ H s) (h : Src X.K x a xs H A S) : a < s.heap.objs.size := by
  obtain ⟨its, vs, _, _, p, _⟩ := src_inv I h
  cases q : kindD x with
  | true =>
    rw [q] at p
    obtain ⟨o, e, _⟩ := (show s.heap.IsTuple a its.toArray from p)
    exact Heap.lt_size e
  | false =>
    rw [q] at p
    obtain ⟨o, e, _⟩ := (show s.heap.IsList a its.toArray from p)
    exact Heap.lt_size e
/-- the i-th item as the library's rules give it -/
theorem src_item {K : PySem.W.Frag} {H : Hp} {A : List Addr} {xs : List D} {vs : List V} {its : List Value} {i : Nat} {u : Value} (rv : Vals vs its) (r : RelDs K H A xs vs) (h : its.toArray[i]? = some u) : ∃ v d, RelV v u ∧ xs[i]? = some d ∧ RelD K H A d v := by
  have h' : its[i]? = some u := by simpa using h
  have hl := rv.length
  have hi := (List.getElem?_eq_some_iff.mp h').1
  have hi2 : i < vs.length := by omega
  obtain ⟨u', e1, e2⟩ := rv.get (List.getElem?_eq_getElem hi2)
  rw [h'] at e1
  cases e1
  obtain ⟨d, q1, q2⟩ := r.getV (List.getElem?_eq_getElem hi2)
  exact ⟨vs[i], d, e2, q1, q2⟩
/-- the value that stands i-th in the thing at a -/
def ValAt (K : PySem.W.Frag) (x : D) (a : Addr) (i : Nat) (H : Hp) (v : V) : Prop := ∀ A S xs, Src K x a xs H A S → ∃ d, xs[i]? = some d ∧ RelD K H A d v
theorem valAt_of {X : Cx} {pins : List (Addr × Obj)} {σ : L2.St} {H : Hp} {s : Shared} {x : D} {a : Addr} {i : Nat} {u : Value} {v : V} {its : List Value} (I : Inv X pins σ H s) (p : SOb (kindD x) s.heap a its.toArray) (h : its.toArray[i]? = some u) (ru : RelV v u) : ValAt X.K x a i H v := by
  intro A S xs sr
  obtain ⟨its', vs', rv', r', p', _⟩ := src_inv I sr
  have e : its = its' := by
    have q : its.toArray = its'.toArray := by
      cases k : kindD x with
      | true =>
        rw [k] at p p'
        obtain ⟨o, e1, _, n1, d1⟩ := (show s.heap.IsTuple a its.toArray from p)
        obtain ⟨o', e2, _, n2, d2⟩ := (show s.heap.IsTuple a its'.toArray from p')
        rw [e1] at e2
        cases e2
        rw [d1] at d2
        injection d2
      | false =>
        rw [k] at p p'
        obtain ⟨o, e1, _, n1, d1⟩ := (show s.heap.IsList a its.toArray from p)
        obtain ⟨o', e2, _, n2, d2⟩ := (show s.heap.IsList a its'.toArray from p')
        rw [e1] at e2
        cases e2
        rw [d1] at d2
        injection d2
    simpa using congrArg Array.toList q
  subst e
  obtain ⟨v', d, rv2, hd, rd⟩ := src_item rv' r' h
  rw [ru.inj rv2]
  exact ⟨d, hd, rd⟩

/-! ### zip of three -/
def It3 (K : PySem.W.Frag) (x1 x2 x3 : D) (a1 a2 a3 : Addr) : It where
  go := fun i H => ∃ A S xs1 xs2 xs3, Src K x1 a1 xs1 H A S ∧ Src K x2 a2 xs2 H A S ∧ Src K x3 a3 xs3 H A S ∧ i < xs1.length ∧ i < xs2.length ∧ i < xs3.length
  yld := fun i H x H' => ∃ T v1 v2 v3, x = .ref T ∧ H T = none ∧ H' = upd H T (.tup [v1, v2, v3]) ∧ ValAt K x1 a1 i H v1 ∧ ValAt K x2 a2 i H v2 ∧ ValAt K x3 a3 i H v3
  stop := fun i H => ∃ A S xs1 xs2 xs3, Src K x1 a1 xs1 H A S ∧ Src K x2 a2 xs2 H A S ∧ Src K x3 a3 xs3 H A S ∧ i = min (min xs1.length xs2.length) xs3.length
theorem turn3 {P : Program} {w : World} {K : PySem.W.Frag} {elts : List Expr} {kk : Nat} {tpos : Pos} {x1 x2 x3 : D} {a1 a2 a3 z TI TO i1 i2 i3 : Addr} (S3 : ZipSep3 z TI TO i1 i2 i3 [i1, a1] [i2, a2] [i3, a3]) (n1 : a1 ≠ i1) (n2 : a2 ≠ i2) (n3 : a3 ≠ i3) :
    Turn P w K (.Tuple elts kk tpos) (It3 K x1 x2 x3 a1 a2 a3) [z, TI, TO, i1, i2, i3] z (fun i h => IsZip h z TI TO .none ∧ IsTupOf3 h TI (.ref i1) (.ref i2) (.ref i3) ∧ (∃ b1 b2 b3, IsTupOf3 h TO b1 b2 b3) ∧ SIt (kindD x1) h i1 a1 i ∧ SIt (kindD x2) h i2 a2 i ∧ SIt (kindD x3) h i3 a3 i) where
  mem := by simp
  obj := fun i h st c hc => by
    obtain ⟨hz, hTI, ⟨_, _, _, hTO⟩, h1, h2, h3⟩ := st
    have hc' : c = z ∨ c = TI ∨ c = TO ∨ c = i1 ∨ c = i2 ∨ c = i3 := by simpa using hc
    rcases hc' with rfl | rfl | rfl | rfl | rfl | rfl
    · exact ⟨_, hz, fun v q => nomatch q⟩
    · exact ⟨_, hTI, fun v q => nomatch q⟩
    · exact ⟨_, hTO, fun v q => nomatch q⟩
    · exact h1.obj
    · exact h2.obj
    · exact h3.obj
  keep := fun i h h' st k => by
    obtain ⟨hz, hTI, ⟨b1, b2, b3, hTO⟩, h1, h2, h3⟩ := st
    exact ⟨k z (by simp) _ hz, k TI (by simp) _ hTI, ⟨b1, b2, b3, k TO (by simp) _ hTO⟩, h1.at_ fun o q => k i1 (by simp) o q, h2.at_ fun o q => k i2 (by simp) o q, h3.at_ fun o q => k i3 (by simp) o q⟩
  item := by
    intro X hP hw hK hc i pins s σ H E I hf st hg
    subst hP hw hK
    obtain ⟨hz, hTI, hTO, h1, h2, h3⟩ := st
    obtain ⟨A, S, xs1, xs2, xs3, c1, c2, c3, l1, l2, l3⟩ := hg
    obtain ⟨t1, vs1, rv1, r1, p1, m1⟩ := src_inv I c1
    obtain ⟨t2, vs2, rv2, r2, p2, m2⟩ := src_inv I c2
    obtain ⟨t3, vs3, rv3, r3, p3, m3⟩ := src_inv I c3
    have hh : X.A.in1.handled = none := I.ok.hd hc
    have G := GoesN.zip3 (prog := X.prog) (w := X.w) (A := X.A) (elts := elts) (x1 := kk) (pos := tpos) S3 (sdraws (kindD x1) hh i1 a1 n1 t1.toArray) (sdraws (kindD x2) hh i2 a2 n2 t2.toArray) (sdraws (kindD x3) hh i3 a3 n3 t3.toArray)
    have hlt : i < min (min t1.toArray.size t2.toArray.size) t3.toArray.size := by
      simp only [List.size_toArray]
      omega
    refine thn (G.goes i s (fun v s2 => ∃ x H', Inv X pins σ H' s2 ∧ RelV x v ∧ (It3 X.K x1 x2 x3 a1 a2 a3).yld i H x H' ∧ (IsZip s2.heap z TI TO .none ∧ IsTupOf3 s2.heap TI (.ref i1) (.ref i2) (.ref i3) ∧ (∃ b1 b2 b3, IsTupOf3 s2.heap TO b1 b2 b3) ∧ SIt (kindD x1) s2.heap i1 a1 (i + 1) ∧ SIt (kindD x2) s2.heap i2 a2 (i + 1) ∧ SIt (kindD x3) s2.heap i3 a3 (i + 1)) ∧ ∀ b ∈ [z, TI, TO, i1, i2, i3], H' b = none) _ hlt ⟨hz, hTI, hTO, ⟨h1, p1⟩, ⟨h2, p2⟩, ⟨h3, p3⟩⟩ fun v h' tk hY st' hkp htk => ?_) fun r s1 q => q
    obtain ⟨T, u1, u2, u3, rfl, hnew, y1, y2, y3, hT⟩ := hY
    obtain ⟨v1, d1, ru1, hd1, rd1⟩ := src_item rv1 r1 y1
    obtain ⟨v2, d2, ru2, hd2, rd2⟩ := src_item rv2 r2 y2
    obtain ⟨v3, d3, ru3, hd3, rd3⟩ := src_item rv3 r3 y3
    have nw : ObjOk X.prog X.w (upd H T (.tup [v1, v2, v3])) h' T (.tup [v1, v2, v3]) := ⟨by show 3 ≤ sizeLine; decide, [u1, u2, u3], .cons ru1 (.cons ru2 (.cons ru3 .nil)), hT⟩
    have I1 : Inv X pins σ (upd H T (.tup [v1, v2, v3])) { s with heap := h', toks := tk } := I.turnedNew (ch := [z, TI, TO, i1, i2, i3]) (fun c o hb q => hkp c o (fun q' => hb (by simp at q' ⊢; rcases q' with e | e | e | e | e <;> simp [e])) q) hf hnew nw
    obtain ⟨g1, g2, g3, ⟨g4, _⟩, ⟨g5, _⟩, ⟨g6, _⟩⟩ := st'
    refine ⟨.ref T, _, I1, rfl, ⟨T, v1, v2, v3, rfl, I.hok.fresh hnew, rfl, valAt_of I p1 y1 ru1, valAt_of I p2 y2 ru2, valAt_of I p3 y3 ru3⟩, ⟨g1, g2, g3, g4, g5, g6⟩, fun c hcm => ?_⟩
    obtain ⟨o, ho, _⟩ : ∃ o, s.heap.get? c = some o ∧ True := by
      obtain ⟨b1, b2, b3, hTO'⟩ := hTO
      have hc' : c = z ∨ c = TI ∨ c = TO ∨ c = i1 ∨ c = i2 ∨ c = i3 := by simpa using hcm
      rcases hc' with rfl | rfl | rfl | rfl | rfl | rfl
      · exact ⟨_, hz, trivial⟩
      · exact ⟨_, hTI, trivial⟩
      · exact ⟨_, hTO', trivial⟩
      · exact ⟨_, h1.obj.choose_spec.1, trivial⟩
      · exact ⟨_, h2.obj.choose_spec.1, trivial⟩
      · exact ⟨_, h3.obj.choose_spec.1, trivial⟩
    rw [upd_ne (Nat.ne_of_lt (Nat.lt_of_lt_of_le (Heap.lt_size ho) hnew))]
    exact (hf c hcm).1
  done := by
    intro X hP hw hK hc i pins s σ H E I hf st hg
    subst hP hw hK
    obtain ⟨hz, hTI, hTO, h1, h2, h3⟩ := st
    obtain ⟨A, S, xs1, xs2, xs3, c1, c2, c3, hi⟩ := hg
    obtain ⟨t1, vs1, rv1, r1, p1, m1⟩ := src_inv I c1
    obtain ⟨t2, vs2, rv2, r2, p2, m2⟩ := src_inv I c2
    obtain ⟨t3, vs3, rv3, r3, p3, m3⟩ := src_inv I c3
    have hh : X.A.in1.handled = none := I.ok.hd hc
    have G := GoesN.zip3 (prog := X.prog) (w := X.w) (A := X.A) (elts := elts) (x1 := kk) (pos := tpos) S3 (sdraws (kindD x1) hh i1 a1 n1 t1.toArray) (sdraws (kindD x2) hh i2 a2 n2 t2.toArray) (sdraws (kindD x3) hh i3 a3 n3 t3.toArray)
    have hi' : i = min (min t1.toArray.size t2.toArray.size) t3.toArray.size := by
      simp only [List.size_toArray]
      rw [m1, m2, m3]
      exact hi
    subst hi'
    exact G.stops s _ _ ⟨hz, hTI, hTO, ⟨h1, p1⟩, ⟨h2, p2⟩, ⟨h3, p3⟩⟩ fun h' tk hkp htk => I.turnedL (ch := [z, TI, TO, i1, i2, i3]) (fun c o hb q => hkp c o (fun q' => hb (by simp at q' ⊢; rcases q' with e | e | e | e | e <;> simp [e])) q) hf
  self := fun A i s Q E st h => wpAny_pyIter_zip st.1 h

def zip3D (xs ys zs : List D) : List D := (xs.zip (ys.zip zs)).map fun p => D.ztup [p.1, p.2.1, p.2.2]
theorem zip3D_len (xs ys zs : List D) : (zip3D xs ys zs).length = min (min xs.length ys.length) zs.length := by
  simp only [zip3D, List.length_map, List.length_zip]
  omega
theorem zip3D_get {xs ys zs : List D} {i : Nat} {d : D} (h : (zip3D xs ys zs)[i]? = some d) : ∃ a b c, xs[i]? = some a ∧ ys[i]? = some b ∧ zs[i]? = some c ∧ d = .ztup [a, b, c] := by
  have hi := (List.getElem?_eq_some_iff.mp h).1
  rw [zip3D_len] at hi
  have h1 : i < xs.length := by omega
  have h2 : i < ys.length := by omega
  have h3 : i < zs.length := by omega
  refine ⟨xs[i], ys[i], zs[i], List.getElem?_eq_getElem h1, List.getElem?_eq_getElem h2, List.getElem?_eq_getElem h3, ?_⟩
  obtain ⟨_, e⟩ := List.getElem?_eq_some_iff.mp h
  rw [← e]
  simp [zip3D]
def wZip3 (t : DA) : DIt := fun ρ S post => t ρ S fun ds S1 => ∃ x y u xs ys us, ds = [x, y, u] ∧ seqOf S1 x xs ∧ seqOf S1 y ys ∧ seqOf S1 u us ∧ post (zip3D xs ys us) (fun S2 => seqOf S2 x xs ∧ seqOf S2 y ys ∧ seqOf S2 u us) S1
theorem rels3 {K : PySem.W.Frag} {H : Hp} {A : List Addr} {d e f : D} {vs : List V} (r : RelDs K H A [d, e, f] vs) : ∃ v u w, vs = [v, u, w] ∧ RelD K H A d v ∧ RelD K H A e u ∧ RelD K H A f w := by
  obtain ⟨v, w, rfl, h1, h2⟩ := r
  obtain ⟨u, w', rfl, h3, h4⟩ := rels2 h2
  exact ⟨v, u, w', rfl, h1, h3, h4⟩
theorem seq_ref {K : PySem.W.Frag} {H : Hp} {A : List Addr} {S : Store} {x : D} {xs : List D} {v : V} (s : RelS K H A S) (q : seqOf S x xs) (r : RelD K H A x v) : ∃ a, v = .ref a := by
  obtain ⟨a, _, e, _⟩ := q.rel s r
  exact ⟨a, e⟩
theorem tup_rel {K : PySem.W.Frag} {H : Hp} {A : List Addr} {T : Addr} {vs : List V} {ds : List D} (hT : H T = none) (r : RelDs K H A ds vs) : RelD K (upd H T (.tup vs)) A (.ztup ds) (.ref T) :=
  ⟨T, vs, rfl, .inl (.inl upd_same), r.ext (Ext.same (same_upd hT))⟩
theorem itok3 {K : PySem.W.Frag} {H : Hp} {A : List Addr} {x y u : D} {a b c : Addr} {xs ys us : List D} (rx : RelD K H A x (.ref a)) (ry : RelD K H A y (.ref b)) (ru : RelD K H A u (.ref c)) :
    ItOk K (It3 K x y u a b c) H A (zip3D xs ys us) fun S2 => seqOf S2 x xs ∧ seqOf S2 y ys ∧ seqOf S2 u us := by
  intro H2 A2 S2 e s ⟨q1, q2, q3⟩
  have s1 : Src K x a xs H2 A2 S2 := ⟨s, rx.ext e, q1⟩
  have s2 : Src K y b ys H2 A2 S2 := ⟨s, ry.ext e, q2⟩
  have s3 : Src K u c us H2 A2 S2 := ⟨s, ru.ext e, q3⟩
  refine ⟨⟨A2, S2, xs, ys, us, s1, s2, s3, zip3D_len ..⟩, fun i d hd => ?_⟩
  obtain ⟨d1, d2, d3, h1, h2, h3, rfl⟩ := zip3D_get hd
  refine ⟨⟨A2, S2, xs, ys, us, s1, s2, s3, (List.getElem?_eq_some_iff.mp h1).1, (List.getElem?_eq_some_iff.mp h2).1, (List.getElem?_eq_some_iff.mp h3).1⟩, fun v H3 hy => ?_⟩
  obtain ⟨T, v1, v2, v3, rfl, hT, rfl, w1, w2, w3⟩ := hy
  obtain ⟨e1, g1, r1⟩ := w1 A2 S2 xs s1
  obtain ⟨e2, g2, r2⟩ := w2 A2 S2 ys s2
  obtain ⟨e3, g3, r3⟩ := w3 A2 S2 us s3
  rw [h1] at g1
  rw [h2] at g2
  rw [h3] at g3
  cases g1
  cases g2
  cases g3
  exact ⟨same_upd hT, tup_rel hT ⟨v1, _, rfl, r1, v2, _, rfl, r2, v3, _, rfl, r3, rfl⟩⟩
theorem di_zip3 {X : Cx} {e1 e2 e3 : Expr} {t : DA} {p pos tpos : Pos} {elts : List Expr} {kk : Nat} (hg : Gl X "zip") (hm : X.mg "zip" = none) (ha : PA X [e1, e2, e3] (liftA X.K t))
    (hs : starEach [e1, e2, e3] X.env = (false, eval e1 X.env) :: starEach [e2, e3] X.env := by rfl) (hpl : (backTo pos (starEach [e2, e3] X.env)).any (·.1) = false := by rfl) :
    PI X (.Tuple elts kk tpos) (.Call (.Name "zip" p) [e1, e2, e3] [] pos) (liftI X.K (wZip3 t)) := by
  refine ⟨fun pins s σ H R I ⟨A, ρ, S, post, n, rs, h, k⟩ => ?_⟩
  refine Call_ (ld_blt I hg hm PyProof.Rows.boot_zip (PyProof.Rows.callWith_type1 (thn (ha.run pos pins s σ H (fun vs H1 => ∃ a b c A1 S1 x y u xs ys us, vs = [.ref a, .ref b, .ref c] ∧ Ext H A H1 A1 ∧ Src X.K x a xs H1 A1 S1 ∧ Src X.K y b ys H1 A1 S1 ∧ Src X.K u c us H1 A1 S1 ∧ post (zip3D xs ys us) (fun S2 => seqOf S2 x xs ∧ seqOf S2 y ys ∧ seqOf S2 u us) S1) I
    ⟨A, ρ, S, _, n, rs, h, fun vs H1 A1 ds S1 e s1 r hh => ?_⟩) fun us s1 ⟨vs, H1, I1, r1, q1⟩ => ?_) hs hpl))
  · obtain ⟨x, y, u, xs, ys, us, rfl, q1, q2, q3, hp⟩ := hh
    obtain ⟨v1, v2, v3, rfl, r1, r2, r3⟩ := rels3 r
    obtain ⟨a, rfl⟩ := seq_ref s1 q1 r1
    obtain ⟨b, rfl⟩ := seq_ref s1 q2 r2
    obtain ⟨c, rfl⟩ := seq_ref s1 q3 r3
    exact ⟨a, b, c, A1, S1, x, y, u, xs, ys, us, rfl, e, ⟨s1, r1, q1⟩, ⟨s1, r2, q2⟩, ⟨s1, r3, q3⟩, hp⟩
  · obtain ⟨a, b, c, A1, S1, x, y, u, xs, ys, us', rfl, e, c1, c2, c3, hp⟩ := q1
    cases r1 with
    | cons w1 r1 =>
      cases r1 with
      | cons w2 r1 =>
        cases r1 with
        | cons w3 r1 =>
          cases r1
          cases w1
          cases w2
          cases w3
          obtain ⟨t1, _, _, _, p1, _⟩ := src_inv I1 c1
          obtain ⟨t2, _, _, _, p2, _⟩ := src_inv I1 c2
          obtain ⟨t3, _, _, _, p3, _⟩ := src_inv I1 c3
          have la := c1.lt I1
          have lb := c2.lt I1
          have lc := c3.lt I1
          refine zip_begins3 (sbegins (kindD x) a t1.toArray) (sbegins (kindD y) b t2.toArray) (sbegins (kindD u) c t3.toArray) p1 p2 p3 fun h' hz hTI hTO o1 o2 o3 hsz hk => wpAny_pyIter_zip hz ?_
          have I2 : Inv X pins σ H1 { s1 with heap := h' } := I1.kept (t' := s1.toks) hk
          have off : ∀ {N a : Nat} (j : Nat), a < N → a ≠ N + j := fun j q => by omega
          have off0 : ∀ {N a : Nat}, a < N → a ≠ N := fun q => by omega
          have sep := zip_sep3 (N := s1.heap.objs.size) (fp1 := [a]) (fp2 := [b]) (fp3 := [c]) (fun b' hb => by rw [List.mem_singleton.mp hb]; exact la) (fun b' hb => by rw [List.mem_singleton.mp hb]; exact lb) (fun b' hb => by rw [List.mem_singleton.mp hb]; exact lc)
          refine ⟨_, _, _, It3 X.K x y u a b c, H1, rfl, I2, turn3 sep (off0 la) (off 1 lb) (off 2 lc), ⟨hz, hTI, ⟨_, _, _, hTO⟩, sit_start o1, sit_start o2, sit_start o3⟩, fun d hd => ?_, k _ H1 A1 _ _ S1 e c1.rs (itok3 c1.rd c2.rd c3.rd) hp⟩
          have hle : s1.heap.objs.size ≤ d := by
            have hd' : d = s1.heap.objs.size + 5 ∨ d = s1.heap.objs.size + 3 ∨ d = s1.heap.objs.size + 4 ∨ d = s1.heap.objs.size ∨ d = s1.heap.objs.size + 1 ∨ d = s1.heap.objs.size + 2 := by simpa using hd
            rcases hd' with q | q | q | q | q | q
            · rw [q]; exact Nat.le_add_right _ _
            · rw [q]; exact Nat.le_add_right _ _
            · rw [q]; exact Nat.le_add_right _ _
            · rw [q]; exact Nat.le_refl _
            · rw [q]; exact Nat.le_add_right _ _
            · rw [q]; exact Nat.le_add_right _ _
          exact I1.fpOk hle (I1.hok.fresh hle)
end DL
/-! ZH: enumerate(zip(x, y)) walked over data. -/
namespace DL
open PySem PySem.Spec PyProof.Rows L2
variable [HasT]

/-- a thing that nobody knew is tracked from now on -/
theorem inv_track {X : Cx} {pins : List (Addr × Obj)} {σ : L2.St} {H : Hp} {s : Shared} {T : Addr} {ob : HO} (I : Inv X pins σ H s) (hf : FpOk X pins H T) (nw : ObjOk X.prog X.w (upd H T ob) s.heap T ob) : Inv X pins σ (upd H T ob) s := by
  have hn : H T = none := hf.1
  have ne : ∀ b u, H b = some u → b ≠ T := fun b u q => ne_of_none q hn
  refine I.step (h' := s.heap) (g' := s.gens) (d' := s.drawn) (t' := s.toks) (ch := [T]) (fun b hb => ?_) (fun b o _ _ _ q _ => q) (fun b o _ _ _ q _ => ⟨o.slots, q⟩) (fun b o hb q n => ?_) (fun b o _ q => ⟨o, q⟩) (fun b xs q => ?_) (fun b o u q => ?_) (fun b ps q => ⟨#[], ?_⟩) (fun m hm => hm) (fun b u q => ?_) I.bare
  · rw [List.mem_singleton.mp hb]
    exact ⟨hf.2.2.2.1, hf.2.1, hf.2.2.2.2.1, hf.2.2.2.2.2⟩
  · rw [upd_ne (fun z => hb (by rw [z]; exact List.mem_singleton.mpr rfl))]
    exact n
  · rw [upd_ne (ne _ _ q)]
    exact q
  · rw [upd_ne (ne _ _ q)]
    exact q
  · rw [upd_ne (ne _ _ q), q]
    simp
  · by_cases hb : b = T
    · subst hb
      rw [upd_same] at q
      cases q
      exact nw
    · rw [upd_ne hb] at q
      exact (I.hok b u q).stay (fun c v _ r => r) (fun c r => by rw [upd_ne (ne _ _ r)]; exact r) fun c xs r => by rw [upd_ne (ne _ _ r)]; exact r

def ItE (K : PySem.W.Frag) (x1 x2 : D) (a1 a2 : Addr) : It where
  go := fun i H => ∃ A S xs1 xs2, Src K x1 a1 xs1 H A S ∧ Src K x2 a2 xs2 H A S ∧ i < xs1.length ∧ i < xs2.length
  yld := fun i H x H' => ∃ T U v1 v2, x = .ref U ∧ H T = none ∧ upd H T (.tup [v1, v2]) U = none ∧ H' = upd (upd H T (.tup [v1, v2])) U (.tup [.int i, .ref T]) ∧ ValAt K x1 a1 i H v1 ∧ ValAt K x2 a2 i H v2
  stop := fun i H => ∃ A S xs1 xs2, Src K x1 a1 xs1 H A S ∧ Src K x2 a2 xs2 H A S ∧ (i = xs1.length ∨ (i < xs1.length ∧ i = xs2.length))
def TnE (x1 x2 : D) (a1 a2 e z TI TO i1 i2 : Addr) (i : Nat) (h : Heap) : Prop :=
  (∃ old, IsEnum h e z (i : Int) old) ∧ (∃ f0 f1, ZF f0 ∧ ZRec h z f0 f1 TI TO) ∧ IsTupOf2 h TI (.ref i1) (.ref i2) ∧ (∃ b1 b2, IsTupOf2 h TO b1 b2) ∧ SIt (kindD x1) h i1 a1 i ∧ SIt (kindD x2) h i2 a2 i
theorem turnE {P : Program} {w : World} {K : PySem.W.Frag} {elts : List Expr} {kk : Nat} {tpos : Pos} {x1 x2 : D} {a1 a2 e z TI TO i1 i2 : Addr} (S2 : ZipSep2 z TI TO i1 i2 [i1, a1] [i2, a2]) (ee : e ≠ z ∧ e ≠ TI ∧ e ≠ TO ∧ e ∉ [i1, a1] ∧ e ∉ [i2, a2]) (n1 : a1 ≠ i1) (n2 : a2 ≠ i2) :
    Turn P w K (.Tuple elts kk tpos) (ItE K x1 x2 a1 a2) [e, z, TI, TO, i1, i2] e (TnE x1 x2 a1 a2 e z TI TO i1 i2) where
  mem := by simp
  obj := fun i h st c hc => by
    obtain ⟨⟨old, he⟩, ⟨f0, f1, _, hz⟩, hTI, ⟨_, _, hTO⟩, h1, h2⟩ := st
    have hc' : c = e ∨ c = z ∨ c = TI ∨ c = TO ∨ c = i1 ∨ c = i2 := by simpa using hc
    rcases hc' with rfl | rfl | rfl | rfl | rfl | rfl
    · exact ⟨_, he, fun v q => nomatch q⟩
    · exact ⟨_, hz, fun v q => nomatch q⟩
    · exact ⟨_, hTI, fun v q => nomatch q⟩
    · exact ⟨_, hTO, fun v q => nomatch q⟩
    · exact h1.obj
    · exact h2.obj
  keep := fun i h h' st k => by
    obtain ⟨⟨old, he⟩, ⟨f0, f1, hf, hz⟩, hTI, ⟨b1, b2, hTO⟩, h1, h2⟩ := st
    exact ⟨⟨old, k e (by simp) _ he⟩, ⟨f0, f1, hf, k z (by simp) _ hz⟩, k TI (by simp) _ hTI, ⟨b1, b2, k TO (by simp) _ hTO⟩, h1.at_ fun o q => k i1 (by simp) o q, h2.at_ fun o q => k i2 (by simp) o q⟩
  item := by
    intro X hP hw hK hc i pins s σ H E I hf st hg
    subst hP hw hK
    obtain ⟨⟨old, he⟩, ⟨f0, f1, hzf, hz⟩, hTI, hTO, h1, h2⟩ := st
    obtain ⟨A, S, xs1, xs2, c1, c2, l1, l2⟩ := hg
    obtain ⟨t1, vs1, rv1, r1, p1, m1⟩ := src_inv I c1
    obtain ⟨t2, vs2, rv2, r2, p2, m2⟩ := src_inv I c2
    have hh : X.A.in1.in1.handled = none := I.ok.hd hc
    have D1 := sdraws (prog := X.prog) (w := X.w) (kindD x1) hh i1 a1 n1 t1.toArray
    have D2 := sdraws (prog := X.prog) (w := X.w) (kindD x2) hh i2 a2 n2 t2.toArray
    have q1 : i < t1.toArray.size := by
      rw [List.size_toArray]
      omega
    have q2 : i < t2.toArray.size := by
      rw [List.size_toArray]
      omega
    refine pyNext_ez S2 D1 D2 ee he hz hzf hTI hTO ⟨h1, p1⟩ ⟨h2, p2⟩ q1 q2 fun u1 u2 h' tk t g0 g1 y1 y2 zf' z' TI' TO' s1 s2 T' e' U' hsz hkp => ?_
    refine ⟨_, rfl, wpAny_letOwnedTupleGo_enum (s := { s with heap := h', toks := tk }) e' fun h'' e'' sb => ?_⟩
    replace sb : Heap.SameBut e h' h'' := sb
    have elt : e < s.heap.objs.size := Heap.lt_size he
    obtain ⟨v1, d1, ru1, hd1, rd1⟩ := src_item rv1 r1 y1
    obtain ⟨v2, d2, ru2, hd2, rd2⟩ := src_item rv2 r2 y2
    have nT : (s.heap.objs.size : Nat) ≠ e := Nat.ne_of_gt elt
    have nU : (s.heap.objs.size + 1 : Nat) ≠ e := Nat.ne_of_gt (Nat.lt_succ_of_lt elt)
    have T2 : IsTupOf2 h'' s.heap.objs.size u1 u2 := sb.extBut _ _ nT T'
    have U2 : IsTupOf2 h'' (s.heap.objs.size + 1) (.int (i : Int) t) (.ref s.heap.objs.size) := sb.extBut _ _ nU U'
    have kp : ∀ c o, c ∉ [e, z, TI, TO, i1, i2] → s.heap.get? c = some o → h''.get? c = some o := fun c o hb q =>
      sb.extBut _ _ (fun q' => hb (by simp [q'])) (hkp c o (fun q' => hb (by simp [q'])) (fun q' => hb (by simp [q'])) (fun q' => hb (by simp [q'])) (fun q' => hb (by simp [q'])) (fun q' => hb (by simp [q'])) q)
    have fT : H s.heap.objs.size = none := I.hok.fresh (Nat.le_refl _)
    have nw1 : ObjOk X.prog X.w (upd H s.heap.objs.size (.tup [v1, v2])) h'' s.heap.objs.size (.tup [v1, v2]) := ⟨by show 2 ≤ sizeLine; decide, [u1, u2], .cons ru1 (.cons ru2 .nil), ⟨_, T2, rfl, _, rfl⟩⟩
    have I1 : Inv X pins σ (upd H s.heap.objs.size (.tup [v1, v2])) { s with heap := h'', toks := tk } := I.turnedNew (ch := [e, z, TI, TO, i1, i2]) kp hf (Nat.le_refl _) nw1
    have fU : upd H s.heap.objs.size (.tup [v1, v2]) (s.heap.objs.size + 1) = none := by
      rw [upd_ne (show (s.heap.objs.size + 1 : Nat) ≠ s.heap.objs.size by omega)]
      exact I.hok.fresh (Nat.le_succ _)
    have nw2 : ObjOk X.prog X.w (upd (upd H s.heap.objs.size (.tup [v1, v2])) (s.heap.objs.size + 1) (.tup [.int i, .ref s.heap.objs.size])) h'' (s.heap.objs.size + 1) (.tup [.int i, .ref s.heap.objs.size]) :=
      ⟨by show 2 ≤ sizeLine; decide, [.int i t, .ref s.heap.objs.size], .cons ⟨t, rfl⟩ (.cons rfl .nil), ⟨_, U2, rfl, _, rfl⟩⟩
    have I2 := inv_track I1 (I.fpOk (Nat.le_succ _) fU) nw2
    refine ⟨.ref (s.heap.objs.size + 1), _, I2, rfl, ⟨_, _, v1, v2, rfl, fT, fU, rfl, valAt_of I p1 y1 ru1, valAt_of I p2 y2 ru2⟩, ⟨⟨.ref (s.heap.objs.size), ?_⟩, ⟨g0, g1, zf', sb.extBut _ _ ee.1.symm z'⟩, sb.extBut _ _ ee.2.1.symm TI', ?_, ?_, ?_⟩, fun c hcm => ?_⟩
    · have q : (((i + 1 : Nat) : Int)) = (i : Int) + 1 := by omega
      rw [q]
      exact e''
    · obtain ⟨b1, b2, q⟩ := TO'
      exact ⟨b1, b2, sb.extBut _ _ ee.2.2.1.symm q⟩
    · exact s1.1.at_ fun o q => sb.extBut _ _ (fun q' => ee.2.2.2.1 (by simp [q'])) q
    · exact s2.1.at_ fun o q => sb.extBut _ _ (fun q' => ee.2.2.2.2 (by simp [q'])) q
    · obtain ⟨o, ho⟩ : ∃ o, s.heap.get? c = some o := by
        obtain ⟨b1, b2, hTO'⟩ := hTO
        have hc' : c = e ∨ c = z ∨ c = TI ∨ c = TO ∨ c = i1 ∨ c = i2 := by simpa using hcm
        rcases hc' with rfl | rfl | rfl | rfl | rfl | rfl
        · exact ⟨_, he⟩
        · exact ⟨_, hz⟩
        · exact ⟨_, hTI⟩
        · exact ⟨_, hTO'⟩
        · exact ⟨_, h1.obj.choose_spec.1⟩
        · exact ⟨_, h2.obj.choose_spec.1⟩
      have lt := Heap.lt_size ho
      rw [upd_ne (Nat.ne_of_lt (Nat.lt_succ_of_lt lt)), upd_ne (Nat.ne_of_lt lt)]
      exact (hf c hcm).1
  done := by
    intro X hP hw hK hc i pins s σ H E I hf st hg
    subst hP hw hK
    obtain ⟨⟨old, he⟩, ⟨f0, f1, hzf, hz⟩, hTI, hTO, h1, h2⟩ := st
    obtain ⟨A, S, xs1, xs2, c1, c2, hi⟩ := hg
    obtain ⟨t1, vs1, rv1, r1, p1, m1⟩ := src_inv I c1
    obtain ⟨t2, vs2, rv2, r2, p2, m2⟩ := src_inv I c2
    have hh : X.A.in1.in1.handled = none := I.ok.hd hc
    have D1 := sdraws (prog := X.prog) (w := X.w) (kindD x1) hh i1 a1 n1 t1.toArray
    have D2 := sdraws (prog := X.prog) (w := X.w) (kindD x2) hh i2 a2 n2 t2.toArray
    have hi' : i = t1.toArray.size ∨ (i < t1.toArray.size ∧ i = t2.toArray.size) := by
      simp only [List.size_toArray]
      rw [m1, m2]
      exact hi
    exact pyNext_ez_end S2 D1 D2 he hz hzf hTI hTO ⟨h1, p1⟩ ⟨h2, p2⟩ hi' fun h' tk hkp => ⟨rfl, I.turnedL (ch := [e, z, TI, TO, i1, i2]) (fun c o hb q => hkp c o (fun q' => hb (by simp [q'])) (fun q' => hb (by simp [q'])) (fun q' => hb (by simp [q'])) (fun q' => hb (by simp [q'])) q) hf⟩
  self := fun A i s Q E st h => by
    obtain ⟨⟨old, he⟩, _⟩ := st
    exact wpAny_pyIter_enum he h

def ezD (xs ys : List D) : List D := (List.range (min xs.length ys.length)).map fun (i : Nat) => D.ztup [.int (i : Int), .ztup [xs.getD i .non, ys.getD i .non]]
theorem ezD_len (xs ys : List D) : (ezD xs ys).length = min xs.length ys.length := by simp [ezD]
theorem ezD_get {xs ys : List D} {i : Nat} {d : D} (h : (ezD xs ys)[i]? = some d) : ∃ a b, xs[i]? = some a ∧ ys[i]? = some b ∧ d = .ztup [.int (i : Int), .ztup [a, b]] := by
  have hi := (List.getElem?_eq_some_iff.mp h).1
  rw [ezD_len] at hi
  have h1 : i < xs.length := by omega
  have h2 : i < ys.length := by omega
  refine ⟨xs[i], ys[i], List.getElem?_eq_getElem h1, List.getElem?_eq_getElem h2, ?_⟩
  obtain ⟨_, e⟩ := List.getElem?_eq_some_iff.mp h
  rw [← e]
  simp [ezD, h1, h2]
def wEz (t : DA) : DIt := fun ρ S post => t ρ S fun ds S1 => ∃ x y xs ys, ds = [x, y] ∧ seqOf S1 x xs ∧ seqOf S1 y ys ∧ post (ezD xs ys) (fun S2 => seqOf S2 x xs ∧ seqOf S2 y ys) S1
theorem itokE {K : PySem.W.Frag} {H : Hp} {A : List Addr} {x y : D} {a b : Addr} {xs ys : List D} (rx : RelD K H A x (.ref a)) (ry : RelD K H A y (.ref b)) :
    ItOk K (ItE K x y a b) H A (ezD xs ys) fun S2 => seqOf S2 x xs ∧ seqOf S2 y ys := by
  intro H2 A2 S2 e s ⟨q1, q2⟩
  have s1 : Src K x a xs H2 A2 S2 := ⟨s, rx.ext e, q1⟩
  have s2 : Src K y b ys H2 A2 S2 := ⟨s, ry.ext e, q2⟩
  refine ⟨⟨A2, S2, xs, ys, s1, s2, by rw [ezD_len]; omega⟩, fun i d hd => ?_⟩
  obtain ⟨d1, d2, h1, h2, rfl⟩ := ezD_get hd
  refine ⟨⟨A2, S2, xs, ys, s1, s2, (List.getElem?_eq_some_iff.mp h1).1, (List.getElem?_eq_some_iff.mp h2).1⟩, fun v H3 hy => ?_⟩
  obtain ⟨T, U, v1, v2, rfl, hT, hU, rfl, w1, w2⟩ := hy
  obtain ⟨e1, g1, r1⟩ := w1 A2 S2 xs s1
  obtain ⟨e2, g2, r2⟩ := w2 A2 S2 ys s2
  rw [h1] at g1
  rw [h2] at g2
  cases g1
  cases g2
  refine ⟨fun c o q => same_upd hU _ _ (same_upd hT _ _ q), tup_rel hU ⟨_, _, rfl, rfl, _, _, rfl, tup_rel hT ⟨v1, _, rfl, r1, v2, _, rfl, r2, rfl⟩, rfl⟩⟩
theorem di_ez {X : Cx} {e1 e2 : Expr} {t : DA} {p p2 pos pos2 tpos : Pos} {elts : List Expr} {kk : Nat} (hg : Gl X "zip") (hm : X.mg "zip" = none) (hge : Gl X "enumerate") (hme : X.mg "enumerate" = none) (ha : PA X [e1, e2] (liftA X.K t))
    (hs : starEach [e1, e2] X.env = (false, eval e1 X.env) :: starEach [e2] X.env := by rfl) (hpl : (backTo pos2 (starEach [e2] X.env)).any (·.1) = false := by rfl)
    (hs2 : starEach [.Call (.Name "zip" p2) [e1, e2] [] pos2] X.env = (false, eval (.Call (.Name "zip" p2) [e1, e2] [] pos2) X.env) :: starEach [] X.env := by rfl) :
    PI X (.Tuple elts kk tpos) (.Call (.Name "enumerate" p) [.Call (.Name "zip" p2) [e1, e2] [] pos2] [] pos) (liftI X.K (wEz t)) := by
  refine ⟨fun pins s σ H R I ⟨A, ρ, S, post, n, rs, h, k⟩ => ?_⟩
  refine Call_ (ld_blt I hge hme PyProof.Rows.boot_enumerate ?_)
  refine PyProof.Rows.callWith_type1 (PyProof.Rows.args_cons ?_ hs2) hs2 rfl
  refine Call_ (ld_blt I hg hm PyProof.Rows.boot_zip (PyProof.Rows.callWith_type1 (thn (ha.run pos2 pins s σ H (fun vs H1 => ∃ a b A1 S1 x y xs ys, vs = [.ref a, .ref b] ∧ Ext H A H1 A1 ∧ Src X.K x a xs H1 A1 S1 ∧ Src X.K y b ys H1 A1 S1 ∧ post (ezD xs ys) (fun S2 => seqOf S2 x xs ∧ seqOf S2 y ys) S1) I
    ⟨A, ρ, S, _, n, rs, h, fun vs H1 A1 ds S1 e s1 r hh => ?_⟩) fun us s1 ⟨vs, H1, I1, r1, q1⟩ => ?_) hs hpl))
  · obtain ⟨x, y, xs, ys, rfl, q1, q2, hp⟩ := hh
    obtain ⟨v1, v2, rfl, r1, r2⟩ := rels2 r
    obtain ⟨a, rfl⟩ := seq_ref s1 q1 r1
    obtain ⟨b, rfl⟩ := seq_ref s1 q2 r2
    exact ⟨a, b, A1, S1, x, y, xs, ys, rfl, e, ⟨s1, r1, q1⟩, ⟨s1, r2, q2⟩, hp⟩
  · obtain ⟨a, b, A1, S1, x, y, xs, ys, rfl, e, c1, c2, hp⟩ := q1
    cases r1 with
    | cons w1 r1 =>
      cases r1 with
      | cons w2 r1 =>
        cases r1
        cases w1
        cases w2
        obtain ⟨t1, _, _, _, p1, _⟩ := src_inv I1 c1
        obtain ⟨t2, _, _, _, p2, _⟩ := src_inv I1 c2
        have la := c1.lt I1
        have lb := c2.lt I1
        refine zip_begins2 (sbegins (kindD x) a t1.toArray) (sbegins (kindD y) b t2.toArray) p1 p2 fun h' hz hTI hTO o1 o2 hsz hk => PyProof.Rows.args_nil ?_
        have I2 : Inv X pins σ H1 { s1 with heap := h' } := I1.kept (t' := s1.toks) hk
        refine callType_new F.called_enumerate (by decide) (F.typeCall_enumerate_1 _) (F.newCall_enumerate_1 _) (fun obj => F.args_object_init_2 obj _) F.entry_enumerate_new (meets_enum_zip rfl rfl) ⟨hz, ?_⟩
        have hkE : ∀ c o, h'.get? c = some o → (h'.push { cls := .type "enumerate", data := .fields #[.none, .bool false, .ref (s1.heap.objs.size + 4), rawInt 0, .none, .none] }).get? c = some o := fun c o q => Heap.get?_push_of_some _ q
        have hE : IsEnum (h'.push { cls := .type "enumerate", data := .fields #[.none, .bool false, .ref (s1.heap.objs.size + 4), rawInt 0, .none, .none] }) h'.objs.size (s1.heap.objs.size + 4) 0 .none := Heap.get?_push_size _ rfl
        generalize hhE : h'.push { cls := .type "enumerate", data := .fields #[.none, .bool false, .ref (s1.heap.objs.size + 4), rawInt 0, .none, .none] } = h2 at hkE hE ⊢
        refine ⟨⟨_, hE, rfl⟩, wpAny_pyIter_enum hE ?_⟩
        have I3 : Inv X pins σ H1 { s1 with heap := h2 } := I2.kept (t' := s1.toks) hkE
        rw [hsz] at hE ⊢
        have off : ∀ {N a : Nat} (j : Nat), a < N → a ≠ N + j := fun j q => by omega
        have off0 : ∀ {N a : Nat}, a < N → a ≠ N := fun q => by omega
        have nn : ∀ {N : Nat} (i j : Nat), i ≠ j → (N + i : Nat) ≠ N + j := fun i j q => by omega
        have n5 : ∀ {N : Nat} (i : Nat), i ≠ 0 → (N + i : Nat) ≠ N := fun i q => by omega
        have sep := zip_sep2 (N := s1.heap.objs.size) (fp1 := [a]) (fp2 := [b]) (fun b' hb => by rw [List.mem_singleton.mp hb]; exact la) (fun b' hb => by rw [List.mem_singleton.mp hb]; exact lb)
        have ee : (s1.heap.objs.size + 5 : Nat) ≠ s1.heap.objs.size + 4 ∧ (s1.heap.objs.size + 5 : Nat) ≠ s1.heap.objs.size + 2 ∧ (s1.heap.objs.size + 5 : Nat) ≠ s1.heap.objs.size + 3 ∧ (s1.heap.objs.size + 5 : Addr) ∉ [s1.heap.objs.size, a] ∧ (s1.heap.objs.size + 5 : Addr) ∉ [s1.heap.objs.size + 1, b] := by
          refine ⟨nn 5 4 (by decide), nn 5 2 (by decide), nn 5 3 (by decide), fun hm => ?_, fun hm => ?_⟩
          · have hm' : (s1.heap.objs.size + 5 : Addr) = s1.heap.objs.size ∨ (s1.heap.objs.size + 5 : Addr) = a := by simpa using hm
            rcases hm' with q | q
            · exact n5 5 (by decide) q
            · exact off 5 la q.symm
          · have hm' : (s1.heap.objs.size + 5 : Addr) = s1.heap.objs.size + 1 ∨ (s1.heap.objs.size + 5 : Addr) = b := by simpa using hm
            rcases hm' with q | q
            · exact nn 5 1 (by decide) q
            · exact off 5 lb q.symm
        refine ⟨_, _, _, ItE X.K x y a b, H1, rfl, I3, turnE sep ee (off0 la) (off 1 lb), ⟨⟨_, hE⟩, ⟨_, _, .inl rfl, hkE _ _ hz⟩, hkE _ _ hTI, ⟨_, _, hkE _ _ hTO⟩, sit_start (hkE _ _ o1), sit_start (hkE _ _ o2)⟩, fun d hd => ?_, k _ H1 A1 _ _ S1 e c1.rs (itokE c1.rd c2.rd) hp⟩
        have hle : s1.heap.objs.size ≤ d := by
          have hd' : d = s1.heap.objs.size + 5 ∨ d = s1.heap.objs.size + 4 ∨ d = s1.heap.objs.size + 2 ∨ d = s1.heap.objs.size + 3 ∨ d = s1.heap.objs.size ∨ d = s1.heap.objs.size + 1 := by simpa using hd
          rcases hd' with q | q | q | q | q | q
          · rw [q]; exact Nat.le_add_right _ _
          · rw [q]; exact Nat.le_add_right _ _
          · rw [q]; exact Nat.le_add_right _ _
          · rw [q]; exact Nat.le_add_right _ _
          · rw [q]; exact Nat.le_refl _
          · rw [q]; exact Nat.le_add_right _ _
        exact I1.fpOk hle (I1.hok.fresh hle)
end DL
/-! DR: calls and defs where no guard is held; keyword calls; three names at once; the law's own end. -/
namespace DL
open PySem PySem.Spec PyProof.Rows L2
variable [HasT]

section
variable {X : Cx} {k : Nat} {fa : Addr} {fd : FuncData} {ps : List Str} {sp : DSp} {x : Str} {p pos : Pos} {e : Expr} {es : List Expr} {t : DA}
theorem de_callG (F : FnG X.prog X.w X.K X.mg X.base CX0 k fa fd ps (spL X.K sp)) (hgd : X.A.guards = some []) (hr : Room k X.A) (hg : Gl X x) (hm : X.mg x = some (.ref fa)) (hk : PySem.W.keepIn X.K (.ref fa) = true) (hb : L2.Binds X.K fd ps [])
    (ha : PA X (e :: es) (liftA X.K t)) (hdb : (x == ("__debug__" : Str)) = false := by decide) (he : starEach (e :: es) X.env = (false, eval e X.env) :: starEach es X.env := by rfl) (hpl : (backTo pos (starEach es X.env)).any (·.1) = false := by rfl) :
    PE X (.Call (.Name x p) (e :: es) [] pos) (liftE X.K (dCall sp t)) :=
  pe_mono (pe_callG F hgd hr hg hm hk hb pass0 ha hdb he hpl) fun σ H Q ⟨A, ρ, S, post, n, s, h, kk⟩ => ⟨A, ρ, S, _, n, s, h, fun vs H' A' ds S' e' s' r p1 => by
    show spL X.K sp (vs ++ []) H' Q E0
    rw [List.append_nil]
    exact lift_callD s' r p1 (kk.go e')⟩
/-- how a call by keywords alone binds: g puts the values in the parameters' order -/
structure KwB (K : PySem.W.Frag) (fd : FuncData) (ps ks : List Str) (g : {α : Type} → List α → List α) : Prop where
  len : ∀ {α : Type} (l : List α), l.length = ks.length → (g l).length = ps.length
  mp : ∀ {α β : Type} (h : α → β) (l : List α), g (l.map h) = (g l).map h
  to : ∀ (s : Shared) (ws : List Value), K.In s.heap → ws.length = ks.length → BindsTo s fd ⟨[], ks.zip ws⟩ (ps.zip (g ws))
def dCallK (sp : DSp) (n : Nat) (g : List D → List D) (t : DA) : DE := fun ρ S post => t ρ S fun ds S1 => ds.length = n ∧ callD sp (g ds) S1 post
theorem RelDs.getEl {K : PySem.W.Frag} {H : Hp} {A : List Addr} : ∀ {ds : List D} {vs : List V}, RelDs K H A ds vs → ∃ ps : List (D × V), ds = ps.map (·.1) ∧ vs = ps.map (·.2) ∧ ∀ p ∈ ps, RelD K H A p.1 p.2
  | [], _, r => ⟨[], rfl, r, fun _ h => nomatch h⟩
  | d :: ds, _, ⟨v, w, rfl, h2, h3⟩ => by
    obtain ⟨ps, rfl, rfl, h⟩ := RelDs.getEl h3
    exact ⟨(d, v) :: ps, rfl, rfl, fun p hp => by
      rcases List.mem_cons.mp hp with rfl | hp
      · exact h2
      · exact h p hp⟩
theorem relDs_of {K : PySem.W.Frag} {H : Hp} {A : List Addr} : ∀ {ps : List (D × V)}, (∀ p ∈ ps, RelD K H A p.1 p.2) → RelDs K H A (ps.map (·.1)) (ps.map (·.2))
  | [], _ => rfl
  | p :: ps, h => ⟨p.2, ps.map (·.2), rfl, h p List.mem_cons_self, relDs_of fun q hq => h q (List.mem_cons_of_mem _ hq)⟩
theorem valsPair : ∀ {vs : List V} {us : List Value}, Vals vs us → ∃ ps : List (V × Value), vs = ps.map (·.1) ∧ us = ps.map (·.2) ∧ ∀ p ∈ ps, RelV p.1 p.2
  | _, _, .nil => ⟨[], rfl, rfl, fun _ h => nomatch h⟩
  | _, _, .cons r h => by
    obtain ⟨ps, rfl, rfl, hh⟩ := valsPair h
    exact ⟨(_, _) :: ps, rfl, rfl, fun p hp => by
      rcases List.mem_cons.mp hp with rfl | hp
      · exact r
      · exact hh p hp⟩
theorem pairVals : ∀ {ps : List (V × Value)}, (∀ p ∈ ps, RelV p.1 p.2) → Vals (ps.map (·.1)) (ps.map (·.2))
  | [], _ => .nil
  | p :: ps, h => .cons (h p List.mem_cons_self) (pairVals fun q hq => h q (List.mem_cons_of_mem _ hq))
theorem de_callKw {ks : List Str} {kws : List Keyword} {g : {α : Type} → List α → List α} (F : FnG X.prog X.w X.K X.mg X.base CX0 k fa fd ps (spL X.K sp)) (hgd : X.A.guards = some []) (hr : Room k X.A) (hg : Gl X x) (hm : X.mg x = some (.ref fa)) (hk : PySem.W.keepIn X.K (.ref fa) = true)
    (hb : KwB X.K fd ps ks g) (hsub : ∀ {α : Type} (l : List α) (a : α), a ∈ g l → a ∈ l) (hkw : PK X kws (liftA X.K t)) (hdb : (x == ("__debug__" : Str)) = false := by decide)
    (hall : (backToKw pos (keywordEach kws X.env)).all (·.1.isSome) = true := by rfl) (hks : (backToKw pos (keywordEach kws X.env)).filterMap (·.1) = ks := by rfl)
    (hpl : ((backTo pos (starEach [] X.env)).any (·.1) || (backToKw pos (keywordEach kws X.env)).any (·.1.isNone)) = false := by rfl) :
    PE X (.Call (.Name x p) [] kws pos) (liftE X.K (dCallK sp ks.length g t)) := by
  refine ⟨fun pins s σ H Q I ⟨A, ρ, S, post, n, sS, h, kk⟩ => ?_⟩
  refine wpAny_Call_Name_kw (ld_glob I hg hm ?_ hdb)
  refine PySem.W.callWith_KW0 (h₀ := X.base) I.ok.mod.kin hk hall (thn (hkw.run pos pins s σ H (fun zs H1 => zs.length = ks.length ∧ spL X.K sp (g zs) H1 Q E0) I ⟨A, ρ, S, _, n, sS, h, fun vs H' A' ds S' e' s' r p1 => ?_⟩) fun ws s2 ⟨zs, H2, I2, rz, l2, q2⟩ => ⟨I2.kIn, ?_⟩) hpl
  · refine ⟨by rw [r.len]; exact p1.1, ?_⟩
    obtain ⟨prs, rfl, rfl, hp⟩ := r.getEl
    have rr : RelDs X.K H' A' (g (prs.map (·.1))) (g (prs.map (·.2))) := by
      rw [hb.mp, hb.mp]
      exact relDs_of fun q hq => hp q (hsub _ _ hq)
    exact lift_callD s' rr p1.2 (kk.go e')
  · rw [hks]
    have lw : ws.length = ks.length := rz.length.symm.trans l2
    have rz2 : Vals (g zs) (g ws) := by
      obtain ⟨prs, rfl, rfl, hp⟩ := valsPair rz
      rw [hb.mp, hb.mp]
      exact pairVals fun q hq => hp q (hsub _ _ hq)
    refine wpAny_call (codeAny_mono (F.run X.A X.stack s2 H2 ⟨[], ks.zip ws⟩ (g ws) (g zs) Q E0 hgd hr I2.env0 (hb.to s2 ws I2.kIn lw) rz2 q2) fun r s' hq => ?_)
    cases r with
    | error ex => exact hq.elim
    | ok fl =>
      cases fl with
      | ret u => exact I2.after hq
      | next => exact hq.elim
      | brk => exact hq.elim
      | cont => exact hq.elim
/-- x, y, z = a, b, c over data -/
def dPar3 (i j l : Nat) (ta : DA) : DS := fun E ρ S => ta ρ S fun ds S1 => ∃ u v w, ds = [u, v, w] ∧ E.nx (((ρ.set i (some u)).set j (some v)).set l (some w)) S1
theorem ds_par3 {W : WX} {i j l : Nat} {x y z : Str} {a b c : Expr} {ta : DA} {px py pz pt pos : Pos} {kt k2 pt2} (hc : X.calm = true) (hN : X.N.Nodup) (ha : PA X [a, b, c] (liftA X.K ta)) (hi : X.N[i]? = some x := by rfl) (hj : X.N[j]? = some y := by rfl) (hl : X.N[l]? = some z := by rfl)
    (hij : i ≠ j := by decide) (hil : i ≠ l := by decide) (hjl : j ≠ l := by decide)
    (hx : X.env.scope.names.lookup x = some .local := by rfl) (hy : X.env.scope.names.lookup y = some .local := by rfl) (hz : X.env.scope.names.lookup z = some .local := by rfl)
    (hw : swappedStores [.Tuple [.Name x px, .Name y py, .Name z pz] kt pt] (.Tuple [a, b, c] k2 pt2) X.env = pure (some [x, y, z]) := by rfl)
    (hs : swapsWithSole [.Tuple [.Name x px, .Name y py, .Name z pz] kt pt] (.Tuple [a, b, c] k2 pt2) pos.line X.env = pure false := by rfl) :
    PS X (.Assign [.Tuple [.Name x px, .Name y py, .Name z pz] kt pt] (.Tuple [a, b, c] k2 pt2) pos) (liftS X.K W (dPar3 i j l ta)) :=
  ps_mono (ps_par3 hc hN hi hj hl hij hil hjl hx hy hz ha hw hs) fun Dn σ H ⟨A, ρ, S, E, n, s, h, k1, k2, k3, k4⟩ => ⟨A, ρ, S, _, n, s, h, fun vs H' A' ds S' e s' r ⟨u, v, w, hd, p⟩ => by
    subst hd
    obtain ⟨v1, r1, rfl, g1, q1⟩ := r
    obtain ⟨v2, v3, rfl, g2, g3⟩ := rels2 q1
    exact ⟨v1, v2, v3, rfl, k1 _ H' A' _ S' e ((((n.ext e).set i g1).set j g2).set l g3) s' p⟩⟩
/-- x, y = a, b over data -/
def dPar2 (i j : Nat) (ta : DA) : DS := fun E ρ S => ta ρ S fun ds S1 => ∃ u v, ds = [u, v] ∧ E.nx ((ρ.set i (some u)).set j (some v)) S1
end

theorem fn_okG {P : Program} {w : World} {K : PySem.W.Frag} {mg : Str → Option Value} {base : Heap} {x qual : Str} {st : Stmt} {f : Addr} {fd : FuncData} {N ps : List Str} {k : Nat} {sp : DSp} {tb : DS} (F : Fun K x qual st f fd) (Sc : FnScope N ps (defScope st))
    (hl : ∀ ds S post, sp ds S post → ds.length = ps.length)
    (hb : ∀ (cdv : Value) (A : Around) (outer : List Env) (s : Shared) (H : Hp) (E : XK), (A.deeper (envOfC qual (defScope st) s.heap.objs.size f cdv)).guards = some [] → Room k (A.deeper (envOfC qual (defScope st) s.heap.objs.size f cdv)) →
      PSs (cxOf CX0 P w K mg base N qual (defScope st) f cdv A outer s H E).nox (defBody st) (liftS K W0 tb))
    (hd : ∀ ds S post, sp ds S post → tb ⟨fun _ S' => fnEnd S post .non S', fnEnd S post, fun _ _ => False, fun _ _ => False, fun _ _ _ _ => False⟩ (startD N ds) S) : FnG P w K mg base CX0 (k + 1) f fd ps (spL K sp) := by
  refine fnG_of F Sc (fun vs H Q E ⟨A, ds, S, post, s, r, h, kk⟩ => by rw [r.len]; exact hl ds S post h) (fun cdv A0 outer s0 H vs Q E hgd hr ⟨A, ds, S, post, s, r, h, kk⟩ => ⟨_, (hb cdv A0 outer s0 H E hgd hr).nox, ?_⟩)
  exact fnBody s r (hd ds S post h) kk
end DL
/-! DS0: the law's own end, for promises that want no guard held. -/
namespace DL
open PySem PySem.Spec PyProof.Rows L2
variable [HasT]

theorem intVals : ∀ {us : List Value} {ks : List Int}, IntsAre us ks → Vals (ks.map V.int) us
  | _, _, .nil => .nil
  | _, _, .cons n t r => .cons ⟨t, rfl⟩ (intVals r)
theorem endG {P : Program} {w : World} {K : PySem.W.Frag} {mg mb : Str → Option Value} {k : Nat} {fa sc : Addr} {fd : FuncData} {x : Str} {sp : Sp} {s0 : Shared} {us : List Value} {ks : List Int}
    (KX : K.In s0.heap) (nG : s0.heap.Ns mainGlobals mg) (nB : s0.heap.Ns builtinsNs mb) (bb : ∀ z : Str, z ≠ "__name__" → mb z = bootBuiltins z) (lim : s0.heap.NoLimit) (gn : s0.gens = #[])
    (hsc : s0.heap.get? sc = some { cls := .type "list", data := .seq us.toArray }) (ii : IntsAre us ks) (kl : ks.length ≤ sizeLine) (rm : Room k callerA)
    (F : ∀ base : Heap, K.In base → base.Ns mainGlobals mg → FnG P w K mg base CX0 k fa fd [x] sp) (bd : ∀ (s : Shared) (u : Value), BindsTo s fd ⟨[u], []⟩ [(x, u)])
    (spk : ∀ H : Hp, Only H → SqL K H sc (ks.map V.int) → sp [.ref sc] H (fun v _ => v = .bl true) fun _ _ _ => False) :
    codeAny (model P w) callerA (.call (.ref fa) ⟨[.ref sc], []⟩) (fun r s' => r = .ok (.ret (.bool true)) ∧ OldK s0.heap s'.heap ∧ s'.os = s0.os ∧ AllBare s'.gens) s0 := by
  have rv := intVals ii
  have lU := ii.length
  have core : ∀ H : Hp, Only H → SqL K H sc (ks.map V.int) → HOk P w H s0.heap → (∀ b, H b ≠ none → b = sc) → (H sc ≠ none → K.lookup sc = none) →
      codeAny (model P w) callerA (.call (.ref fa) ⟨[.ref sc], []⟩) (fun r s' => r = .ok (.ret (.bool true)) ∧ OldK s0.heap s'.heap ∧ s'.os = s0.os ∧ AllBare s'.gens) s0 := by
    intro H hO hS ok1 only1 free1
    have below1 : ∀ {b : Addr} {o : Obj}, s0.heap.get? b = some o → H b = none → (hidT s0.heap H).get? b = some o := fun e n => hidT_get e n
    have dictNone : ∀ {b : Addr} {o : Obj} {es : Array DictEntry} {ep : Nat}, s0.heap.get? b = some o → o.data = .dict es ep → H b = none := by
      intro b o es ep e d
      cases q : H b with
      | none => rfl
      | some u =>
        obtain rfl : b = sc := only1 b (by rw [q]; simp)
        rw [hsc] at e
        cases e
        cases (show Data.seq us.toArray _ = Data.dict es ep from d)
    have ns1 : ∀ {b : Addr} {m : Str → Option Value}, s0.heap.Ns b m → (hidT s0.heap H).Ns b m := fun {b m} ⟨o, es, ep, e, d, r⟩ => ⟨o, es, ep, below1 e (dictNone e d), d, r⟩
    have kin1 : K.In (hidT s0.heap H) := by
      intro b o e
      refine below1 (KX b o e) ?_
      cases q : H b with
      | none => rfl
      | some u =>
        obtain rfl : b = sc := only1 b (by rw [q]; simp)
        rw [free1 (by rw [q]; simp)] at e
        cases e
    have md : Mod K mg (hidT s0.heap H) := ⟨kin1, ns1 nG, ⟨mb, ns1 nB, bb⟩, by
      obtain ⟨mc, h1, h2⟩ := lim
      exact ⟨mc, ns1 h1, h2⟩⟩
    have nothing : ∀ b : Addr, b ∉ ([] : List Addr) := fun b => by simp
    have env1 : Env0 P w K mg (hidT s0.heap H) callerA [] s0 H := ⟨rfl, md, fun b o e => of_hidT e, Nat.le_of_eq (hidT_size _ _), trivial, fun b hb => absurd (show b ∈ ([] : List Addr) from hb) (nothing b), ok1, .of_eq gn⟩
    have run1 := (F _ kin1 (ns1 nG)).run callerA [] s0 H ⟨[.ref sc], []⟩ [.ref sc] [.ref sc] _ _ rfl rm env1 (bd s0 (.ref sc)) (.cons rfl .nil) (spk H hO hS)
    refine codeAny_mono run1 fun r s' h => ?_
    match r, h with
    | .error e, h => exact h.elim
    | .ok .next, h => exact h.elim
    | .ok .brk, h => exact h.elim
    | .ok .cont, h => exact h.elim
    | .ok (.ret u), h =>
      obtain ⟨v, H', os, bare, un, ok2, rr, q⟩ := h
      cases (show v = .bl true from q)
      obtain rfl : u = Value.bool true := rr
      refine ⟨rfl, OldK.of_keep fun b o e => ?_, os, bare⟩
      cases q : H b with
      | none => exact un.keep b o e q (fun z => absurd (show b ∈ ([] : List Addr) from z) (nothing b)) (nothing b)
      | some u =>
        rcases hO b with z | ⟨ob, xs, z⟩
        · rw [q] at z
          cases z
        · obtain ⟨e1, _⟩ := ok1 b _ z
          obtain ⟨e2, _⟩ := ok2 b _ (un.frzs b ob _ z)
          rw [e] at e1
          cases e1
          exact e2
  cases hk : K.lookup sc with
  | some o =>
    have e := KX sc o hk
    rw [hsc] at e
    cases e
    refine core (fun _ => none) (fun _ => .inl rfl) (.inr ⟨_, us.toArray, _, hk, rfl, rfl, rfl, by rw [List.size_toArray, lU]; exact kl, by simpa using rv⟩) (fun b u z => ?_) (fun b z => absurd rfl z) fun z => absurd rfl z
    cases (show (none : Option HO) = some u from z)
  | none =>
    let H0 : Hp := fun b => if b = sc then some (.frz { cls := .type "list", data := .seq us.toArray } (.lst (ks.map V.int))) else none
    have here : H0 sc = some (.frz { cls := .type "list", data := .seq us.toArray } (.lst (ks.map V.int))) := if_pos rfl
    have away : ∀ {b : Addr}, b ≠ sc → H0 b = none := fun hb => if_neg hb
    refine core H0 (fun b => ?_) (.inl (.inr ⟨_, here⟩)) (fun b u z => ?_) (fun b z => ?_) fun _ => hk
    · by_cases hb : b = sc
      · subst hb
        exact .inr ⟨_, _, here⟩
      · exact .inl (away hb)
    · by_cases hb : b = sc
      · subst hb
        cases here.symm.trans z
        exact ⟨hsc, by rw [List.length_map]; exact kl, us, _, rv, hsc⟩
      · cases (away hb).symm.trans z
    · by_cases hb : b = sc
      · exact hb
      · exact absurd (away hb) z
theorem walkG {l : PySem.W.OpenLaw} {n k : Nat} {q : Program} {loose : List Str} {XP : (Str → Option Value) → Heap → Prop} {YP : World → Heap → Prop} {d : DefRec} {K : Params → PySem.W.Frag} {sp : DSp} {x : Str}
    (hn : l.most = some n) (hn2 : n ≤ sizeLine) (nodef : d.params.defaults = []) (rm : Room k callerA) (hY : ∀ (w : World) (h : Heap), YP w h → (K w.params).In h)
    (F : ∀ (w : World) (mg : Str → Option Value) (fa : Addr) (h : Heap), (K w.params).In h → h.Ns mainGlobals mg → mg d.name = some (.ref fa) →
      ∃ fd : FuncData, (∀ (s : Shared) (u : Value), BindsTo s fd ⟨[u], []⟩ [(x, u)]) ∧ ∀ base : Heap, (K w.params).In base → base.Ns mainGlobals mg → FnG l.prog w (K w.params) mg base CX0 k fa fd [x] (spL (K w.params) sp))
    (hsp : ∀ (ns : List Int), ns.length ≤ n → sp [.rl (ns.map D.int)] [] fun d _ => d = .bl true) (hT : HasT.T = [] := by rfl) :
    PySem.W.WalkO q loose XP YP l.row.toRowW d [] (fun f vs => PySem.call f vs) := by
  refine Att.attach_call hn nodef fun w s₀ s₁ mg mb fa o pm cd doc a us ks G Y ho hd hcd hmg hobj hints hlen hg => ?_
  have KX := hY w _ Y
  obtain ⟨fd, hb, hF⟩ := F w mg fa _ KX G.T.g hmg
  refine endG KX G.T.g G.T.b G.T.builtins G.T.nolimit hg hobj hints (Nat.le_trans hlen hn2) rm hF hb fun H hO hS => ?_
  have toFix : FixL (K w.params) H a (ks.map V.int) := by
    rcases hS with (h | ⟨ob, h⟩) | h
    · exfalso
      rcases hO a with z | ⟨_, _, z⟩
      · rw [h] at z
        cases z
      · rw [h] at z
        cases z
    · exact .inl ⟨ob, h⟩
    · exact .inr (.inr h)
  have rel : ∀ {ks : List Int}, RelDs (K w.params) H [] (ks.map D.int) (ks.map V.int) := by
    intro ks
    induction ks with
    | nil => rfl
    | cons i ks ih => exact ⟨.int i, ks.map V.int, rfl, rfl, ih⟩
  refine ⟨[], [.rl (ks.map D.int)], [], _, ⟨rfl, List.nodup_nil, fun n e h => by simp at h, fun p hp => by rw [hT] at hp; cases hp⟩, ⟨.ref a, [], rfl, ⟨a, ks.map V.int, rfl, toFix, rel⟩, rfl⟩, hsp ks hlen, fun v H' A' d S' e s' r p => ?_⟩
  subst p
  exact r
end DL
/-! DT: names for the readings that a walk writes; a def that may be called. -/
namespace DL
open PySem PySem.Spec PyProof.Rows L2
variable [HasT]

def oSub : D2 := o2J fun i j => .int (i - j)
def oMul : D2 := o2I CMul fun i j => .int (i * j)
def oMod : D2 := o2I (fun _ j => 0 < j) fun i j => .int (i % j)
def oDiv : D2 := o2I CDiv fun i j => .int (i / j)
def oPow : D2 := o2I CPow fun i j => .int (i ^ j.toNat)
def oLt : D2 := o2J fun i j => .bl (decide (i < j))
def oLe : D2 := o2J fun i j => .bl (decide (i ≤ j))
def oGt : D2 := o2J fun i j => .bl (decide (j < i))
def oGe : D2 := o2J fun i j => .bl (decide (j ≤ i))
def oNeg : D1 := o1J fun i => .int (-i)
def cMin : DC := c2I fun i j => if j < i then j else i
def cMax : DC := c2I fun i j => if j > i then j else i
section
variable {K : PySem.W.Frag}
theorem rul_sub : Rul2 K oSub (rI0 fun i j => .int (i - j)) := rul_2J fun _ _ _ _ _ => rfl
theorem rul_mul : Rul2 K oMul (rI CMul fun i j => .int (i * j)) := rul_2I fun _ _ _ _ _ => rfl
theorem rul_mod : Rul2 K oMod (rI (fun _ j => 0 < j) fun i j => .int (i % j)) := rul_2I fun _ _ _ _ _ => rfl
theorem rul_div : Rul2 K oDiv (rI CDiv fun i j => .int (i / j)) := rul_2I fun _ _ _ _ _ => rfl
theorem rul_pow : Rul2 K oPow (rI CPow fun i j => .int (i ^ j.toNat)) := rul_2I fun _ _ _ _ _ => rfl
theorem rul_lt : Rul2 K oLt (rI0 fun i j => .bl (decide (i < j))) := rul_2J fun _ _ _ _ _ => rfl
theorem rul_le : Rul2 K oLe (rI0 fun i j => .bl (decide (i ≤ j))) := rul_2J fun _ _ _ _ _ => rfl
theorem rul_gt : Rul2 K oGt (rI0 fun i j => .bl (decide (j < i))) := rul_2J fun _ _ _ _ _ => rfl
theorem rul_ge : Rul2 K oGe (rI0 fun i j => .bl (decide (j ≤ i))) := rul_2J fun _ _ _ _ _ => rfl
theorem rul_neg : Rul1 K oNeg (rU fun i => .int (-i)) := rul_1J fun _ _ _ _ => rfl
theorem rul_min : RulC K cMin (fun xs H Q => ∃ i j, xs = [.int i, .int j] ∧ Q (.int ((fun i j : Int => if j < i then j else i) i j)) H) := rul_2c
theorem rul_max : RulC K cMax (fun xs H Q => ∃ i j, xs = [.int i, .int j] ∧ Q (.int ((fun i j : Int => if j > i then j else i) i j)) H) := rul_2c
end
/-- a def that may be called by its name, with its promise -/
structure CalG (P : Program) (w : World) (K : PySem.W.Frag) (mg : Str → Option Value) (base : Heap) (k : Nat) (x : Str) (sp : DSp) : Prop where
  ex : ∃ (f : Addr) (fd : FuncData) (ps : List Str), FnG P w K mg base CX0 k f fd ps (spL K sp) ∧ mg x = some (.ref f) ∧ PySem.W.keepIn K (.ref f) = true ∧ L2.Binds K fd ps []
section
variable {X : Cx} {k j : Nat} {sp : DSp} {x : Str} {p pos : Pos} {e : Expr} {es : List Expr} {t : DA}
theorem de_cal (C : CalG X.prog X.w X.K X.mg X.base j x sp) (hgd : X.A.guards = some []) (hr : Room k X.A) (hj : j ≤ k) (hg : Gl X x) (ha : PA X (e :: es) (liftA X.K t)) (hdb : (x == ("__debug__" : Str)) = false := by decide)
    (he : starEach (e :: es) X.env = (false, eval e X.env) :: starEach es X.env := by rfl) (hpl : (backTo pos (starEach es X.env)).any (·.1) = false := by rfl) : PE X (.Call (.Name x p) (e :: es) [] pos) (liftE X.K (dCall sp t)) := by
  obtain ⟨f, fd, ps, F, hm, hk, hb⟩ := C.ex
  exact de_callG F hgd (hr.mono hj) hg hm hk hb ha hdb he hpl
end
/-- a def that may be called by keywords alone -/
structure CalK (P : Program) (w : World) (K : PySem.W.Frag) (mg : Str → Option Value) (base : Heap) (k : Nat) (x : Str) (sp : DSp) (ks : List Str) (g : {α : Type} → List α → List α) : Prop where
  ex : ∃ (f : Addr) (fd : FuncData) (ps : List Str), FnG P w K mg base CX0 k f fd ps (spL K sp) ∧ mg x = some (.ref f) ∧ PySem.W.keepIn K (.ref f) = true ∧ KwB K fd ps ks g
  sub : ∀ {α : Type} (l : List α) (a : α), a ∈ g l → a ∈ l
section
variable {X : Cx} {k j : Nat} {sp : DSp} {x : Str} {p pos : Pos} {kws : List Keyword} {ks : List Str} {g : {α : Type} → List α → List α} {t : DA}
theorem de_calK {n : Nat} (C : CalK X.prog X.w X.K X.mg X.base j x sp ks g) (hgd : X.A.guards = some []) (hr : Room k X.A) (hj : j ≤ k) (hg : Gl X x) (hkw : PK X kws (liftA X.K t)) (hn : ks.length = n := by rfl) (hdb : (x == ("__debug__" : Str)) = false := by decide)
    (hall : (backToKw pos (keywordEach kws X.env)).all (·.1.isSome) = true := by rfl) (hks : (backToKw pos (keywordEach kws X.env)).filterMap (·.1) = ks := by rfl)
    (hpl : ((backTo pos (starEach [] X.env)).any (·.1) || (backToKw pos (keywordEach kws X.env)).any (·.1.isNone)) = false := by rfl) : PE X (.Call (.Name x p) [] kws pos) (liftE X.K (dCallK sp n (fun l => g l) t)) := by
  subst hn
  obtain ⟨f, fd, ps, F, hm, hk, hb⟩ := C.ex
  exact de_callKw F hgd (hr.mono hj) hg hm hk hb C.sub hkw hdb hall hks hpl
end
/-- the def binds these keywords -/
theorem kwB_of {K : PySem.W.Frag} {x qual : Str} {st : Stmt} {f : Addr} {fd : FuncData} {ps ks : List Str} {g : {α : Type} → List α → List α} (F : Fun K x qual st f fd) (len : ∀ {α : Type} (l : List α), l.length = ks.length → (g l).length = ps.length)
    (mp : ∀ {α β : Type} (h : α → β) (l : List α), g (l.map h) = (g l).map h)
    (h : ∀ (kV doc pm : Value) (an : Option Addr) (cdv ct : Value) (ws : List Value), ws.length = ks.length → bindArgs (PySem.W.fnOf x qual (defArgs st) (defBody st) (defScope st) .none kV doc pm an cdv ct) ⟨[], ks.zip ws⟩ = pure (ps.zip (g ws))) : KwB K fd ps ks g := by
  obtain ⟨oc, od, kV, doc, pm, an, cdv, ct, osl, rfl, lk, hcd⟩ := F.ex
  exact ⟨len, mp, fun s ws _ hl => .of_eq (h kV doc pm an cdv ct ws hl)⟩
/-- the store is put back -/
def dGc0 (te : DE) : DE := fun ρ S post => te ρ S fun d S1 => below S.length d = true ∧ (S1.take S.length).all (belowE S.length) = true ∧ post d (S1.take S.length)
theorem de_gc0 {X : Cx} {e : Expr} {te : DE} (h : PE X e (liftE X.K te)) : PE X e (liftE X.K (dGc0 te)) :=
  pe_mono h fun σ H Q ⟨A, ρ, S, post, n, s, p, k⟩ => ⟨A, ρ, S, _, n, s, p, fun v1 H1 A1 d1 S1 e1 s1 r1 ⟨b1, b2, p1⟩ =>
    k v1 H1 (A1.take S.length) d1 (S1.take S.length) (e1.take (Nat.le_of_eq s.len.symm)) (s1.take b2) (r1.take b1) p1⟩
end DL
/-! DU: carrying a walk out over data. -/
namespace DL
open PySem PySem.Spec PyProof.Rows L2
variable [HasT]

/-! ### sequences -/
theorem seqOf_tup {S : Store} {xs ds : List D} : seqOf S (.tup xs) ds ↔ xs = ds := by simp [seqOf]
theorem seqOf_rl {S : Store} {xs ds : List D} : seqOf S (.rl xs) ds ↔ xs = ds := by simp [seqOf]
theorem seqOf_lr {S : Store} {n : Nat} {ds : List D} : seqOf S (.lr n) ds ↔ S[n]? = some (.lst ds) := by simp [seqOf]
theorem atI_of {α : Type} {xs : List α} {i : Int} (h0 : 0 ≤ i) {v : α} (h : xs[i.toNat]? = some v) : L2.atI xs i = some v := by
  have e : ((i.toNat : Nat) : Int) = i := by omega
  have := atI_nat h
  rwa [e] at this
theorem ixN_of {n : Nat} {i : Int} (h0 : 0 ≤ i) (h : i < n) : L2.ixN n i = some i.toNat := by
  unfold ixN
  rw [if_pos h0, if_pos h]
/-! ### nothing of the store within -/
mutual
theorem ren_below (f : Nat → Nat) : ∀ d : D, below 0 d = true → ren f d = d
  | .non, _ => by rw [ren] <;> simp
  | .bl _, _ => by rw [ren] <;> simp
  | .int _, _ => by rw [ren] <;> simp
  | .str _, _ => by rw [ren] <;> simp
  | .tup ds, h => by
    rw [below] at h
    rw [ren, rens_belows f ds h]
  | .ztup ds, h => by
    rw [below] at h
    rw [ren, rens_belows f ds h]
  | .rl ds, h => by
    rw [below] at h
    rw [ren, rens_belows f ds h]
  | .lr n, h => by simp [below] at h
  | .exc _ _ _ w, h => by
    rw [below] at h
    rw [ren, ren_below f w h]
  | .opq _, _ => by rw [ren] <;> simp
theorem rens_belows (f : Nat → Nat) : ∀ ds : List D, belows 0 ds = true → rens f ds = ds
  | [], _ => by rw [rens]
  | d :: ds, h => by
    rw [belows, Bool.and_eq_true] at h
    rw [rens, ren_below f d h.1, rens_belows f ds h.2]
end
mutual
theorem below_mono {n m : Nat} (hn : n ≤ m) : ∀ d : D, below n d = true → below m d = true
  | .non, _ => by rw [below] <;> simp
  | .bl _, _ => by rw [below] <;> simp
  | .int _, _ => by rw [below] <;> simp
  | .str _, _ => by rw [below] <;> simp
  | .tup ds, h => by
    rw [below] at h ⊢
    exact belows_mono hn ds h
  | .ztup ds, h => by
    rw [below] at h ⊢
    exact belows_mono hn ds h
  | .rl ds, h => by
    rw [below] at h ⊢
    exact belows_mono hn ds h
  | .exc _ _ _ w, h => by
    rw [below] at h ⊢
    exact below_mono hn w h
  | .opq _, _ => by rw [below] <;> simp
  | .lr k, h => by
    rw [below, decide_eq_true_eq] at h ⊢
    omega
theorem belows_mono {n m : Nat} (hn : n ≤ m) : ∀ ds : List D, belows n ds = true → belows m ds = true
  | [], _ => by rw [belows]
  | d :: ds, h => by
    rw [belows, Bool.and_eq_true] at h ⊢
    exact ⟨below_mono hn d h.1, belows_mono hn ds h.2⟩
end
theorem belows_iff {n : Nat} : ∀ {ds : List D}, belows n ds = true ↔ ∀ d ∈ ds, below n d = true
  | [] => by simp [belows]
  | d :: ds => by simp [belows, belows_iff (ds := ds)]
theorem belows_append {n : Nat} {xs ys : List D} : belows n (xs ++ ys) = (belows n xs && belows n ys) := by
  rw [Bool.eq_iff_iff, Bool.and_eq_true, belows_iff, belows_iff, belows_iff]
  simp only [List.mem_append]
  exact ⟨fun h => ⟨fun d hd => h d (.inl hd), fun d hd => h d (.inr hd)⟩, fun h d hd => hd.elim (h.1 d) (h.2 d)⟩
theorem belows_map {α : Type} {n : Nat} (f : α → D) (h : ∀ x, below n (f x) = true) (xs : List α) : belows n (xs.map f) = true := by
  rw [belows_iff]
  intro d hd
  obtain ⟨x, _, rfl⟩ := List.mem_map.mp hd
  exact h x
theorem belows_ints (n : Nat) (xs : List Int) : belows n (xs.map D.int) = true := belows_map _ (fun _ => by rw [below] <;> simp) xs
theorem belowE_mono {n m : Nat} (hn : n ≤ m) (e : Ent) (h : belowE n e = true) : belowE m e = true := by
  cases e with
  | lst ds => exact belows_mono hn ds h
  | dct kvs => exact belows_mono hn _ h
theorem renE_below (f : Nat → Nat) (e : Ent) (h : belowE 0 e = true) : renE f e = e := by
  cases e with
  | lst ds =>
    show Ent.lst (rens f ds) = _
    rw [rens_belows f ds h]
  | dct kvs =>
    show Ent.dct (kvs.map fun p => (p.1, ren f p.2)) = _
    have e : (kvs.map fun p => (p.1, ren f p.2)) = kvs := by
      have h' : ∀ p ∈ kvs, ren f p.2 = p.2 := fun p hp => ren_below f _ (belows_iff.mp h _ (List.mem_map.mpr ⟨p, hp, rfl⟩))
      calc kvs.map (fun p => (p.1, ren f p.2)) = kvs.map id := List.map_congr_left fun p hp => by rw [h' p hp]; rfl
        _ = kvs := List.map_id _
    rw [e]
/-! ### ends of a def -/
theorem end_same {S S' : Store} {post : DK} {d : D} (h1 : S'.length = S.length) (h2 : below S.length d = true) (h3 : S'.all (belowE S.length) = true) (h : post d S') : fnEnd S post d S' := by
  refine .inl ⟨S.length, Nat.le_refl _, h2, ?_, ?_⟩
  · rw [List.take_of_length_le (Nat.le_of_eq h1)]
    exact h3
  · rw [List.take_of_length_le (Nat.le_of_eq h1)]
    exact h
/-- no store at the start, and none at the end -/
theorem end_none {S' : Store} {post : DK} {d : D} (h2 : below 0 d = true) (h : post d []) : fnEnd [] post d S' := .inl ⟨0, Nat.le_refl _, h2, rfl, h⟩
/-- of the store only what was there stays -/
theorem end_take {S S' : Store} {post : DK} {d : D} (h2 : below S.length d = true) (h3 : (S'.take S.length).all (belowE S.length) = true) (h : post d (S'.take S.length)) : fnEnd S post d S' := .inl ⟨S.length, Nat.le_refl _, h2, h3, h⟩
theorem end_new {S S' : Store} {post : DK} {j : Nat} (e : Ent) (h1 : S.length ≤ j) (h2 : S'[j]? = some e) (h3 : belowE S.length e = true) (h4 : (S'.take S.length).all (belowE S.length) = true) (h : post (.lr S.length) (S'.take S.length ++ [e])) : fnEnd S post (.lr j) S' := .inr ⟨j, e, rfl, h1, h2, h3, h4, h⟩
/-! ### calls -/
/-- what is handed in hangs on no store -/
theorem call_pure {sp : DSp} {ds : List D} {S : Store} {post : DK} (hb : belows 0 ds = true) (h : sp ds [] fun d S' => post (ren (fun i => S.length + i) d) (S ++ S'.map (renE fun i => S.length + i))) : callD sp ds S post := by
  refine ⟨[], ds, [], List.nodup_nil, rens_belows _ ds hb, rfl, fun i n e h1 _ => by simp at h1, ?_⟩
  have e : rn [] S.length = fun i => S.length + i := by
    funext i
    simp [rn]
  rw [e]
  simpa [setAll] using h
/-- the first is one thing of the store -/
theorem call_one {sp : DSp} {ds : List D} {S : Store} {j : Nat} {e : Ent} {post : DK} (hj : S[j]? = some e) (hb : belows 0 ds = true) (he : belowE 0 e = true)
    (h : sp (.lr 0 :: ds) [e] fun d S' => post (ren (rn [j] S.length) d) (setAll [j] ((S'.take 1).map (renE (rn [j] S.length))) S ++ (S'.drop 1).map (renE (rn [j] S.length)))) : callD sp (.lr j :: ds) S post := by
  refine ⟨[j], .lr 0 :: ds, [e], by simp, ?_, rfl, fun i n e' h1 h2 => ?_, h⟩
  · rw [rens, rens_belows _ ds hb, ren]
    simp [rn]
  · have hi : i = 0 := by
      have := (List.getElem?_eq_some_iff.mp h1).1
      simp at this
      exact this
    subst hi
    simp at h1 h2
    subst h1 h2
    rw [renE_below _ _ he]
    exact hj
/-- the first two are things of the store -/
theorem call_two {sp : DSp} {ds : List D} {S : Store} {j k : Nat} {e e2 : Ent} {post : DK} (hjk : j ≠ k) (hj : S[j]? = some e) (hk : S[k]? = some e2) (hb : belows 0 ds = true) (he : belowE 0 e = true) (he2 : belowE 0 e2 = true)
    (h : sp (.lr 0 :: .lr 1 :: ds) [e, e2] fun d S' => post (ren (rn [j, k] S.length) d) (setAll [j, k] ((S'.take 2).map (renE (rn [j, k] S.length))) S ++ (S'.drop 2).map (renE (rn [j, k] S.length)))) : callD sp (.lr j :: .lr k :: ds) S post := by
  refine ⟨[j, k], .lr 0 :: .lr 1 :: ds, [e, e2], by simp [hjk], ?_, rfl, fun i n e' h1 h2 => ?_, h⟩
  · rw [rens, rens, rens_belows _ ds hb, ren, ren]
    simp [rn]
  · have hi : i < 2 := (List.getElem?_eq_some_iff.mp h1).1
    match i, hi with
    | 0, _ =>
      simp at h1 h2
      subst h1 h2
      rw [renE_below _ _ he]
      exact hj
    | 1, _ =>
      simp at h1 h2
      subst h1 h2
      rw [renE_below _ _ he2]
      exact hk
/-! ### rows picked out -/
def flt {α : Type} (c : Nat → Bool) (v : Nat → α) (n : Nat) : List α := ((List.range n).filter c).map v
theorem flt_zero {α : Type} {c : Nat → Bool} {v : Nat → α} : flt c v 0 = [] := rfl
theorem flt_succ {α : Type} {c : Nat → Bool} {v : Nat → α} {n : Nat} : flt c v (n + 1) = flt c v n ++ (if c n = true then [v n] else []) := by
  unfold flt
  rw [List.range_succ, List.filter_append, List.map_append]
  congr 1
  by_cases h : c n = true
  · simp [h]
  · simp [h]
theorem flt_pos {α : Type} {c : Nat → Bool} {v : Nat → α} {n : Nat} (h : c n = true) : flt c v n ++ [v n] = flt c v (n + 1) := by rw [flt_succ, if_pos h]
theorem flt_neg {α : Type} {c : Nat → Bool} {v : Nat → α} {n : Nat} (h : ¬ c n = true) : flt c v n = flt c v (n + 1) := by rw [flt_succ, if_neg h, List.append_nil]
theorem flt_len {α : Type} {c : Nat → Bool} {v : Nat → α} {n : Nat} : (flt c v n).length ≤ n := by
  unfold flt
  rw [List.length_map]
  have := List.length_filter_le c (List.range n)
  rwa [List.length_range] at this
theorem flt_map {α β : Type} {c : Nat → Bool} {v : Nat → α} (f : α → β) {n : Nat} : (flt c v n).map f = flt c (fun i => f (v i)) n := by
  unfold flt
  rw [List.map_map]
  rfl
theorem flt_all {α : Type} {v : Nat → α} {n : Nat} : flt (fun _ => true) v n = (List.range n).map v := by
  unfold flt
  rw [List.filter_eq_self.mpr fun _ _ => rfl]
theorem flt_congr {α : Type} {c c' : Nat → Bool} {v v' : Nat → α} {n : Nat} (h : ∀ i, i < n → c i = c' i) (h2 : ∀ i, i < n → c i = true → v i = v' i) : flt c v n = flt c' v' n := by
  induction n with
  | zero => rfl
  | succ n ih =>
    rw [flt_succ, flt_succ, ih (fun i hi => h i (by omega)) (fun i hi => h2 i (by omega)), ← h n (by omega)]
    by_cases q : c n = true
    · rw [if_pos q, if_pos q, h2 n (by omega) q]
    · rw [if_neg q, if_neg q]
theorem flt_mem {α : Type} {c : Nat → Bool} {v : Nat → α} {n : Nat} {a : α} : a ∈ flt c v n ↔ ∃ i, i < n ∧ c i = true ∧ v i = a := by
  unfold flt
  rw [List.mem_map]
  constructor
  · rintro ⟨i, hi, rfl⟩
    rw [List.mem_filter, List.mem_range] at hi
    exact ⟨i, hi.1, hi.2, rfl⟩
  · rintro ⟨i, h1, h2, rfl⟩
    exact ⟨i, List.mem_filter.mpr ⟨List.mem_range.mpr h1, h2⟩, rfl⟩
/-! ### pages, edits -/
def tI (xs : List Int) : D := .tup (xs.map D.int)
def dE (p : Int × Int) : D := .tup [.int p.1, .int p.2]
def tE (es : List (Int × Int)) : D := .tup (es.map dE)
theorem below_tI (n : Nat) (xs : List Int) : below n (tI xs) = true := by
  unfold tI
  rw [below]
  exact belows_ints n xs
theorem below_dE (n : Nat) (p : Int × Int) : below n (dE p) = true := by simp [dE, below, belows]
theorem below_tE (n : Nat) (es : List (Int × Int)) : below n (tE es) = true := by
  unfold tE
  rw [below]
  exact belows_map _ (below_dE n) es
theorem tI_inj {xs ys : List Int} : tI xs = tI ys ↔ xs = ys := by
  unfold tI
  constructor
  · intro h
    have h' : xs.map D.int = ys.map D.int := by injection h
    exact List.map_inj_right (fun a b e => by injection e) |>.mp h'
  · intro h
    rw [h]
theorem toPs_ints (xs : List Int) : toPs (xs.map D.int) = xs.map PyData.int := by
  induction xs with
  | nil => rfl
  | cons x xs ih => rw [List.map_cons, toPs, ih, toP, List.map_cons]
theorem eqvAll_ints : ∀ (xs ys : List Int), PyData.eqvAll (xs.map PyData.int) (ys.map PyData.int) = decide (xs = ys)
  | [], [] => by rw [List.map_nil, PyData.eqvAll]; simp
  | [], y :: ys => by rw [List.map_nil, List.map_cons, PyData.eqvAll]; simp
  | x :: xs, [] => by rw [List.map_nil, List.map_cons, PyData.eqvAll]; simp
  | x :: xs, y :: ys => by
    rw [List.map_cons, List.map_cons, PyData.eqvAll, eqvAll_ints xs ys, PyData.eqv]
    by_cases h : x = y
    · subst h
      simp
    · simp [h]
theorem eqv_tI (xs ys : List Int) : PyData.eqv (toP (tI xs)) (toP (tI ys)) = decide (xs = ys) := by
  unfold tI
  rw [toP, toP, toPs_ints, toPs_ints, PyData.eqv, eqvAll_ints]
/-- equal data are equal -/
theorem oEq_fine {neg : Bool} {c k c' k' : Nat} {xs ys : List D} {S : Store} {post : DK} (h1 : Fine c k (.tup xs)) (h2 : Fine c' k' (.tup ys)) (hk : k ≤ 64) (hk' : k' ≤ 64) (h : post (.bl (neg ^^ PyData.eqv (toP (.tup xs)) (toP (.tup ys)))) S) : oEq neg (.tup xs) (.tup ys) S post :=
  ⟨_, _, .inl ⟨h1.1, rfl⟩, .inl ⟨h2.1, rfl⟩, h1.2.shaped hk, h2.2.shaped hk', h⟩
end DL
/-! DV: a walk is carried out by the simplifier. -/
namespace DL
open PySem PySem.Spec PyProof.Rows L2
variable [HasT]
section
variable {S : Store} {post : DK} {n m : Nat} {i j : Int} {xs ys ds : List D} {d x y : D}
theorem go_ix_lr : oIx (.lr n) (.int i) S post ↔ ∃ ds, S[n]? = some (.lst ds) ∧ ∃ d, L2.atI ds i = some d ∧ post d S := by
  constructor
  · rintro ⟨ds, j, d, h1, h2, h3, h4⟩
    cases h2
    exact ⟨ds, seqOf_lr.mp h1, d, h3, h4⟩
  · rintro ⟨ds, h1, d, h3, h4⟩
    exact ⟨ds, i, d, seqOf_lr.mpr h1, rfl, h3, h4⟩
theorem go_ix_tup : oIx (.tup xs) (.int i) S post ↔ ∃ d, L2.atI xs i = some d ∧ post d S := by
  constructor
  · rintro ⟨ds, j, d, h1, h2, h3, h4⟩
    cases h2
    cases seqOf_tup.mp h1
    exact ⟨d, h3, h4⟩
  · rintro ⟨d, h3, h4⟩
    exact ⟨xs, i, d, seqOf_tup.mpr rfl, rfl, h3, h4⟩
theorem go_ix_rl : oIx (.rl xs) (.int i) S post ↔ ∃ d, L2.atI xs i = some d ∧ post d S := by
  constructor
  · rintro ⟨ds, j, d, h1, h2, h3, h4⟩
    cases h2
    cases seqOf_rl.mp h1
    exact ⟨d, h3, h4⟩
  · rintro ⟨d, h3, h4⟩
    exact ⟨xs, i, d, seqOf_rl.mpr rfl, rfl, h3, h4⟩
theorem go_at0 {α : Type} {x : α} {xs : List α} : L2.atI (x :: xs) 0 = some x := atI_of (Int.le_refl _) rfl
theorem go_at1 {α : Type} {x y : α} {xs : List α} : L2.atI (x :: y :: xs) 1 = some y := atI_of (by decide) rfl
theorem go_at2 {α : Type} {x y z : α} {xs : List α} : L2.atI (x :: y :: z :: xs) 2 = some z := atI_of (by decide) rfl
theorem go_ix0 {n : Nat} : L2.ixN (n + 1) 0 = some 0 := ixN_of (Int.le_refl _) (by omega)
theorem go_ix1 {n : Nat} : L2.ixN (n + 1 + 1) 1 = some 1 := ixN_of (by decide) (by omega)
theorem go_ix20 : L2.ixN 2 0 = some 0 := rfl
theorem go_ix21 : L2.ixN 2 1 = some 1 := rfl
theorem go_int_int : cInt [.int i] S post ↔ post (.int i) S := by simp [cInt]
theorem go_int_bl {b : Bool} : cInt [.bl b] S post ↔ post (.int (if b then 1 else 0)) S := by simp [cInt]
theorem go_2c {g : Int → Int → Int} : c2I g [.int i, .int j] S post ↔ post (.int (g i j)) S := by
  constructor
  · rintro ⟨a, b, h, p⟩
    injection h with h1 h2
    injection h2 with h3 h4
    cases h1
    cases h3
    exact p
  · exact fun p => ⟨i, j, rfl, p⟩
theorem go_2I {C : Int → Int → Prop} {g : Int → Int → D} : o2I C g (.int i) (.int j) S post ↔ C i j ∧ post (g i j) S := Iff.rfl
theorem go_2J {g : Int → Int → D} : o2J g (.int i) (.int j) S post ↔ post (g i j) S := Iff.rfl
theorem go_1J {g : Int → D} : o1J g (.int i) S post ↔ post (g i) S := Iff.rfl
theorem go_add : oAdd (.int i) (.int j) S post ↔ post (.int (i + j)) S := Iff.rfl
theorem go_add_lr : oAdd (.lr n) (.lr m) S post ↔ ∃ xs, S[n]? = some (.lst xs) ∧ ∃ ys, S[m]? = some (.lst ys) ∧ xs.length + ys.length ≤ 100000 ∧ post (.lr S.length) (S ++ [.lst (xs ++ ys)]) :=
  ⟨fun ⟨xs, ys, a, b, c, d⟩ => ⟨xs, a, ys, b, c, d⟩, fun ⟨xs, a, ys, b, c, d⟩ => ⟨xs, ys, a, b, c, d⟩⟩
theorem go_set {p : Store → Prop} : setSeq (.lr n) (.int i) d S p ↔ ∃ ds, S[n]? = some (.lst ds) ∧ ∃ j, L2.ixN ds.length i = some j ∧ p (S.set n (.lst (ds.set j d))) := by
  constructor
  · rintro ⟨a, ds, k, j, h1, h2, h3, h4, h5⟩
    cases h1
    cases h3
    exact ⟨ds, h2, j, h4, h5⟩
  · rintro ⟨ds, h2, j, h4, h5⟩
    exact ⟨n, ds, i, j, rfl, h2, rfl, h4, h5⟩
theorem go_len : cLen [x] S post ↔ ∃ xs, seqOf S x xs ∧ post (.int xs.length) S := by
  constructor
  · rintro ⟨a, xs, h, q, p⟩
    cases h
    exact ⟨xs, q, p⟩
  · exact fun ⟨xs, q, p⟩ => ⟨x, xs, rfl, q, p⟩
theorem go_tuple : cTuple [x] S post ↔ ∃ xs, seqOf S x xs ∧ post (.tup xs) S := by
  constructor
  · rintro ⟨a, xs, h, q, p⟩
    cases h
    exact ⟨xs, q, p⟩
  · exact fun ⟨xs, q, p⟩ => ⟨x, xs, rfl, q, p⟩
theorem go_list : cList [x] S post ↔ ∃ xs, seqOf S x xs ∧ post (.lr S.length) (S ++ [.lst xs]) := by
  constructor
  · rintro ⟨a, xs, h, q, p⟩
    cases h
    exact ⟨xs, q, p⟩
  · exact fun ⟨xs, q, p⟩ => ⟨x, xs, rfl, q, p⟩
theorem go_eq_int {neg : Bool} : oEq neg (.int i) (.int j) S post ↔ post (.bl (neg ^^ decide (i = j))) S := Iff.rfl
theorem go_eq_bl {neg a b : Bool} : oEq neg (.bl a) (.bl b) S post ↔ post (.bl (neg ^^ decide (a = b))) S := Iff.rfl
theorem go_eq_str {neg : Bool} {a b : Str} : oEq neg (.str a) (.str b) S post ↔ post (.bl (neg ^^ decide (a = b))) S := Iff.rfl
theorem go_gtup {k : Nat} {gs : DGs} {ρ : DEnv} {p : DEnv → Store → Prop} : gTup k gs (.tup xs) ρ S p ↔ xs.length = k ∧ gs xs ρ S p := by
  constructor
  · rintro ⟨ds, h | h, a, b⟩
    · cases h
      exact ⟨a, b⟩
    · cases h
  · exact fun ⟨a, b⟩ => ⟨xs, .inl rfl, a, b⟩
theorem go_gztup {k : Nat} {gs : DGs} {ρ : DEnv} {p : DEnv → Store → Prop} : gTup k gs (.ztup xs) ρ S p ↔ xs.length = k ∧ gs xs ρ S p := by
  constructor
  · rintro ⟨ds, h | h, a, b⟩
    · cases h
    · cases h
      exact ⟨a, b⟩
  · exact fun ⟨a, b⟩ => ⟨xs, .inr rfl, a, b⟩
theorem go_gcons {g : DG} {gs : DGs} {ρ : DEnv} {p : DEnv → Store → Prop} : gCons g gs (d :: xs) ρ S p ↔ g d ρ S fun ρ1 S1 => gs xs ρ1 S1 p := by
  constructor
  · rintro ⟨a, b, h, q⟩
    cases h
    exact q
  · exact fun q => ⟨d, xs, rfl, q⟩
theorem go_gnil {ρ : DEnv} {p : DEnv → Store → Prop} : gNil [] ρ S p ↔ p ρ S := ⟨fun h => h.2, fun h => ⟨rfl, h⟩⟩
theorem go_bl {b : Bool} {f : Bool → Prop} : asB (.bl b) f ↔ f b := Iff.rfl
def appK (o : D) (post : DK) (d : D) (S2 : Store) : Prop := ∃ (n : Nat) (ds : List D), o = .lr n ∧ S2[n]? = some (.lst ds) ∧ ds.length ≤ 100000 ∧ post .non (S2.set n (.lst (ds ++ [d])))
theorem go_app {to te : DE} {ρ : DEnv} : dApp to te ρ S post ↔ to ρ S fun o S1 => (∃ (n : Nat) (ds : List D), o = .lr n ∧ S1[n]? = some (.lst ds)) ∧ te ρ S1 (appK o post) := Iff.rfl
theorem go_ex_lr {P : Nat → Prop} : (∃ k, D.lr n = .lr k ∧ P k) ↔ P n := by
  constructor
  · rintro ⟨k, h, p⟩
    cases h
    exact p
  · exact fun p => ⟨n, rfl, p⟩
theorem go_app1 : appK (.lr n) post d S ↔ ∃ ds, S[n]? = some (.lst ds) ∧ ds.length ≤ 100000 ∧ post .non (S.set n (.lst (ds ++ [d]))) := by
  constructor
  · rintro ⟨k, ds, h, p⟩
    cases h
    exact ⟨ds, p⟩
  · exact fun ⟨ds, p⟩ => ⟨n, ds, rfl, p⟩
theorem go_app0 : (∃ (k : Nat) (ds : List D), D.lr n = .lr k ∧ S[k]? = some (.lst ds)) ↔ ∃ ds, S[n]? = some (.lst ds) := by
  constructor
  · rintro ⟨k, ds, h, p⟩
    cases h
    exact ⟨ds, p⟩
  · exact fun ⟨ds, p⟩ => ⟨n, ds, rfl, p⟩
end
theorem go_seqS {t u : DS} {E : DEnds} {ρ : DEnv} {S : Store} : dSeq t u E ρ S = t { E with nx := u E } ρ S := rfl
/-! ### loops -/
section
variable {w : DIt} {g : DG} {tt : DT} {te : DE} {tb : DS} {vs : List Nat} {ρ : DEnv} {S : Store} {post : DK} {E : DEnds} {t : DA}
def lcK (g : DG) (tt : DT) (te : DE) (vs : List Nat) (ρ : DEnv) (post : DK) (xs : List D) (C : Store → Prop) (S1 : Store) : Prop := ∃ I : Nat → List D → Store → Prop, I 0 [] S1 ∧ (∀ i acc S, i ≤ xs.length → I i acc S → C S) ∧
  (∀ (i : Nat) (d : D) (acc : List D) (S : Store), xs[i]? = some d → I i acc S → g d (wipeD ρ vs) S fun ρ2 S2 => tt ρ2 S2 fun b S3 => if b = true then te ρ2 S3 fun y S4 => acc.length ≤ 100000 ∧ I (i + 1) (acc ++ [y]) S4 else I (i + 1) acc S3) ∧
  ∀ acc S, I xs.length acc S → post (.lr S.length) (S ++ [.lst acc])
theorem go_lc : dLc w g tt te vs ρ S post = w ρ S (lcK g tt te vs ρ post) := rfl
def forK (g : DG) (tb : DS) (E : DEnds) (ρ : DEnv) (xs : List D) (C : Store → Prop) (S1 : Store) : Prop := ∃ I : Nat → DEnv → Store → Prop, I 0 ρ S1 ∧ (∀ i ρ S, i ≤ xs.length → I i ρ S → C S) ∧
  (∀ (i : Nat) (d : D) (ρ : DEnv) (S : Store), xs[i]? = some d → I i ρ S → g d ρ S fun ρ2 S2 => tb { E with nx := I (i + 1), ct := I (i + 1), bk := E.nx } ρ2 S2) ∧ ∀ ρ S, I xs.length ρ S → E.nx ρ S
theorem go_for : dFor w g tb E ρ S = w ρ S (forK g tb E ρ) := rfl
variable {p : List D → (Store → Prop) → Store → Prop} {x y z : D} {j k : Int}
theorem go_seq : wSeq te ρ S p = te ρ S fun d S1 => ∃ xs, seqOf S1 d xs ∧ p xs (fun S2 => seqOf S2 d xs) S1 := rfl
def rng1K (p : List D → (Store → Prop) → Store → Prop) (ds : List D) (S1 : Store) : Prop := ∃ j, ds = [.int j] ∧ -1000000 ≤ j ∧ j ≤ 1000000 ∧ p (upTo 0 j.toNat) (fun _ => True) S1
theorem go_rng1 : wRng1 t ρ S p = t ρ S (rng1K p) := rfl
theorem go_rng1K : rng1K p [.int j] S ↔ (-1000000 ≤ j ∧ j ≤ 1000000) ∧ p (upTo 0 j.toNat) (fun _ => True) S := by
  constructor
  · rintro ⟨i, h, a, b, c⟩
    cases h
    exact ⟨⟨a, b⟩, c⟩
  · exact fun ⟨⟨a, b⟩, c⟩ => ⟨j, rfl, a, b, c⟩
def rng2K (p : List D → (Store → Prop) → Store → Prop) (ds : List D) (S1 : Store) : Prop := ∃ i j, ds = [.int i, .int j] ∧ -1000000 ≤ i ∧ i ≤ 1000000 ∧ -1000000 ≤ j ∧ j ≤ 1000000 ∧ p (upTo i (j - i).toNat) (fun _ => True) S1
theorem go_rng2 : wRng2 t ρ S p = t ρ S (rng2K p) := rfl
theorem go_rng2K : rng2K p [.int j, .int k] S ↔ (-1000000 ≤ j ∧ j ≤ 1000000 ∧ -1000000 ≤ k ∧ k ≤ 1000000) ∧ p (upTo j (k - j).toNat) (fun _ => True) S := by
  constructor
  · rintro ⟨i, l, h, a, b, c, d, e⟩
    cases h
    exact ⟨⟨a, b, c, d⟩, e⟩
  · exact fun ⟨⟨a, b, c, d⟩, e⟩ => ⟨j, k, rfl, a, b, c, d, e⟩
def ezK (p : List D → (Store → Prop) → Store → Prop) (ds : List D) (S1 : Store) : Prop := ∃ x y xs ys, ds = [x, y] ∧ seqOf S1 x xs ∧ seqOf S1 y ys ∧ p (ezD xs ys) (fun S2 => seqOf S2 x xs ∧ seqOf S2 y ys) S1
theorem go_ez : wEz t ρ S p = t ρ S (ezK p) := rfl
theorem go_ezK : ezK p [x, y] S ↔ ∃ xs, seqOf S x xs ∧ ∃ ys, seqOf S y ys ∧ p (ezD xs ys) (fun S2 => seqOf S2 x xs ∧ seqOf S2 y ys) S := by
  constructor
  · rintro ⟨a, b, xs, ys, h, q, r, c⟩
    cases h
    exact ⟨xs, q, ys, r, c⟩
  · exact fun ⟨xs, q, ys, r, c⟩ => ⟨x, y, xs, ys, rfl, q, r, c⟩
def zip3K (p : List D → (Store → Prop) → Store → Prop) (ds : List D) (S1 : Store) : Prop := ∃ x y u xs ys us, ds = [x, y, u] ∧ seqOf S1 x xs ∧ seqOf S1 y ys ∧ seqOf S1 u us ∧ p (zip3D xs ys us) (fun S2 => seqOf S2 x xs ∧ seqOf S2 y ys ∧ seqOf S2 u us) S1
theorem go_zip3 : wZip3 t ρ S p = t ρ S (zip3K p) := rfl
theorem go_zip3K : zip3K p [x, y, z] S ↔ ∃ xs, seqOf S x xs ∧ ∃ ys, seqOf S y ys ∧ ∃ zs, seqOf S z zs ∧ p (zip3D xs ys zs) (fun S2 => seqOf S2 x xs ∧ seqOf S2 y ys ∧ seqOf S2 z zs) S := by
  constructor
  · rintro ⟨a, b, c, xs, ys, zs, h, q, r, s, u⟩
    cases h
    exact ⟨xs, q, ys, r, zs, s, u⟩
  · exact fun ⟨xs, q, ys, r, zs, s, u⟩ => ⟨x, y, z, xs, ys, zs, rfl, q, r, s, u⟩
/-- a comprehension that leaves the store alone -/
theorem lc_pure {xs : List D} {C : Store → Prop} {S1 : Store} (c : Nat → Bool) (v : Nat → D) (hC : C S1) (hl : xs.length ≤ 100000)
    (step : ∀ (i : Nat) (d : D) (acc : List D) (J : List D → Store → Prop), xs[i]? = some d → acc.length ≤ 100000 → (c i = true → J (acc ++ [v i]) S1) → (c i = false → J acc S1) →
      g d (wipeD ρ vs) S1 fun ρ2 S2 => tt ρ2 S2 fun b S3 => if b = true then te ρ2 S3 fun y S4 => acc.length ≤ 100000 ∧ J (acc ++ [y]) S4 else J acc S3)
    (fin : post (.lr S1.length) (S1 ++ [.lst (flt c v xs.length)])) : lcK g tt te vs ρ post xs C S1 := by
  refine ⟨fun i acc S => S = S1 ∧ acc = flt c v i, ⟨rfl, rfl⟩, fun i acc S _ h => by rw [h.1]; exact hC, fun i d acc S hd h => ?_, fun acc S h => by rw [h.1, h.2]; exact fin⟩
  obtain ⟨rfl, rfl⟩ := h
  have hi := (List.getElem?_eq_some_iff.mp hd).1
  have hn : (flt c v i).length ≤ i := flt_len
  exact step i d _ (fun acc S' => S' = S ∧ acc = flt c v (i + 1)) hd (by omega) (fun h => ⟨rfl, flt_pos h⟩) fun h => ⟨rfl, flt_neg (by rw [h]; decide)⟩
/-- a comprehension that keeps an invariant -/
theorem lc_inv {xs : List D} {C : Store → Prop} {S1 : Store} (I : Nat → List D → Store → Prop) (h0 : I 0 [] S1) (hC : ∀ i acc S, i ≤ xs.length → I i acc S → C S)
    (step : ∀ (i : Nat) (d : D) (acc : List D) (S : Store), xs[i]? = some d → I i acc S → g d (wipeD ρ vs) S fun ρ2 S2 => tt ρ2 S2 fun b S3 => if b = true then te ρ2 S3 fun y S4 => acc.length ≤ 100000 ∧ I (i + 1) (acc ++ [y]) S4 else I (i + 1) acc S3)
    (fin : ∀ acc S, I xs.length acc S → post (.lr S.length) (S ++ [.lst acc])) : lcK g tt te vs ρ post xs C S1 := ⟨I, h0, hC, step, fin⟩
theorem for_inv {xs : List D} {C : Store → Prop} {S1 : Store} (I : Nat → DEnv → Store → Prop) (h0 : I 0 ρ S1) (hC : ∀ i ρ S, i ≤ xs.length → I i ρ S → C S)
    (step : ∀ (i : Nat) (d : D) (ρ : DEnv) (S : Store), xs[i]? = some d → I i ρ S → g d ρ S fun ρ2 S2 => tb { E with nx := I (i + 1), ct := I (i + 1), bk := E.nx } ρ2 S2)
    (fin : ∀ ρ S, I xs.length ρ S → E.nx ρ S) : forK g tb E ρ xs C S1 := ⟨I, h0, hC, step, fin⟩
theorem int_at {xs : List Int} {i : Nat} {d : D} (h : (xs.map D.int)[i]? = some d) : ∃ a, xs[i]? = some a ∧ xs.getD i 0 = a ∧ d = .int a := by
  rw [List.getElem?_map] at h
  cases q : xs[i]? with
  | none =>
    rw [q] at h
    cases h
  | some a =>
    rw [q] at h
    cases h
    exact ⟨a, rfl, by rw [List.getD_eq_getElem?_getD, q]; rfl, rfl⟩
theorem ren_tI (f : Nat → Nat) (xs : List Int) : ren f (tI xs) = tI xs := ren_below f _ (below_tI 0 xs)
theorem ren_tE (f : Nat → Nat) (xs : List (Int × Int)) : ren f (tE xs) = tE xs := ren_below f _ (below_tE 0 xs)
theorem ren_int (f : Nat → Nat) (i : Int) : ren f (.int i) = .int i := ren_below f _ (by simp [below])
theorem ren_bl (f : Nat → Nat) (i : Bool) : ren f (.bl i) = .bl i := ren_below f _ (by simp [below])
theorem ren_ints (f : Nat → Nat) (xs : List Int) : rens f (xs.map D.int) = xs.map D.int := rens_belows f _ (belows_ints 0 xs)
end
theorem end_new0 {S : Store} {post : DK} {e : Ent} (h1 : belowE 0 e = true) (h : post (.lr 0) [e]) : fnEnd [] post (.lr S.length) (S ++ [e]) :=
  end_new e (Nat.zero_le _) (by rw [List.getElem?_append_right (Nat.le_refl _), Nat.sub_self]; rfl) h1 rfl h
theorem lay_ints : ∀ xs : List Int, PyData.canLayAll0 (xs.map PyData.int) = true ∧ PyData.depthAll (xs.map PyData.int) = 0
  | [] => ⟨rfl, rfl⟩
  | x :: xs => by
    obtain ⟨a, b⟩ := lay_ints xs
    refine ⟨?_, ?_⟩
    · rw [List.map_cons, PyData.canLayAll0, a]
      rfl
    · rw [List.map_cons, PyData.depthAll, b]
      rfl
theorem shaped_ints (xs : List Int) : SeqAt.shaped (.list (xs.map PyData.int)) = true := by
  obtain ⟨a, b⟩ := lay_ints xs
  unfold SeqAt.shaped
  rw [PyData.canLay0, PyData.depth, a, b]
  rfl
theorem plains_ints : ∀ xs : List Int, plains (xs.map D.int) = true
  | [] => rfl
  | x :: xs => by
    rw [List.map_cons, plains, plains_ints xs]
    rfl
/-- a list of ints beside a list of ints -/
theorem oEq_rl {neg : Bool} {xs ys : List Int} {S : Store} {n : Nat} {post : DK} (h : S[n]? = some (.lst (ys.map D.int))) (p : post (.bl (neg ^^ decide (xs = ys))) S) : oEq neg (.rl (xs.map D.int)) (.lr n) S post := by
  refine ⟨.list (toPs (xs.map D.int)), .list (toPs (ys.map D.int)), .inl ⟨by rw [plain]; exact plains_ints xs, by rw [toP]⟩, .inr ⟨n, _, rfl, h, plains_ints ys, rfl⟩, ?_, ?_, ?_⟩
  · rw [toPs_ints]
    exact shaped_ints xs
  · rw [toPs_ints]
    exact shaped_ints ys
  · rw [toPs_ints, toPs_ints, PyData.eqv, eqvAll_ints]
    exact p
end DL
/-! DW: membership, dicts, all, is True. -/
namespace DL
open PySem PySem.Spec PyProof.Rows L2
variable [HasT]

/-! ### dicts -/
def keyD : D → Option Key
  | .int i => some (.inl i)
  | .str x => some (.inr x)
  | _ => none
def valD (kvs : List (Key × D)) (k : Key) : Option D := (kvs.find? fun kv => decide (kv.1 = k)).map (·.2)
def putD (kvs : List (Key × D)) (k : Key) (d : D) : List (Key × D) := if (kvs.any fun kv => decide (kv.1 = k)) = true then kvs.map (fun kv => if kv.1 = k then (kv.1, d) else kv) else kvs ++ [(k, d)]
theorem keyD_rel {K : PySem.W.Frag} {H : Hp} {A : List Addr} {d : D} {v : V} {k : Key} (r : RelD K H A d v) (h : keyD d = some k) : v = kV k := by
  cases d <;> simp [keyD] at h
  · subst h
    exact r
  · subst h
    exact r
section
variable {K : PySem.W.Frag} {H : Hp} {A : List Addr}
/-- entries that stand for each other -/
inductive RelP (K : PySem.W.Frag) (H : Hp) (A : List Addr) : List (Key × D) → List (Key × V) → Prop
  | nil : RelP K H A [] []
  | cons {k : Key} {d : D} {v : V} {ds : List (Key × D)} {vs : List (Key × V)} (h : RelD K H A d v) (t : RelP K H A ds vs) : RelP K H A ((k, d) :: ds) ((k, v) :: vs)
theorem relP_of : ∀ {kvs : List (Key × D)} {ws : List (Key × V)}, ws.map (·.1) = kvs.map (·.1) → RelDs K H A (kvs.map (·.2)) (ws.map (·.2)) → RelP K H A kvs ws
  | [], [], _, _ => .nil
  | [], _ :: _, h, _ => by simp at h
  | _ :: _, [], h, _ => by simp at h
  | (k, d) :: ds, (k', v) :: vs, h, ⟨v', r', e, h1, h2⟩ => by
    rw [List.map_cons, List.map_cons] at h
    injection h with e1 e2
    have e1' : k' = k := e1
    subst e1'
    rw [List.map_cons] at e
    injection e with e3 e4
    have e3' : v = v' := e3
    subst e3'
    rw [← e4] at h2
    exact .cons h1 (relP_of e2 h2)
theorem RelP.keys : ∀ {kvs : List (Key × D)} {ws : List (Key × V)}, RelP K H A kvs ws → ws.map (·.1) = kvs.map (·.1)
  | _, _, .nil => rfl
  | _, _, .cons h t => by rw [List.map_cons, List.map_cons, RelP.keys t]
theorem RelP.vals : ∀ {kvs : List (Key × D)} {ws : List (Key × V)}, RelP K H A kvs ws → RelDs K H A (kvs.map (·.2)) (ws.map (·.2))
  | _, _, .nil => rfl
  | _, _, .cons h t => ⟨_, _, rfl, h, RelP.vals t⟩
theorem RelP.len {kvs : List (Key × D)} {ws : List (Key × V)} (h : RelP K H A kvs ws) : ws.length = kvs.length := by
  have := congrArg List.length h.keys
  simpa using this
theorem RelP.any {kvs : List (Key × D)} {ws : List (Key × V)} (h : RelP K H A kvs ws) (k : Key) : (ws.any fun kv => decide (kv.1 = k)) = kvs.any fun kv => decide (kv.1 = k) := by
  induction h with
  | nil => rfl
  | cons h t ih => rw [List.any_cons, List.any_cons, ih]
theorem RelP.val_some {kvs : List (Key × D)} {ws : List (Key × V)} (h : RelP K H A kvs ws) {k : Key} {d : D} (e : valD kvs k = some d) : ∃ v, valV ws k = some v ∧ RelD K H A d v := by
  induction h with
  | nil => cases e
  | @cons k' d' v' ds vs hd t ih =>
    unfold valD at e
    unfold valV
    by_cases c : k' = k
    · rw [List.find?_cons_of_pos (by simpa using c)] at e
      cases e
      exact ⟨v', by rw [List.find?_cons_of_pos (by simpa using c)]; rfl, hd⟩
    · rw [List.find?_cons_of_neg (by simpa using c)] at e
      rw [List.find?_cons_of_neg (by simpa using c)]
      exact ih e
theorem RelP.val_isSome {kvs : List (Key × D)} {ws : List (Key × V)} (h : RelP K H A kvs ws) (k : Key) : (valV ws k).isSome = (valD kvs k).isSome := by
  induction h with
  | nil => rfl
  | @cons k' d' v' ds vs hd t ih =>
    unfold valD valV
    by_cases c : k' = k
    · rw [List.find?_cons_of_pos (by simpa using c), List.find?_cons_of_pos (by simpa using c)]
      rfl
    · rw [List.find?_cons_of_neg (by simpa using c), List.find?_cons_of_neg (by simpa using c)]
      exact ih
theorem RelP.append {a c : List (Key × D)} {b d : List (Key × V)} (h : RelP K H A a b) (g : RelP K H A c d) : RelP K H A (a ++ c) (b ++ d) := by
  induction h with
  | nil => exact g
  | cons h t ih => exact .cons h ih
theorem RelP.put {kvs : List (Key × D)} {ws : List (Key × V)} (h : RelP K H A kvs ws) (k : Key) {d : D} {v : V} (r : RelD K H A d v) : RelP K H A (putD kvs k d) (putK ws k v) := by
  have key : RelP K H A (kvs.map fun kv => if kv.1 = k then (kv.1, d) else kv) (ws.map fun kv => if kv.1 = k then (kv.1, v) else kv) := by
    induction h with
    | nil => exact .nil
    | @cons k' d' v' ds vs hd t ih =>
      rw [List.map_cons, List.map_cons]
      by_cases c : k' = k
      · rw [if_pos c, if_pos c]
        exact .cons r ih
      · rw [if_neg c, if_neg c]
        exact .cons hd ih
  unfold putD putK
  rw [h.any k]
  by_cases c : (kvs.any fun kv => decide (kv.1 = k)) = true
  · rw [if_pos c, if_pos c]
    exact key
  · rw [if_neg c, if_neg c]
    exact h.append (.cons r .nil)
theorem RelE.pairs {kvs : List (Key × D)} {a : Addr} (r : RelE K H A (.dct kvs) a) : ∃ ws, H a = some (.dK ws) ∧ RelP K H A kvs ws := by
  obtain ⟨ws, h1, h2, h3⟩ := r
  exact ⟨ws, h1, relP_of h2 h3⟩
theorem RelP.ext {H' : Hp} {A' : List Addr} {kvs : List (Key × D)} {ws : List (Key × V)} (h : RelP K H A kvs ws) (e : Ext H A H' A') : RelP K H' A' kvs ws := by
  induction h with
  | nil => exact .nil
  | cons h t ih => exact .cons (h.ext e) ih
theorem RelP.ent {kvs : List (Key × D)} {ws : List (Key × V)} {a : Addr} (h : RelP K H A kvs ws) (e : H a = some (.dK ws)) : RelE K H A (.dct kvs) a := ⟨ws, e, h.keys, h.vals⟩
end
/-! ### x in y -/
def oIn (neg : Bool) : D2 := fun x y S post => (∃ ds d, seqOf S y ds ∧ plains ds = true ∧ dataOf S x d ∧ SeqAt.shaped d = true ∧ SeqAt.shaped (.list (toPs ds)) = true ∧ post (.bl (neg ^^ (toPs ds).any fun z => PyData.eqv z d)) S) ∨
  ∃ n kvs k, y = .lr n ∧ S[n]? = some (.dct kvs) ∧ keyD x = some k ∧ post (.bl (neg ^^ (valD kvs k).isSome)) S
def rIn2 (K : PySem.W.Frag) (neg : Bool) : R2 := fun x y H Q => (∃ d ds, Dp K H x d ∧ (Dp K H y (.list ds) ∨ Dp K H y (.tuple ds)) ∧ SeqAt.shaped d = true ∧ SeqAt.shaped (.list ds) = true ∧ Q (.bl (neg ^^ ds.any fun z => PyData.eqv z d)) H) ∨
  ∃ a o, y = .ref a ∧ DGet H a x o ∧ Q (.bl (neg ^^ o.isSome)) H
theorem op_in2 {X : Cx} (hu : X.A.units + 65 < cLine) : OpR X (compareOp .In) (rIn2 X.K false) := by
  intro pins s σ H x y v u Q I rx ry h
  rcases h with ⟨d, ds, hd, he, sd, se, q⟩ | ⟨a, o, rfl, g, q⟩
  · obtain ⟨as, r1⟩ := Dp.reads I d x v hd rx
    rw [Bool.false_xor] at q
    rcases he with he | he
    · obtain ⟨bs, r2⟩ := Dp.reads I (.list ds) y u he ry
      exact SeqAt.in_list_reads r2 r1 (SeqAt.canLay_of_shaped se) (SeqAt.canLay_of_shaped sd) (room_in_shaped sd hu) ⟨.bl _, H, I, rfl, q⟩
    · obtain ⟨bs, r2⟩ := Dp.reads I (.tuple ds) y u he ry
      exact SeqAt.in_tuple_reads r2 r1 (SeqAt.canLay_of_shaped se) (SeqAt.canLay_of_shaped sd) (room_in_shaped sd hu) ⟨.bl _, H, I, rfl, q⟩
  · obtain rfl : u = Value.ref a := ry
    rw [Bool.false_xor] at q
    exact d_in (by omega) I g rx fun s3 I3 => ⟨.bl o.isSome, H, I3, rfl, q⟩
theorem op_notIn2 {X : Cx} (hu : X.A.units + 65 < cLine) : OpR X (compareOp .NotIn) (rIn2 X.K true) := by
  intro pins s σ H x y v u Q I rx ry h
  rcases h with ⟨d, ds, hd, he, sd, se, q⟩ | ⟨a, o, rfl, g, q⟩
  · obtain ⟨as, r1⟩ := Dp.reads I d x v hd rx
    rw [Bool.true_xor] at q
    rcases he with he | he
    · obtain ⟨bs, r2⟩ := Dp.reads I (.list ds) y u he ry
      exact SeqAt.notIn_list_reads r2 r1 (SeqAt.canLay_of_shaped se) (SeqAt.canLay_of_shaped sd) (room_in_shaped sd hu) ⟨.bl _, H, I, rfl, q⟩
    · obtain ⟨bs, r2⟩ := Dp.reads I (.tuple ds) y u he ry
      exact SeqAt.notIn_tuple_reads r2 r1 (SeqAt.canLay_of_shaped se) (SeqAt.canLay_of_shaped sd) (room_in_shaped sd hu) ⟨.bl _, H, I, rfl, q⟩
  · obtain rfl : u = Value.ref a := ry
    rw [Bool.true_xor] at q
    exact d_notIn (by omega) I g rx fun s3 I3 => ⟨.bl (!o.isSome), H, I3, rfl, q⟩
section
variable {K : PySem.W.Frag}
theorem RelS.dct {H : Hp} {A : List Addr} {S : Store} (s : RelS K H A S) {n : Nat} {kvs : List (Key × D)} {v : V} (hn : S[n]? = some (.dct kvs)) (r : RelD K H A (.lr n) v) : ∃ a ws, v = .ref a ∧ A[n]? = some a ∧ H a = some (.dK ws) ∧ RelP K H A kvs ws := by
  obtain ⟨a, e, ha⟩ := r
  obtain ⟨ws, h1, h2⟩ := (s.get hn ha).pairs
  exact ⟨a, ws, e, ha, h1, h2⟩
theorem rul_in {neg : Bool} : Rul2 K (oIn neg) (rIn2 K neg) := by
  intro H A S d1 d2 v1 v2 post Q s r1 r2 h k
  rcases h with ⟨ds, d, hq, hp, hx, h1, h2, p⟩ | ⟨n, kvs, ky, rfl, hn, hk, p⟩
  · refine .inl ⟨d, toPs ds, hx.rel s r1, ?_, h1, h2, k.now (d := .bl _) s rfl p⟩
    rcases hq with rfl | rfl | ⟨n, rfl, hn⟩
    · refine .inr ?_
      have q := r2.dp (by rw [plain]; exact hp)
      rwa [toP] at q
    · refine .inl ?_
      have q := r2.dp (by rw [plain]; exact hp)
      rwa [toP] at q
    · exact .inl ((show dataOf S (.lr n) (.list (toPs ds)) from .inr ⟨n, ds, rfl, hn, hp, rfl⟩).rel s r2)
  · obtain ⟨a, ws, rfl, _, hw, rp⟩ := s.dct hn r2
    have e := keyD_rel r1 hk
    subst e
    refine .inr ⟨a, valV ws ky, rfl, .inl ⟨ws, ky, .inl hw, rfl, rfl⟩, ?_⟩
    rw [rp.val_isSome]
    exact k.now (d := .bl _) s rfl p
end
/-! ### d[k], d[k] = v -/
def rIx2 (K : PySem.W.Frag) : R2 := fun x y H Q => rIx K x y H Q ∨ ∃ a v, x = .ref a ∧ (∃ kvs k, Rd H a (.dK kvs) ∧ y = kV k ∧ some v = valV kvs k) ∧ Q v H
def oIx2 : D2 := fun x y S post => oIx x y S post ∨ ∃ n kvs k d, x = .lr n ∧ S[n]? = some (.dct kvs) ∧ keyD y = some k ∧ valD kvs k = some d ∧ post d S
def setAny : DSet := fun o i d S post => setSeq o i d S post ∨ ∃ n kvs k, o = .lr n ∧ S[n]? = some (.dct kvs) ∧ keyD i = some k ∧ kvs.length ≤ 100000 ∧ post (S.set n (.dct (putD kvs k d)))
def rSet2 : TSet := fun o i v H Q => rSetL o i v H Q ∨ rSetD o i v H Q
theorem set_any {X : Cx} (hu : X.A.units + 1 < cLine) : PSet X rSet2 := by
  intro pins s σ H o i v ov iv u Q I ro ri rv h
  rcases h with h | h
  · exact set_list pins s σ H o i v ov iv u Q I ro ri rv h
  · exact set_dict hu pins s σ H o i v ov iv u Q I ro ri rv h
section
variable {K : PySem.W.Frag}
theorem rul_setAny : RulSet K setAny rSet2 := by
  intro H A S o i d ov iv v post Q s ro ri r h k
  rcases h with h | ⟨n, kvs, ky, rfl, hn, hk, hl, p⟩
  · exact .inl (rul_set H A S o i d ov iv v post Q s ro ri r h k)
  · obtain ⟨a, ws, rfl, ha, hw, rp⟩ := s.dct hn ro
    have e := keyD_rel ri hk
    subst e
    have hp : a ∈ A := List.mem_iff_getElem?.mpr ⟨n, ha⟩
    have m1 : LdO (.dK ws) := .inr (.inl ⟨_, rfl⟩)
    have m2 : LdO (.dK (putK ws ky v)) := .inr (.inl ⟨_, rfl⟩)
    have e : Ext H A (upd H a (.dK (putK ws ky v))) A := ext_set (S := S) hp hw m1 m2
    exact .inr ⟨a, _, rfl, DPut.k hw (by rw [rp.len]; exact lt_line hl), k _ A _ e (s.set (en := .dct (putD kvs ky d)) ha hw m1 m2 (((rp.put ky r).ext e).ent upd_same)) p⟩
end
/-! ### all, is True -/
def cAll : DC := fun ds S post => ∃ (x : D) (bs : List Bool), ds = [x] ∧ seqOf S x (bs.map D.bl) ∧ (∀ ys, x ≠ .tup ys) ∧ post (.bl (bs.all id)) S
theorem rels_bl {K : PySem.W.Frag} {H : Hp} {A : List Addr} : ∀ {bs : List Bool} {vs : List V}, RelDs K H A (bs.map D.bl) vs → vs = bs.map V.bl
  | [], _, h => h
  | b :: bs, _, ⟨v, r, rfl, h1, h2⟩ => by
    rw [rels_bl h2, show v = .bl b from h1]
    rfl
theorem rul_all {K : PySem.W.Frag} : RulC K cAll (rAll K) := by
  intro H A S ds vs post Q s r hh k
  obtain ⟨x, bs, rfl, hq, hx, h⟩ := hh
  obtain ⟨v, rfl, rv⟩ := rels1 r
  obtain ⟨a, us, rfl, hs, w⟩ := hq.rel s rv
  have e := rels_bl w
  subst e
  refine ⟨a, bs, rfl, ?_, k.now (d := .bl _) s rfl h⟩
  rcases hq with rfl | rfl | ⟨n, rfl, hn⟩
  · exact absurd rfl (hx _)
  · obtain ⟨a', vs', e, h2, h3⟩ := rv
    cases e
    rw [rels_bl h3] at h2
    exact h2.sq
  · obtain ⟨a', e, ha⟩ := rv
    cases e
    obtain ⟨vs', h1, h2⟩ := s.get hn ha
    rw [rels_bl h2] at h1
    exact .inl (.inl h1)
/-- is None, is not None, is True, is not True, .. -/
def oIs (neg : Bool) : D2 := fun x y S post => oIsN neg x y S post ∨ ∃ a b, x = .bl a ∧ y = .bl b ∧ post (.bl (neg ^^ decide (a = b))) S
def rIs2 : R2 := fun x y H Q => (y = .non ∧ Q (.bl (decide (x = .non))) H) ∨ rIsB x y H Q
def rNotIs2 : R2 := fun x y H Q => (y = .non ∧ Q (.bl (!decide (x = .non))) H) ∨ rNotB x y H Q
theorem op_is2 {X : Cx} : OpR X (compareOp .Is) rIs2 := OpR.or op_isN op_isBl
theorem op_notIs2 {X : Cx} : OpR X (compareOp .IsNot) rNotIs2 := OpR.or op_notN op_notBl
theorem rul_is {K : PySem.W.Frag} : Rul2 K (oIs false) rIs2 := by
  intro H A S d1 d2 v1 v2 post Q s r1 r2 h k
  rcases h with h | ⟨a, b, rfl, rfl, p⟩
  · exact .inl (rul_isN H A S d1 d2 v1 v2 post Q s r1 r2 h k)
  · cases (show v1 = .bl a from r1)
    cases (show v2 = .bl b from r2)
    rw [Bool.false_xor] at p
    exact .inr ⟨a, b, rfl, rfl, k.now (d := .bl _) s rfl p⟩
theorem rul_notIs {K : PySem.W.Frag} : Rul2 K (oIs true) rNotIs2 := by
  intro H A S d1 d2 v1 v2 post Q s r1 r2 h k
  rcases h with h | ⟨a, b, rfl, rfl, p⟩
  · exact .inl (rul_notN H A S d1 d2 v1 v2 post Q s r1 r2 h k)
  · cases (show v1 = .bl a from r1)
    cases (show v2 = .bl b from r2)
    rw [Bool.true_xor] at p
    exact .inr ⟨a, b, rfl, rfl, k.now (d := .bl _) s rfl p⟩
/-! ### tuples and lists put together -/
def oAdd2 : D2 := fun x y S post => oAdd x y S post ∨ ∃ xs ys, x = .tup xs ∧ y = .tup ys ∧ xs.length + ys.length ≤ 100000 ∧ post (.tup (xs ++ ys)) S
def rCatP (K : PySem.W.Frag) : R2 := fun x y H Q => ∃ a b xs ys, x = .ref a ∧ y = .ref b ∧ SqT K H a xs ∧ SqT K H b ys ∧ xs.length + ys.length ≤ sizeLine ∧
  (xs = [] → Q (.ref b) H) ∧ (xs ≠ [] → ys = [] → Q (.ref a) H) ∧ (xs ≠ [] → ys ≠ [] → ∀ (p : Addr) (o : Obj), H p = none → o.dict = none → Q (.ref p) (upd H p (.frz o (.tup (xs ++ ys)))))
theorem op_catP {X : Cx} : OpR X (binaryOp .Add) (rCatP X.K) := by
  intro pins s σ H x y v u Q I rx ry h
  obtain ⟨a, b, xs, ys, rfl, rfl, ha, hb, hz, q0, q1, q2⟩ := h
  obtain rfl : v = Value.ref a := rx
  obtain rfl : u = Value.ref b := ry
  obtain ⟨its, r1, p1, _⟩ := I.tuple ha
  obtain ⟨its2, r2, p2, _⟩ := I.tuple hb
  by_cases hx : xs = []
  · subst hx
    cases r1
    exact cat_tup0 p1 p2 ⟨.ref b, H, I, rfl, q0 rfl⟩
  · refine HT.cat_tup p1 p2 (fun z => hx (r1.nil_iff.mp z)) (fun z => ⟨.ref a, H, I, rfl, q1 hx (r2.nil_iff.mp z)⟩) (fun z => ?_) (by rw [← r1.length, ← r2.length]; exact hz)
    exact ⟨.ref s.heap.objs.size, _, laidP (tk := s.toks) I (fun b ob q => Heap.get?_push_of_some _ q) (Nat.le_refl _) (by rw [Heap.get?_push_size _ rfl]) (r1.append r2) (by rw [List.length_append]; exact hz), rfl, q2 hx (fun w => z (r2.nil_iff.mpr w)) _ (obT (its ++ its2)) (I.hok.fresh (Nat.le_refl _)) rfl⟩
def rAdd4 (K : PySem.W.Frag) : R2 := fun x y H Q => rAdd3 x y H Q ∨ rCatP K x y H Q
theorem op_add4 {X : Cx} : OpR X (binaryOp .Add) (rAdd4 X.K) := OpR.or op_add3 op_catP
theorem rul_add4 {K : PySem.W.Frag} : Rul2 K oAdd2 (rAdd4 K) := by
  intro H A S d1 d2 v1 v2 post Q s r1 r2 h k
  rcases h with h | ⟨xs, ys, rfl, rfl, hl, p⟩
  · exact .inl (rul_add H A S d1 d2 v1 v2 post Q s r1 r2 h k)
  · obtain ⟨a, us, e1, h1, w1⟩ := r1
    obtain ⟨b, ws, e2, h2, w2⟩ := r2
    have nil : ∀ {ds : List D} {vs : List V}, RelDs K H A ds vs → vs = [] → ds = [] := fun w e => by
      have := w.len
      rw [e] at this
      exact List.length_eq_zero_iff.mp this.symm
    refine .inr ⟨a, b, us, ws, e1, e2, h1.sq, h2.sq, by rw [w1.len, w2.len]; exact le_line hl, fun e => ?_, fun _ e => ?_, fun _ _ q o hq ho => fin_tup s k hq ho (w1.append w2) p⟩
    · have e3 := nil w1 e
      subst e3
      exact k.now (d := .tup ys) s ⟨b, ws, rfl, h2, w2⟩ p
    · have e3 := nil w2 e
      subst e3
      rw [List.append_nil] at p
      exact k.now (d := .tup xs) s ⟨a, us, rfl, h1, w1⟩ p
/-! ### a[k], of a list, a tuple, a dict -/
theorem ix_any {X : Cx} (hu : X.A.units + 1 < cLine) : IxR X (rIx2 X.K) := by
  refine IxR.or ix_seq ?_
  intro value slice pins s σ H x y v u Q I rx ry ⟨a, z, ex, g, q⟩ hs
  subst ex
  obtain rfl : v = Value.ref a := rx
  obtain ⟨kvs, k, e, ey, l⟩ := g
  subst ey
  obtain ⟨_, _, vs, rel, dd⟩ := dk_rd I.hok e
  obtain ⟨w', hw, rw'⟩ := RelO.some_of (v := z) (o := valueAt vs k) (by rw [l]; exact rel.val k)
  exact subscriptTail_builtinR (x := w') (dict_typeIs I (.inl ⟨kvs, k, e, rfl, l⟩)) PySem.F.slot_dict_getitem.lookup (wpAny_getItem_of (kV_is ry) dd.mapOf hw ⟨rfl, z, H, I.tok _, rw', q⟩) hs
theorem rul_ix2 {K : PySem.W.Frag} : Rul2 K oIx2 (rIx2 K) := by
  intro H A S d1 d2 v1 v2 post Q s r1 r2 h k
  rcases h with h | ⟨n, kvs, ky, d, rfl, hn, hk, hd, p⟩
  · exact .inl (rul_ix H A S d1 d2 v1 v2 post Q s r1 r2 h k)
  · obtain ⟨a, ws, rfl, _, hw, rp⟩ := s.dct hn r1
    have e := keyD_rel r2 hk
    subst e
    obtain ⟨v, hv, rv⟩ := rp.val_some hd
    exact .inr ⟨a, v, rfl, ⟨ws, ky, .inl hw, rfl, hv.symm⟩, k.now s rv p⟩
end DL
/-! DX: dict comprehensions, sorted, dict of pairs, tuple(enumerate()). -/
namespace DL
open PySem PySem.Spec PyProof.Rows L2
variable [HasT]

/-! ### {k: v for ..} -/
def dDc (w : DIt) (g : DG) (tt : DT) (tk tv : DE) (vs : List Nat) : DE := fun ρ S post => w ρ S fun xs C S1 => ∃ I : Nat → List (Key × D) → Store → Prop, I 0 [] S1 ∧ (∀ i acc S, i ≤ xs.length → I i acc S → C S) ∧
  (∀ (i : Nat) (d : D) (acc : List (Key × D)) (S : Store), xs[i]? = some d → I i acc S → g d (wipeD ρ vs) S fun ρ2 S2 => tt ρ2 S2 fun b S3 => if b = true then tk ρ2 S3 fun y S4 => tv ρ2 S4 fun z S5 => ∃ k, keyD y = some k ∧ acc.length ≤ 100000 ∧ I (i + 1) (putD acc k z) S5 else I (i + 1) acc S3) ∧
  ∀ acc S, I xs.length acc S → post (.lr S.length) (S ++ [.dct acc])
theorem RelP.keep0 {K : PySem.W.Frag} {H H' : Hp} {A : List Addr} (k : ∀ a o, H a = some o → ¬ MutO o → H' a = some o) {kvs : List (Key × D)} {ws : List (Key × V)} (h : RelP K H A kvs ws) : RelP K H' A kvs ws := by
  induction h with
  | nil => exact .nil
  | cons h t ih =>
    have g := h.keep (B := []) k
    rw [List.append_nil] at g
    exact .cons g ih
theorem RelP.keepB {K : PySem.W.Frag} {H : Hp} {A B : List Addr} {kvs : List (Key × D)} {ws : List (Key × V)} (h : RelP K H A kvs ws) : RelP K H (A ++ B) kvs ws := by
  induction h with
  | nil => exact .nil
  | cons h t ih => exact .cons (h.keep fun _ _ q _ => q) ih
theorem lift_dc {K : PySem.W.Frag} {w : DIt} {g : DG} {tt : DT} {tk tv : DE} {vs ws : List Nat} (hws : ∀ i ∈ ws, i ∈ vs) {σ : L2.St} {H : Hp} {Q : VK} : liftE K (dDc w g tt tk tv vs) σ H Q → tDc (liftI K w) (liftW K ws g) (liftT K tt) (liftE K tk) (liftE K tv) vs σ H Q := by
  rintro ⟨A, ρ, S, post, n, s, h, k⟩
  refine ⟨A, ρ, S, _, n, s, h, fun J H' A' xs C S' e s' ok ⟨I, i0, iC, step, done⟩ => ?_⟩
  intro Dl hDl
  refine ⟨fun i m H2 => m = xs.length - i ∧ i ≤ xs.length ∧ ∃ A2 S2 acc us, Ext H' A' H2 A2 ∧ RelS K H2 A2 S2 ∧ Dl ∉ A2 ∧ H2 Dl = some (.dK us) ∧ RelP K H2 A2 acc us ∧ I i acc S2, ⟨xs.length, by simp, Nat.zero_le _, A', S', [], [], Ext.same (same_upd hDl), s'.same (same_upd hDl), s'.notin hDl, upd_same, .nil, i0⟩, ?_⟩
  rintro i m H2 ⟨rfl, hi, A2, S2, acc, us, e2, s2, hn2, hd2, r2, p2⟩
  obtain ⟨st, go⟩ := ok H2 A2 S2 e2 s2 (iC i acc S2 hi p2)
  by_cases hlt : i < xs.length
  · have hx : xs[i]? = some xs[i] := List.getElem?_eq_getElem hlt
    obtain ⟨g1, g2⟩ := go i _ hx
    refine .inr ⟨g1, fun H3 => ∃ A3 S3 acc3 us3, Ext H' A' H3 A3 ∧ RelS K H3 A3 S3 ∧ Dl ∉ A3 ∧ H3 Dl = some (.dK us3) ∧ RelP K H3 A3 acc3 us3 ∧ I (i + 1) acc3 S3, fun H3 ⟨A3, S3, acc3, us3, q⟩ => ⟨xs.length - (i + 1), by omega, rfl, hlt, A3, S3, acc3, us3, q⟩, fun x H3 hy => ?_⟩
    obtain ⟨same, rx⟩ := g2 x H3 hy
    have e3 : Ext H2 A2 H3 A2 := Ext.same same
    have n3 : RelN K H3 A2 (wipeD ρ vs) (L2.wipe σ vs) := ((n.ext e).ext e2).ext e3 |>.wipe vs
    refine ⟨A2, wipeD ρ vs, S2, xs[i], _, n3, s2.same same, rx, step i _ acc S2 hx p2, fun σ4 H4 A4 ρ4 S4 e4 n4 s4 hw p4 => ?_⟩
    have hww : L2.wipe σ4 vs = L2.wipe σ vs := by
      rw [hw vs hws]
      have idem : ∀ (us : List Nat) (τ : L2.St), (∀ i ∈ us, i ∈ vs) → L2.wipe (L2.wipe τ us) vs = L2.wipe τ vs := by
        intro us
        induction us with
        | nil => intro τ _; rfl
        | cons u us ih =>
          intro τ hu
          show L2.wipe ((L2.wipe τ us).set u none) vs = _
          rw [wipe_set _ u none vs (hu u List.mem_cons_self)]
          exact ih τ fun i hi => hu i (List.mem_cons_of_mem _ hi)
      exact idem vs σ fun _ h => h
    refine ⟨hww, A4, ρ4, S4, _, n4, s4, p4, fun b H5 A5 S5 e5 s5 p5 => ?_⟩
    have stay : ∀ {H6 : Hp} {A6 : List Addr}, Ext H2 A2 H6 A6 → H6 Dl = some (.dK us) ∧ Dl ∉ A6 := fun {H6 A6} e6 => by
      refine ⟨?_, fun hm => ?_⟩
      · rcases e6.keep _ _ hd2 with q | ⟨q, _⟩ | ⟨_, q⟩
        · exact q
        · exact absurd q hn2
        · cases q
      · obtain ⟨B, rfl, f⟩ := e6.pre
        rcases List.mem_append.mp hm with hm | hm
        · exact hn2 hm
        · obtain ⟨_, q⟩ := f _ hm _ hd2
          cases q
    cases b with
    | true =>
      refine ⟨A5, ρ4, S5, _, n4.ext e5, s5, p5, fun y H6 A6 d6 S6 e6 s6 r6 p6 => ?_⟩
      refine ⟨A6, ρ4, S6, _, (n4.ext e5).ext e6, s6, p6, fun z H7 A7 d7 S7 e7 s7 r7 ⟨ky, hk, hl, p7⟩ => ?_⟩
      have e27 : Ext H2 A2 H7 A7 := (((e3.trans e4).trans e5).trans e6).trans e7
      obtain ⟨q1, q2⟩ := stay e27
      have mu : LdO (.dK us) := .inr (.inl ⟨_, rfl⟩)
      have kp := keep_upd (o' := .dK (putK us ky z)) q1 (.inl mu)
      have ex : Ext H' A' H7 A7 := e2.trans e27
      refine ⟨us, ky, keyD_rel r6 hk, q1, ?_, A7, S7, putD acc ky d7, putK us ky z, ex.out hDl, s7.out q2 q1 mu, q2, upd_same, ?_, p7⟩
      · rw [r2.len]
        exact lt_line hl
      · exact ((r2.ext e27).put ky r7).keep0 kp
    | false =>
      have e25 : Ext H2 A2 H5 A5 := (e3.trans e4).trans e5
      obtain ⟨q1, q2⟩ := stay e25
      exact ⟨A5, S5, acc, us, e2.trans e25, s5, q2, q1, r2.ext e25, p5⟩
  · have ei : i = xs.length := by omega
    subst ei
    refine .inl ⟨st, ?_⟩
    have ex := e.trans e2
    have hdn : FreeO H Dl := e.free (.of hDl)
    obtain ⟨B, eB, fB⟩ := ex.pre
    have ex2 : Ext H A H2 (A2 ++ [Dl]) := ⟨⟨B ++ [Dl], by rw [eB, List.append_assoc], fun b hb => by
      rcases List.mem_append.mp hb with hb | hb
      · exact fB b hb
      · rw [List.mem_singleton.mp hb]
        exact hdn⟩, ex.keep⟩
    refine k (.ref Dl) H2 (A2 ++ [Dl]) (.lr S2.length) (S2 ++ [.dct acc]) ex2 (s2.push (en := .dct acc) hn2 (r2.keepB.ent hd2)) ⟨Dl, rfl, ?_⟩ (done acc S2 p2)
    rw [s2.len, List.getElem?_append_right (Nat.le_refl _), Nat.sub_self]
    rfl
theorem de_dc {X : Cx} {kx vx tg iter : Expr} {ifs : List Expr} {scope : Scope} {own : List (Str × Nat)} {pos : Pos} {w : DIt} {g : DG} {tt : DT} {tk tv : DE} {ws : List Nat} (hws : ∀ i ∈ ws, i ∈ own.map (·.2)) (hc : X.calm = true) (hN : X.N.Nodup) (hi : PI X tg iter (liftI X.K w)) (ok : BlkOk X.N X.env.scope scope own)
    (hg : ∀ (s : Shared) (H : Hp) (C : Addr) (cl : List (Str × Addr)) (fp : List Addr), PG (X.blk s H scope (compEnvC scope cl C X.env) fp) tg (liftW X.K ws g)) (ht : ∀ (s : Shared) (H : Hp) (C : Addr) (cl : List (Str × Addr)) (fp : List Addr), PTs (X.blk s H scope (compEnvC scope cl C X.env) fp) ifs (liftT X.K tt))
    (hk : ∀ (s : Shared) (H : Hp) (C : Addr) (cl : List (Str × Addr)) (fp : List Addr), PE (X.blk s H scope (compEnvC scope cl C X.env) fp) kx (liftE X.K tk))
    (he : ∀ (s : Shared) (H : Hp) (C : Addr) (cl : List (Str × Addr)) (fp : List Addr), PE (X.blk s H scope (compEnvC scope cl C X.env) fp) vx (liftE X.K tv)) (hs : ∀ x, foldedSetIterable iter X.env x = pure x := by intro _; rfl) :
    PE X (.DictComp kx vx [⟨tg, iter, ifs, 0⟩] scope pos) (liftE X.K (dDc w g tt tk tv (own.map (·.2)))) :=
  pe_mono (pe_dc hc hN hi ok hg ht hk he hs) fun _ _ _ => lift_dc hws
/-! ### sorted(xs), sorted(d) -/
def cSorted : DC := fun ds S post => (∃ (x : D) (ns : List Int), ds = [x] ∧ seqOf S x (ns.map .int) ∧ (∀ ys, x ≠ .tup ys) ∧ ∀ ms : List Int, ms.Perm ns → ms.Pairwise (· ≤ ·) → post (.lr S.length) (S ++ [.lst (ms.map .int)])) ∨
  ∃ (n : Nat) (kvs : List (Key × D)) (ks : List Int), ds = [.lr n] ∧ S[n]? = some (.dct kvs) ∧ kvs.map (·.1) = ks.map Sum.inl ∧ ks.length < 64 ∧ ∀ ms : List Int, ms.Perm ks → ms.Pairwise (· ≤ ·) → post (.lr S.length) (S ++ [.lst (ms.map .int)])
def rSortedDI : List V → Hp → VK → Prop := fun xs H Q => ∃ (a : Addr) (kvs : List (Key × V)) (ks : List Int), xs = [.ref a] ∧ Rd H a (.dK kvs) ∧ kvs.map (·.1) = ks.map Sum.inl ∧ ks.length < 64 ∧ ∀ (ys : List Int) (p : Addr), ys.Perm ks → ys.Pairwise (· ≤ ·) → H p = none → Q (.ref p) (upd H p (.lst (ys.map V.int)))
theorem call_sortedA {X : Cx} (hc : X.calm = true) : CallR X (.builtin "sorted") (fun xs H Q => rSortedI X.K xs H Q ∨ rSortedDI xs H Q) := CallR.or cr_sortedI (call_sortedDI hc)
theorem rels_int {K : PySem.W.Frag} {H : Hp} {A : List Addr} : ∀ {ns : List Int} {vs : List V}, RelDs K H A (ns.map D.int) vs → vs = ns.map V.int
  | [], _, h => h
  | b :: bs, _, ⟨v, r, rfl, h1, h2⟩ => by
    rw [rels_int h2, show v = .int b from h1]
    rfl
theorem int_rels {K : PySem.W.Frag} {H : Hp} {A : List Addr} : ∀ {ns : List Int}, RelDs K H A (ns.map D.int) (ns.map V.int)
  | [] => rfl
  | b :: bs => ⟨.int b, bs.map V.int, rfl, rfl, int_rels⟩
theorem seq_list {K : PySem.W.Frag} {H : Hp} {A : List Addr} {S : Store} {x : D} {xs : List D} {v : V} (s : RelS K H A S) (hq : seqOf S x xs) (hx : ∀ ys, x ≠ .tup ys) (r : RelD K H A x v) : ∃ a us, v = .ref a ∧ SqL K H a us ∧ RelDs K H A xs us := by
  rcases hq with rfl | rfl | ⟨n, rfl, hn⟩
  · exact absurd rfl (hx _)
  · obtain ⟨a, us, e, h2, h3⟩ := r
    exact ⟨a, us, e, h2.sq, h3⟩
  · obtain ⟨a, e, ha⟩ := r
    obtain ⟨us, h1, h2⟩ := s.get hn ha
    exact ⟨a, us, e, .inl (.inl h1), h2⟩
theorem rul_sorted {K : PySem.W.Frag} : RulC K cSorted (fun xs H Q => rSortedI K xs H Q ∨ rSortedDI xs H Q) := by
  intro H A S ds vs post Q s r hh k
  rcases hh with ⟨x, ns, rfl, hq, hx, h⟩ | ⟨n, kvs, ks, rfl, hn, hks, hl, h⟩
  · obtain ⟨v, rfl, rv⟩ := rels1 r
    obtain ⟨a, us, rfl, hs, w⟩ := seq_list s hq hx rv
    have e := rels_int w
    subst e
    exact .inl ⟨a, ns, rfl, hs, fun ms p h1 h2 hp => fin_list s k hp int_rels (h ms h1 h2)⟩
  · obtain ⟨v, rfl, rv⟩ := rels1 r
    obtain ⟨a, ws, rfl, _, hw, rp⟩ := s.dct hn rv
    exact .inr ⟨a, ws, ks, rfl, .inl hw, by rw [rp.keys]; exact hks, hl, fun ms p h1 h2 hp => fin_list s k hp int_rels (h ms h1 h2)⟩
end DL
namespace DL
open PySem PySem.Spec PyProof.Rows L2
variable [HasT]
/-! ### dict(pairs) -/
def keyToD : Key → D
  | .inl i => .int i
  | .inr x => .str x
def pairD (kv : Key × D) : D := .tup [keyToD kv.1, kv.2]
def mergeD (acc kvs : List (Key × D)) : List (Key × D) := kvs.foldl (fun acc kv => putD acc kv.1 kv.2) acc
def cDict : DC := fun ds S post => ∃ (x : D) (kvs : List (Key × D)), ds = [x] ∧ seqOf S x (kvs.map pairD) ∧ kvs.length ≤ 100000 ∧ post (.lr S.length) (S ++ [.dct (mergeD [] kvs)])
theorem keyToD_rel {K : PySem.W.Frag} {H : Hp} {A : List Addr} {k : Key} {v : V} (r : RelD K H A (keyToD k) v) : v = kV k := by
  cases k <;> exact r
def rDictP (K : PySem.W.Frag) : List V → Hp → VK → Prop := fun xs H Q => ∃ (a : Addr) (ps : List Addr) (kvs : List (Key × V)), xs = [.ref a] ∧ (SqL K H a (ps.map V.ref) ∨ PTup K H a (ps.map V.ref)) ∧ Paired (fun p kv => SqT K H p [kV kv.1, kv.2]) ps kvs ∧
  ∀ p, H p = none → Q (.ref p) (upd H p (.dK (mergeK [] kvs)))
theorem trip_of {X : Cx} {pins : List (Addr × Obj)} {σ : L2.St} {H : Hp} {s : Shared} (I : Inv X pins σ H s) : ∀ {ps : List Addr} {kvs : List (Key × V)}, Paired (fun p kv => SqT X.K H p [kV kv.1, kv.2]) ps kvs →
    ∃ ts : List (Addr × Key × Value × Value), ts.map (·.1) = ps ∧ KV kvs (ts.map fun t => (t.2.1, t.2.2.2)) ∧ ∀ t ∈ ts, IsTup s.heap t.1 #[t.2.2.1, t.2.2.2] ∧ keyIs t.2.1 t.2.2.1 = true
  | _, _, .nil => ⟨[], rfl, .nil, fun t h => nomatch h⟩
  | _, _, .cons (a := p) (b := kv) h t => by
    obtain ⟨ts, e1, e2, e3⟩ := trip_of I t
    obtain ⟨its, rv, ht, _⟩ := I.tuple h
    obtain ⟨u, y, rfl, ru, ry⟩ := vals2 rv
    refine ⟨(p, kv.1, u, y) :: ts, by rw [List.map_cons, e1], .cons ⟨rfl, ry⟩ e2, fun t ht2 => ?_⟩
    rcases List.mem_cons.mp ht2 with rfl | ht2
    · exact ⟨ht, kV_is (P := X.prog) (w := X.w) ru⟩
    · exact e3 t ht2
theorem call_dictA {X : Cx} (hcalm : X.calm = true) : CallR X (.type "dict") (rDictP X.K) := by
  intro pins s σ H xs us Q I r ⟨a, ps, kvs, ex, hq, hp, q⟩
  rcases hq with hq | hq
  · exact call_dictP hcalm pins s σ H xs us Q I r ⟨a, ps, kvs, ex, hq, hp, q⟩
  · subst ex
    obtain ⟨u, rfl, rx⟩ := vals1 r
    obtain rfl : u = Value.ref a := rx
    obtain ⟨its, rv, _, hz⟩ := I.tuple hq.sq
    have ei := refs_at rv
    subst ei
    have pl : PySem.PlainSeq "tuple" s.heap a (ps.map Value.ref).toArray := by
      rcases hq with ⟨o, ho, hd⟩ | ⟨o, itk, n, hl, hc, hd, hs, hz2, hv⟩
      · obtain ⟨e, _, its2, r2, o2, e2, hc, n, hdat⟩ := (show ObjOk X.prog X.w H s.heap a (.frz o (.tup (ps.map V.ref))) from I.hok a _ ho)
        rw [e] at e2
        cases e2
        have ei2 := refs_at r2
        subst ei2
        exact ⟨o, n, e, hc, hd, hdat⟩
      · have e2 := refs_at hv
        exact ⟨o, n, I.kIn a o hl, hc, hd, by rw [hs, ← e2]⟩
    obtain ⟨ts, t1, t2, t3⟩ := trip_of I hp
    have lts : ts.length = ps.length := by rw [← t1, List.length_map]
    have lkv : kvs.length = ts.length := by
      have := Paired.length t2
      rwa [List.length_map] at this
    let pv : List (Value × Value) := ts.map fun t => (t.2.2.1, t.2.2.2)
    have hitems : PySem.PairItems s.heap (ps.map Value.ref).toArray (fun j => (ps[j]?).getD 0) pv := by
      refine ⟨by simp [pv, lts], fun j k v hj => ?_⟩
      have hj' : ∃ t, ts[j]? = some t ∧ (t.2.2.1, t.2.2.2) = (k, v) := by
        rw [List.getElem?_map] at hj
        cases q : ts[j]? with
        | none =>
          rw [q] at hj
          cases hj
        | some t =>
          rw [q] at hj
          exact ⟨t, rfl, Option.some.inj hj⟩
      obtain ⟨t, ht, et⟩ := hj'
      injection et with et1 et2
      have hpj : ps[j]? = some t.1 := by rw [← t1, List.getElem?_map, ht]; rfl
      obtain ⟨h1, _⟩ := t3 t (List.mem_iff_getElem?.mpr ⟨j, ht⟩)
      refine ⟨by simp [hpj], .inl ?_⟩
      show s.heap.IsTuple ((ps[j]?).getD 0) #[k, v]
      rw [hpj, ← et1, ← et2]
      exact h1
    refine PySem.call_dict_pairs (knd := mixKind X.prog X.w) (kvs := ts.map fun t => (t.2.1, t.2.2.2)) (PySem.PairArg.tuple a (ps.map Value.ref).toArray (fun j => (ps[j]?).getD 0) pv) (I.ok.hd hcalm) ⟨pl, hitems⟩ ⟨by simp [pv], fun i key v hrel => ?_⟩ (by
      simp only [pv, List.length_map]
      rw [List.length_map] at hz
      omega) fun h' tk hd' kp => ?_
    · have hj : ∃ t, ts[i]? = some t ∧ (t.2.2.1, t.2.2.2) = (key, v) := by
        have hrel' : pv[i]? = some (key, v) := hrel
        rw [List.getElem?_map] at hrel'
        cases q : ts[i]? with
        | none =>
          rw [q] at hrel'
          cases hrel'
        | some t =>
          rw [q] at hrel'
          exact ⟨t, rfl, Option.some.inj hrel'⟩
      obtain ⟨t, ht, et⟩ := hj
      injection et with et1 et2
      refine ⟨t.2.1, by rw [List.getElem?_map, ht, ← et2]; rfl, ?_⟩
      rw [← et1]
      exact (t3 t (List.mem_iff_getElem?.mpr ⟨i, ht⟩)).2
    · have hm : (s.heap.objs.size == sysModules) = false := beq_eq_false_iff_ne.mpr (Nat.ne_of_gt I.big)
      have hlen : (mergeK [] kvs).length ≤ sizeLine := by
        refine Nat.le_trans (length_mergeK kvs []) ?_
        rw [List.length_nil, Nat.zero_add, lkv, lts]
        rw [List.length_map] at hz
        exact hz
      exact ⟨.ref s.heap.objs.size, upd H s.heap.objs.size (.dK (mergeK [] kvs)), I.laid (t' := tk) (fun b o e => kp b o (fun z => nomatch z) e) (Nat.le_refl _) (show ObjOk X.prog X.w _ _ _ (.dK (mergeK [] kvs)) from ⟨hlen, hm, merged [] (ts.map fun t => (t.2.1, t.2.2.2)), KV.merge t2 .nil, hd'⟩), rfl, q _ (I.hok.fresh (Nat.le_refl _))⟩
theorem rels_pairs {K : PySem.W.Frag} {H : Hp} {A : List Addr} : ∀ {kvs : List (Key × D)} {us : List V}, RelDs K H A (kvs.map pairD) us → ∃ (ps : List Addr) (ws : List (Key × V)), us = ps.map V.ref ∧ Paired (fun p kv => SqT K H p [kV kv.1, kv.2]) ps ws ∧ RelP K H A kvs ws
  | [], _, h => ⟨[], [], h, .nil, .nil⟩
  | (k, d) :: kvs, _, ⟨v, r, rfl, h1, h2⟩ => by
    obtain ⟨ps, ws, rfl, g1, g2⟩ := rels_pairs h2
    obtain ⟨a, vs, rfl, ht, hv⟩ := h1
    obtain ⟨x, y, rfl, r1, r2⟩ := rels2 hv
    have e := keyToD_rel r1
    subst e
    exact ⟨a :: ps, (k, y) :: ws, rfl, .cons ht.sq g1, .cons r2 g2⟩
theorem RelP.merge {K : PySem.W.Frag} {H : Hp} {A : List Addr} {kvs : List (Key × D)} {ws : List (Key × V)} {acc : List (Key × D)} {bcc : List (Key × V)} (h : RelP K H A acc bcc) (t : RelP K H A kvs ws) : RelP K H A (mergeD acc kvs) (mergeK bcc ws) := by
  induction t generalizing acc bcc with
  | nil => exact h
  | @cons k d v ds vs hd t ih => exact ih (h.put k hd)
theorem fin_dct {K : PySem.W.Frag} {H : Hp} {A : List Addr} {S : Store} {post : DK} {Q : VK} {p : Addr} {kvs : List (Key × D)} {ws : List (Key × V)} (s : RelS K H A S) (k : KontE K H A post Q) (hp : H p = none) (r : RelP K H A kvs ws) (h : post (.lr S.length) (S ++ [.dct kvs])) : Q (.ref p) (upd H p (.dK ws)) := by
  have e : Ext H A (upd H p (.dK ws)) (A ++ [p]) := ext_new s hp
  exact k (.ref p) _ (A ++ [p]) (.lr S.length) (S ++ [.dct kvs]) e (s.new (o := .dK ws) (en := .dct kvs) hp ((r.ext e).ent upd_same)) (relD_last s) h
theorem rul_dict {K : PySem.W.Frag} : RulC K cDict (rDictP K) := by
  intro H A S ds vs post Q s r hh k
  obtain ⟨x, kvs, rfl, hq, hl, h⟩ := hh
  obtain ⟨v, rfl, rv⟩ := rels1 r
  have fin : ∀ {a : Addr} {us : List V}, (SqL K H a us ∨ PTup K H a us) → RelDs K H A (kvs.map pairD) us → v = .ref a → rDictP K [v] H Q := fun {a us} hs w e => by
    obtain ⟨ps, ws, rfl, g1, g2⟩ := rels_pairs w
    subst e
    exact ⟨a, ps, ws, rfl, hs, g1, fun p hp => fin_dct s k hp (RelP.merge .nil g2) h⟩
  by_cases ht : ∃ ys, x = .tup ys
  · obtain ⟨ys, rfl⟩ := ht
    have e : ys = kvs.map pairD := by simpa [seqOf] using hq
    subst e
    obtain ⟨a, us, e, hs, w⟩ := rv
    exact fin (.inr hs) w e
  · obtain ⟨a, us, e, hs, w⟩ := seq_list s hq (fun ys z => ht ⟨ys, z⟩) rv
    exact fin (.inl hs) w e
end DL
/-! DY: sorted(d.items()) of ints by ints. -/
namespace DL
open PySem PySem.Spec PyProof.Rows L2
variable [HasT]

/-- new tuples are tracked one behind another -/
theorem track_all {X : Cx} {pins : List (Addr × Obj)} {σ : L2.St} {H0 : Hp} {s0 : Shared} (I0 : Inv X pins σ H0 s0) : ∀ (ts : List (Addr × List Value × List V)) {H : Hp} {s : Shared}, Inv X pins σ H s → (∀ t ∈ ts, s0.heap.objs.size ≤ t.1 ∧ H t.1 = none ∧ s.heap.get? t.1 = some (obT t.2.1) ∧ Vals t.2.2 t.2.1 ∧ t.2.2.length ≤ sizeLine) → (ts.map (·.1)).Nodup →
    ∃ H' : Hp, Inv X pins σ H' s ∧ (∀ b o, H b = some o → H' b = some o) ∧ (∀ b, b ∉ ts.map (·.1) → H' b = H b) ∧ ∀ t ∈ ts, H' t.1 = some (.frz (obT t.2.1) (.tup t.2.2))
  | [], H, s, I, _, _ => ⟨H, I, fun _ _ h => h, fun _ _ => rfl, fun t h => nomatch h⟩
  | (a, us, vs) :: ts, H, s, I, h, hn => by
    obtain ⟨h1, h2, h3, h4, h5⟩ := h _ List.mem_cons_self
    rw [List.map_cons, List.nodup_cons] at hn
    have I1 : Inv X pins σ (upd H a (.frz (obT us) (.tup vs))) s := inv_track I (I0.fpOk h1 h2) ⟨h3, h5, us, h4, ⟨_, h3, rfl, _, rfl⟩⟩
    obtain ⟨H', I', k1, k2, k3⟩ := track_all I0 ts I1 (fun t ht => by
      obtain ⟨g1, g2, g3, g4, g5⟩ := h t (List.mem_cons_of_mem _ ht)
      refine ⟨g1, ?_, g3, g4, g5⟩
      rw [upd_ne (fun z => hn.1 (by rw [← z]; exact List.mem_map.mpr ⟨t, ht, rfl⟩))]
      exact g2) hn.2
    refine ⟨H', I', fun b o q => k1 b o ?_, fun b hb => ?_, fun t ht => ?_⟩
    · rw [upd_ne (ne_of_none q h2)]
      exact q
    · rw [List.map_cons, List.mem_cons, not_or] at hb
      rw [k2 b hb.2, upd_ne hb.1]
    · rcases List.mem_cons.mp ht with rfl | ht
      · exact k1 _ _ upd_same
      · exact k3 t ht
open Classical in
/-- the two ints of a pair -/
noncomputable def pairAt (h : Heap) (v : Value) : Int × Int := if x : ∃ p : Int × Int, Srt.IsPair h v p.1 p.2 then x.choose else (0, 0)
theorem pairAt_ok {h : Heap} {v : Value} {i j : Int} (p : Srt.IsPair h v i j) : Srt.IsPair h v (pairAt h v).1 (pairAt h v).2 := by
  unfold pairAt
  have x : ∃ p : Int × Int, Srt.IsPair h v p.1 p.2 := ⟨(i, j), p⟩
  rw [dif_pos x]
  exact x.choose_spec
theorem pair_uniq {h : Heap} {v : Value} {i j i' j' : Int} (p : Srt.IsPair h v i j) (q : Srt.IsPair h v i' j') : i = i' ∧ j = j' := by
  obtain ⟨a, o, t, u, n, e, ho, hc, hd⟩ := p
  obtain ⟨a', o', t', u', n', e', ho', hc', hd'⟩ := q
  subst e
  cases e'
  rw [ho] at ho'
  cases ho'
  rw [hd] at hd'
  cases hd'
  exact ⟨rfl, rfl⟩
section
variable {prog : Program} {w : World} {A : Around} {E : Value → Shared → Prop} {s : Shared} {r d : Addr} {ep : Nat} {kvs : List (Key × Value)}
/-- sorted(view): a new list of new pairs -/
theorem sorted_items {Q : Value → Shared → Prop} (hh : A.handled = none) (hv : s.heap.IsItemsView r d) (hm : s.heap.DictAt (mixKind prog w) d kvs ep) (hn : kvs.length ≤ sizeLine)
    (hi : ∀ (h' : Heap) (key : Value) (k : Key) (x : Value), (k, x) ∈ kvs → keyIs k key = true → ∃ i t j u, key = .int i t ∧ x = .int j u)
    (hQ : ∀ (h' : Heap) (tk : Nat) (as : List Addr) (l : Addr) (out : List Value) (n : Nat), (∀ b o, s.heap.get? b = some o → h'.get? b = some o) → as.length = kvs.length → PySem.W.KdxG (mixKind prog w) kvs s.heap.objs.size h' as → s.heap.get? l = none → l ∉ as → h'.get? l = some (seqObj "list" out.toArray n) →
      out.Perm (as.map Value.ref) → out.Pairwise (fun v u => SrtO.lexB (pairAt h' u) (pairAt h' v) = false) → Q (.ref l) { s with heap := h', toks := tk }) :
    wpAny (model prog w) A (call (.builtin "sorted") [.ref r]) Q E s := by
  refine Calls.call_function_entry kind_sorted plain_sorted entry_sorted (args_sorted1 _) ?_
  unfold Builtin.«sorted»
  refine wpAny_bind (m := checkCount "sorted" 1 1 _) (wpAny_pure ?_)
  refine wpAny_bind (PySem.W.kdx_collect (A := A.in1) hh hv hm hn fun h1 tk as hk hl hG => ?_)
  have hz : (as.map Value.ref).length ≤ sizeLine := by
    rw [List.length_map, hl]
    exact hn
  refine wpAny_bind (wpAny_newList ?_ hz)
  show wpAny _ _ _ _ _ { s with heap := h1.push (seqObj "list" (as.map Value.ref).toArray 0), toks := tk }
  have hoL : (h1.push (seqObj "list" (as.map Value.ref).toArray 0)).get? h1.objs.size = some (seqObj "list" (as.map Value.ref).toArray 0) := Heap.get?_push_size _ rfl
  have pr : ∀ v ∈ as.map Value.ref, ∃ i j, Srt.IsPair h1 v i j := fun v hm' => by
    obtain ⟨a, ha, rfl⟩ := List.mem_map.mp hm'
    obtain ⟨j, hj⟩ := List.mem_iff_getElem?.mp ha
    obtain ⟨key, k, x, e1, e2, e3⟩ := hG.pairs j a hj
    obtain ⟨i, t, m, u, rfl, rfl⟩ := hi h1 key k x (List.mem_iff_getElem?.mpr ⟨j, e1⟩) e2
    exact ⟨i, m, a, _, t, u, 0, rfl, e3, rfl, rfl⟩
  have pk : ∀ v ∈ as.map Value.ref, Srt.IsPair (h1.push (seqObj "list" (as.map Value.ref).toArray 0)) v (pairAt h1 v).1 (pairAt h1 v).2 := fun v hm' => by
    obtain ⟨i, j, p⟩ := pr v hm'
    exact (pairAt_ok p).keeps fun b o e _ => Heap.get?_push_of_some _ e
  have lt1 : ∀ a ∈ as, a < h1.objs.size := fun a ha => hG.there ha
  have old : ∀ b o, h1.get? b = some o → ∀ out : Array Value, (sortedHeap (h1.push (seqObj "list" (as.map Value.ref).toArray 0)) h1.objs.size (as.map Value.ref) out).get? b = some o := fun b o e out => by
    have hb : b ≠ h1.objs.size := Nat.ne_of_lt (Heap.lt_size e)
    unfold sortedHeap
    rw [Heap.get?_update_ne _ _ _ _ hb]
    exact Heap.get?_push_of_some _ (Heap.get?_push_of_some _ ((Heap.get?_update_ne _ _ _ _ hb).trans (Heap.get?_push_of_some _ e)))
  refine wpAny_bind (wpAny_holding (wpAny_call_entry slot_list_sort ⟨_, hoL, rfl⟩ entry_list_sort (SrtO.list_sort_ord (SrtO.swo_lex (pairAt h1)) hoL hz (fun h2 => SrtO.pairs_sortableO (by omega) pk fun o e => ?_) fun out hs hb => ⟨_, rfl, ?_⟩) (args_list_sort _)))
  · rw [hoL] at e
    cases e
    intro c
    exact absurd (Value.type.inj c) (by decide)
  · obtain ⟨n, hnn⟩ : ∃ n, (sortedHeap (h1.push (seqObj "list" (as.map Value.ref).toArray 0)) h1.objs.size (as.map Value.ref) out.toArray).get? h1.objs.size = some (seqObj "list" out.toArray n) := by
      unfold sortedHeap
      have h0 := get?_update_seq hoL fun _ => #[]
      exact ⟨_, get?_update_seq (Heap.get?_push_of_some _ (Heap.get?_push_of_some _ h0)) fun _ => out.toArray⟩
    have lnone : s.heap.get? h1.objs.size = none := by
      cases q : s.heap.get? h1.objs.size with
      | none => rfl
      | some o => exact absurd (Heap.lt_size (hk _ _ q)) (Nat.lt_irrefl _)
    refine wpAny_pure ⟨_, rfl, hQ _ tk as h1.objs.size out n (fun b o e => old b o (hk b o e) _) hl ⟨hG.rise, hG.above, fun j a hj => ?_⟩ lnone (fun hm' => Nat.lt_irrefl _ (lt1 _ hm')) hnn hb.perm ?_⟩
    · obtain ⟨key, k, x, e1, e2, e3⟩ := hG.pairs j a hj
      exact ⟨key, k, x, e1, e2, old _ _ e3 _⟩
    · have same : ∀ v ∈ as.map Value.ref, pairAt (sortedHeap (h1.push (seqObj "list" (as.map Value.ref).toArray 0)) h1.objs.size (as.map Value.ref) out.toArray) v = pairAt h1 v := fun v hm' => by
        obtain ⟨i, j, p⟩ := pr v hm'
        have p2 : Srt.IsPair (sortedHeap (h1.push (seqObj "list" (as.map Value.ref).toArray 0)) h1.objs.size (as.map Value.ref) out.toArray) v i j := p.keeps fun b o e _ => old b o e _
        obtain ⟨a1, a2⟩ := pair_uniq (pairAt_ok p2) p2
        obtain ⟨b1, b2⟩ := pair_uniq (pairAt_ok p) p
        exact Prod.ext (a1.trans b1.symm) (a2.trans b2.symm)
      refine List.Pairwise.imp_of_mem (fun {v u} hv' hu' hvu => ?_) hs
      rw [same v (hb.perm.mem_iff.mp hv'), same u (hb.perm.mem_iff.mp hu')]
      exact hvu
end
/-- sorted(e.items()): ints by ints, the keys each once -/
def rSortedItems : V → Hp → VK → Prop := fun x H Q => ∃ (d : Addr) (es : List (Int × Int)), x = .ref d ∧ H d = some (.dK (es.map fun p => (Sum.inl p.1, V.int p.2))) ∧
  ∀ (H' : Hp) (l : Addr) (ts : List Addr) (ms : List (Int × Int)), (∀ b o, H b = some o → H' b = some o) → H l = none → H' l = some (.lst (ts.map V.ref)) → ms.Perm es → ms.Pairwise (fun p q => p.1 ≤ q.1) →
    Paired (fun (t : Addr) (p : Int × Int) => ∃ o : Obj, o.dict = none ∧ H' t = some (.frz o (.tup [.int p.1, .int p.2]))) ts ms → Q (.ref l) H'
theorem int_of_kv : ∀ {es : List (Int × Int)} {vs : List (Key × Value)}, KV (es.map fun p => (Sum.inl p.1, V.int p.2)) vs → vs.length = es.length ∧ (∀ k x, (k, x) ∈ vs → ∃ i j u, k = Sum.inl i ∧ x = Value.int j u) ∧ ∀ (j : Nat) (k : Key) (x : Value), vs[j]? = some (k, x) → ∃ p u, es[j]? = some p ∧ k = Sum.inl p.1 ∧ x = Value.int p.2 u
  | [], _, .nil => ⟨rfl, (fun _ _ h => by cases h), (fun j k x h => by simp at h)⟩
  | p :: es, (k, x) :: vs, .cons ⟨e, r⟩ t => by
    obtain ⟨h1, h2, h3⟩ := int_of_kv t
    have e' : Sum.inl p.1 = k := e
    obtain ⟨u, hx⟩ := (show RelV (.int p.2) x from r)
    subst e' hx
    refine ⟨by rw [List.length_cons, List.length_cons, h1], fun k x h => ?_, fun j k x h => ?_⟩
    · rcases List.mem_cons.mp h with q | q
      · cases q
        exact ⟨_, _, _, rfl, rfl⟩
      · exact h2 k x q
    · cases j with
      | zero =>
        simp at h
        obtain ⟨rfl, rfl⟩ := h
        exact ⟨p, u, rfl, rfl, rfl⟩
      | succ j => exact h3 j k x (by simpa using h)
theorem key_int {i : Int} {key : Value} (h : keyIs (Sum.inl i) key = true) : ∃ t, key = .int i t := by
  have r := relV_key h
  exact r
theorem perm_refs {as : List Addr} : ∀ {out : List Value}, (∀ v ∈ out, ∃ a ∈ as, v = Value.ref a) → ∃ ts : List Addr, out = ts.map Value.ref
  | [], _ => ⟨[], rfl⟩
  | v :: out, h => by
    obtain ⟨a, _, rfl⟩ := h v List.mem_cons_self
    obtain ⟨ts, rfl⟩ := perm_refs (as := as) (out := out) fun u hu => h u (List.mem_cons_of_mem _ hu)
    exact ⟨a :: ts, rfl⟩
theorem refs_inj {as bs : List Addr} (h : (as.map Value.ref).Perm (bs.map Value.ref)) : as.Perm bs := by
  have e : ∀ cs : List Addr, (cs.map Value.ref).map (fun v => match v with | .ref a => a | _ => 0) = cs := fun cs => by
    rw [List.map_map]
    exact List.map_id' cs
  have p := h.map (fun v => match v with | .ref a => a | _ => 0)
  rwa [e, e] at p
theorem build_pairs {h : Heap} : ∀ {as : List Addr} {es : List (Int × Int)}, as.length = es.length → (∀ (j : Nat) (a : Addr) (p : Int × Int), as[j]? = some a → es[j]? = some p → ∃ us, h.get? a = some (obT us) ∧ Vals [V.int p.1, V.int p.2] us) →
    ∃ tl : List (Addr × List Value × List V), tl.map (·.1) = as ∧ (∀ t ∈ tl, h.get? t.1 = some (obT t.2.1) ∧ Vals t.2.2 t.2.1 ∧ t.2.2.length = 2) ∧ ∀ (j : Nat) (a : Addr) (p : Int × Int), as[j]? = some a → es[j]? = some p → ∃ us, (a, us, [V.int p.1, V.int p.2]) ∈ tl
  | [], [], _, _ => ⟨[], rfl, (fun _ h => by cases h), (fun j a p h => by simp at h)⟩
  | [], _ :: _, hl, _ => by cases hl
  | _ :: _, [], hl, _ => by cases hl
  | a :: as, p :: es, hl, hh => by
    obtain ⟨tl, t1, t2, t3⟩ := build_pairs (as := as) (es := es) (Nat.succ.inj hl) fun j a p h1 h2 => hh (j + 1) a p (by simpa using h1) (by simpa using h2)
    obtain ⟨us, u1, u2⟩ := hh 0 a p rfl rfl
    refine ⟨(a, us, [V.int p.1, V.int p.2]) :: tl, by rw [List.map_cons, t1], fun t ht => ?_, fun j b q h1 h2 => ?_⟩
    · rcases List.mem_cons.mp ht with rfl | ht
      · exact ⟨u1, u2, rfl⟩
      · exact t2 t ht
    · cases j with
      | zero =>
        simp at h1 h2
        subst h1 h2
        exact ⟨us, List.mem_cons_self⟩
      | succ j =>
        obtain ⟨us', hm⟩ := t3 j b q (by simpa using h1) (by simpa using h2)
        exact ⟨us', List.mem_cons_of_mem _ hm⟩
theorem paired_self {α β : Type} {F : α → β → Prop} (f : α → β) : ∀ {l : List α}, (∀ a ∈ l, F a (f a)) → Paired F l (l.map f)
  | [], _ => .nil
  | a :: l, h => .cons (h a List.mem_cons_self) (paired_self f fun b hb => h b (List.mem_cons_of_mem _ hb))
section
variable {X : Cx} {e : Expr} {te : TE} {p apos cpos pos : Pos}
theorem pe_sortedItems (hc : X.calm = true) (he : PE X e te) (hg : Gl X "sorted") (hm : X.mg "sorted" = none) (hbase : attributeBase e "items" X.env (eval e X.env) = eval e X.env := by rfl) (hline : (apos.endLine == cpos.line) = true := by rfl)
    (hs : starEach [.Call (.Attribute e "items" apos) [] [] cpos] X.env = (false, eval (.Call (.Attribute e "items" apos) [] [] cpos) X.env) :: starEach [] X.env := by rfl) :
    PE X (.Call (.Name "sorted" p) [.Call (.Attribute e "items" apos) [] [] cpos] [] pos) (fun σ H Q => te σ H fun x H1 => rSortedItems x H1 Q) := by
  refine ⟨fun pins s σ H Q I hq => ?_⟩
  refine wpAny_Call_Name_kw (ld_blt I hg hm PyProof.Rows.boot_sorted ?_)
  refine PyProof.Rows.callWith_builtin1 ?_ hs rfl
  rw [hs]
  refine Calls.spliced_cons ?_
  refine wpAny_Call_method (T := "dict") (id := "dict.items") hbase rfl hline PySem.F.plainAttrs_dict PySem.F.slot_dict_items PySem.F.type_dict_items (thn (he.run pins s σ H _ I hq) fun u s1 ⟨x, H1, I1, rx, d, es, ex, hd, q⟩ => ?_)
  subst ex
  obtain rfl : u = Value.ref d := rx
  obtain ⟨hz, hs0, vs, kv, hdo⟩ := I1.hok d _ hd
  obtain ⟨ep, hat⟩ := hdo.dictAt
  obtain ⟨lk, hint, at_⟩ := int_of_kv kv
  rw [List.length_map] at hz
  have I2 : Inv X pins σ H1 { s1 with heap := s1.heap.push { cls := .type "dict_items", data := .fields #[.ref d] } } := I1.kept (t' := s1.toks) fun b ob q => Heap.get?_push_of_some _ q
  refine ⟨hdo.typeIs, hdo.mapOf.noDict, ?_⟩
  show wpAny _ _ (callWith cpos (.builtin "dict.items") [.ref d] [] []) _ X.xe s1
  refine method_meetsIn PySem.F.slot_dict_items PySem.F.entry_dict_items rfl (PySem.evalArgs_none ⟨rfl, hdo.typeIs, PySem.F.args_dict_items_1 _, _, meets_dict_items (mixKind X.prog X.w) d hs0, ⟨vs, hdo⟩, ?_⟩)
  refine Calls.spliced_nil ?_
  refine sorted_items (kvs := vs) (ep := ep) (I1.ok.hd hc) ⟨_, Heap.get?_push_size _ rfl, rfl, rfl⟩ (hat.push _) (by omega) (fun h' key k x hkx hk => ?_) fun h' tk as l out n hk hl hG hln hlas hS hp hw => ?_
  · obtain ⟨i, j, u, rfl, rfl⟩ := hint k x hkx
    obtain ⟨t, rfl⟩ := key_int hk
    exact ⟨i, t, j, u, rfl, rfl⟩
  · have hk1 : ∀ b o, s1.heap.get? b = some o → h'.get? b = some o := fun b o e => hk b o (Heap.get?_push_of_some _ e)
    have hlk : s1.heap.get? l = none := by
      cases z : s1.heap.get? l with
      | none => rfl
      | some o =>
        rw [Heap.get?_push_of_some _ z] at hln
        cases hln
    have hln1 : H1 l = none := HOk.gone I1.hok hlk
    have las : as.length = es.length := by omega
    have facts : ∀ (j : Nat) (a : Addr) (p : Int × Int), as[j]? = some a → es[j]? = some p → ∃ us, h'.get? a = some (obT us) ∧ Vals [V.int p.1, V.int p.2] us := fun j a p h1 h2 => by
      obtain ⟨key, k, x, e1, e2, e3⟩ := hG.pairs j a h1
      obtain ⟨p', u, g1, rfl, rfl⟩ := at_ j k x e1
      rw [h2] at g1
      cases g1
      obtain ⟨t, rfl⟩ := key_int e2
      exact ⟨[.int p.1 t, .int p.2 u], e3, .cons ⟨t, rfl⟩ (.cons ⟨u, rfl⟩ .nil)⟩
    obtain ⟨tl, t1, t2, t3⟩ := build_pairs las facts
    obtain ⟨ts, rfl⟩ := perm_refs (as := as) (out := out) fun v hv => by
      obtain ⟨a, ha, e⟩ := List.mem_map.mp (hp.mem_iff.mp hv)
      exact ⟨a, ha, e.symm⟩
    have pts : ts.Perm as := refs_inj hp
    have hzl : (ts.map V.ref).length ≤ sizeLine := by
      rw [List.length_map, pts.length_eq, las]
      exact hz
    have I3 : Inv X pins σ (upd H1 l (.lst (ts.map V.ref))) { s1 with heap := h', toks := tk } := Inv.laidN I1 hk1 hlk hln1 ⟨hzl, ts.map Value.ref, n, LiI.vals_refs ts, hS⟩
    have nd : as.Nodup := List.Pairwise.imp (fun {a b} (h : a < b) => Nat.ne_of_lt h) hG.rise
    obtain ⟨H', I4, k1, k2, k3⟩ := track_all I1 tl I3 (fun t ht => by
      have hta : t.1 ∈ as := by rw [← t1]; exact List.mem_map.mpr ⟨t, ht, rfl⟩
      obtain ⟨g1, g2, g3⟩ := t2 t ht
      have hge : s1.heap.objs.size ≤ t.1 := by
        have := hG.above t.1 hta
        have z : (s1.heap.push { cls := .type "dict_items", data := .fields #[.ref d] }).objs.size = s1.heap.objs.size + 1 := Heap.size_push ..
        have this' : (s1.heap.push { cls := .type "dict_items", data := .fields #[.ref d] }).objs.size < t.1 := this
        rw [z] at this'
        exact Nat.le_of_lt (Nat.lt_of_succ_lt this')
      refine ⟨hge, ?_, g1, g2, by rw [g3]; decide⟩
      rw [upd_ne (fun z => hlas (by rw [← z]; exact hta))]
      exact I1.hok.fresh hge) (by rw [t1]; exact nd)
    let f : Addr → Int × Int := fun a => pairAt h' (.ref a)
    have ispair : ∀ (j : Nat) (a : Addr) (p : Int × Int), as[j]? = some a → es[j]? = some p → f a = p := fun j a p h1 h2 => by
      obtain ⟨us, u1, u2⟩ := facts j a p h1 h2
      obtain ⟨v1, v2, rfl, r1, r2⟩ := vals2 u2
      obtain ⟨t, rfl⟩ := r1
      obtain ⟨u, rfl⟩ := r2
      have ip : Srt.IsPair h' (.ref a) p.1 p.2 := ⟨a, _, t, u, 0, rfl, u1, rfl, rfl⟩
      obtain ⟨a1, a2⟩ := pair_uniq (pairAt_ok ip) ip
      exact Prod.ext a1 a2
    have fas : as.map f = es := by
      refine List.ext_getElem? fun j => ?_
      rw [List.getElem?_map]
      cases h1 : as[j]? with
      | none =>
        rw [List.getElem?_eq_none (by rw [← las]; exact List.getElem?_eq_none_iff.mp h1)]
        rfl
      | some a =>
        have hj := (List.getElem?_eq_some_iff.mp h1).1
        have h2 : es[j]? = some es[j] := List.getElem?_eq_getElem (by omega)
        rw [h2, Option.map_some, ispair j a _ h1 h2]
    refine ⟨.ref l, H', I4, rfl, q H' l ts (ts.map f) (fun b o e => k1 b o (by rw [upd_ne (ne_of_none e hln1)]; exact e)) hln1 (k1 _ _ upd_same) (by rw [← fas]; exact pts.map f) ?_ (paired_self f fun t ht => ?_)⟩
    · rw [List.pairwise_map] at hw ⊢
      refine hw.imp fun {a b} h => ?_
      have := SrtO.lexB_no.mp h
      show (pairAt h' (.ref a)).1 ≤ (pairAt h' (.ref b)).1
      omega
    · have hta := pts.mem_iff.mp ht
      obtain ⟨j, hj⟩ := List.mem_iff_getElem?.mp hta
      have hjl := (List.getElem?_eq_some_iff.mp hj).1
      have h2 : es[j]? = some es[j] := List.getElem?_eq_getElem (by omega)
      obtain ⟨us, hm⟩ := t3 j t _ hj h2
      rw [ispair j t _ hj h2]
      exact ⟨obT us, rfl, k3 _ hm⟩
end
/-! ### over data -/
def cItems (x : D) (S : Store) (post : DK) : Prop := ∃ (n : Nat) (es : List (Int × Int)), x = .lr n ∧ S[n]? = some (.dct (es.map fun p => (Sum.inl p.1, .int p.2))) ∧ ∀ ms : List (Int × Int), ms.Perm es → ms.Pairwise (fun p q => p.1 ≤ q.1) → post (.lr S.length) (S ++ [.lst (ms.map fun p => .tup [.int p.1, .int p.2])])
def dSItems (te : DE) : DE := fun ρ S post => te ρ S fun x S1 => cItems x S1 post
theorem pairs_rel {K : PySem.W.Frag} {H : Hp} {A : List Addr} : ∀ {ts : List Addr} {ms : List (Int × Int)}, Paired (fun (t : Addr) (p : Int × Int) => ∃ o : Obj, o.dict = none ∧ H t = some (.frz o (.tup [.int p.1, .int p.2]))) ts ms → RelDs K H A (ms.map fun p => .tup [.int p.1, .int p.2]) (ts.map V.ref)
  | _, _, .nil => rfl
  | _, _, .cons (a := t) (b := p) ⟨o, h1, h2⟩ r => ⟨.ref t, _, rfl, ⟨t, [.int p.1, .int p.2], rfl, .inl ⟨o, h2, h1⟩, ⟨_, _, rfl, rfl, ⟨_, _, rfl, rfl, rfl⟩⟩⟩, pairs_rel r⟩
theorem relP_ints {K : PySem.W.Frag} {H : Hp} {A : List Addr} : ∀ {es : List (Int × Int)} {ws : List (Key × V)}, RelP K H A (es.map fun p => (Sum.inl p.1, D.int p.2)) ws → ws = es.map fun p => (Sum.inl p.1, V.int p.2)
  | [], _, h => by
    rw [List.map_nil] at h
    cases h
    rfl
  | p :: es, _, h => by
    rw [List.map_cons] at h
    cases h with
    | cons hd t =>
      rw [relP_ints t, show _ = V.int p.2 from hd]
      rfl
theorem de_sortedItems {X : Cx} {e : Expr} {te : DE} {p apos cpos pos : Pos} (hc : X.calm = true) (he : PE X e (liftE X.K te)) (hg : Gl X "sorted") (hm : X.mg "sorted" = none) (hbase : attributeBase e "items" X.env (eval e X.env) = eval e X.env := by rfl) (hline : (apos.endLine == cpos.line) = true := by rfl)
    (hs : starEach [.Call (.Attribute e "items" apos) [] [] cpos] X.env = (false, eval (.Call (.Attribute e "items" apos) [] [] cpos) X.env) :: starEach [] X.env := by rfl) :
    PE X (.Call (.Name "sorted" p) [.Call (.Attribute e "items" apos) [] [] cpos] [] pos) (liftE X.K (dSItems te)) := by
  refine pe_mono (pe_sortedItems hc he hg hm hbase hline hs) ?_
  rintro σ H Q ⟨A, ρ, S, post, n, s, h, k⟩
  refine ⟨A, ρ, S, _, n, s, h, fun v1 H1 A1 d1 S1 e1 s1 r1 ⟨m, es, eq, hm, hp⟩ => ?_⟩
  subst eq
  obtain ⟨a, ws, rfl, ha, hw, rp⟩ := s1.dct hm r1
  have ew := relP_ints rp
  subst ew
  refine ⟨a, es, rfl, hw, fun H' l ts ms keep hl hL pm sd pr => ?_⟩
  have e2 : Ext H1 A1 H' A1 := Ext.same keep
  have e3 : Ext H1 A1 H' (A1 ++ [l]) := ⟨⟨[l], rfl, fun b hb => by rw [List.mem_singleton.mp hb]; exact .of hl⟩, fun b o q => .inl (keep b o q)⟩
  refine k (.ref l) H' (A1 ++ [l]) (.lr S1.length) (S1 ++ [.lst (ms.map fun p => .tup [.int p.1, .int p.2])]) (e1.trans e3) ((s1.same keep).push (en := .lst _) (s1.notin hl) ⟨ts.map V.ref, hL, pairs_rel pr⟩) ⟨l, rfl, ?_⟩ (hp ms pm sd)
  rw [s1.len, List.getElem?_append_right (Nat.le_refl _), Nat.sub_self]
  rfl
end DL
/-! ZI: tuple(enumerate(xs)). -/
namespace DL
open PySem
variable [HasT]
open Sem (wp)

theorem get_snoc' {α : Type} {xs : List α} {a b : α} {i : Nat} (h : (xs ++ [a])[i]? = some b) : (i < xs.length ∧ xs[i]? = some b) ∨ (i = xs.length ∧ a = b) := by
  by_cases hi : i < xs.length
  · rw [List.getElem?_append_left hi] at h
    exact .inl ⟨hi, h⟩
  · rw [List.getElem?_append_right (by omega)] at h
    have h0 : i - xs.length = 0 := by
      have := (List.getElem?_eq_some_iff.mp h).1
      simp at this
      exact this
    rw [h0] at h
    simp at h
    exact .inr ⟨by omega, h⟩
abbrev ERec (h : Heap) (e it : Addr) (c : Int) (f0 : Value) (f1 : Bool) (old : Value) : Prop :=
  h.get? e = some { cls := .type "enumerate", dict := none, data := .fields #[f0, .bool f1, .ref it, rawInt c, .none, old], slots := #[] }
section
variable {prog : Program} {w : World} {A : Around} {E : Value → Shared → Prop} {s : Shared} {e it : Addr} {fp : List Addr} {n i : Nat} {P : Nat → Value → Prop} {St : Nat → Heap → Prop} {f0 : Value} {f1 : Bool} {c : Int} {old : Value}
theorem efree {Q : Bool → Shared → Prop} (hz : ERec s.heap e it c f0 f1 old) (hf : ZF f0) (h1 : Q true s) (h2 : ∀ h', ERec h' e it c f0 true old → Heap.SameBut e s.heap h' → Q false { s with heap := h' }) :
    wpAny (model prog w) A (Builtin.SmallTypes.ownedTupleIsFree (.ref e)) Q E s := by
  unfold Builtin.SmallTypes.ownedTupleIsFree
  rcases hf with rfl | ⟨T, rfl⟩
  · exact wpAny_bind (wpAny_field hz rfl (x := .none) rfl (wpAny_pure h1))
  · refine wpAny_bind (wpAny_field hz rfl (x := rawInt T) rfl ?_)
    show wpAny _ _ (loadIfAlive ((T : Int).toNat) >>= _) _ _ _
    have la : ∀ (a : Addr) (Q : Option Obj → Shared → Prop), Q (s.heap.get? a) s → wpAny (model prog w) A (loadIfAlive a) Q E s := fun a Q q _ _ _ => q
    refine wpAny_bind (la _ _ ?_)
    cases hq : s.heap.get? ((T : Int).toNat) with
    | none =>
      simp only [Option.isNone_none, if_true]
      exact wpAny_pure h1
    | some o =>
      simp only [Option.isNone_some, Bool.false_eq_true, if_false]
      refine wpAny_bind (wpAny_field hz rfl (x := .bool f1) rfl ?_)
      cases f1 with
      | true =>
        rw [if_neg (by decide)]
        exact wpAny_pure (h2 s.heap hz (Heap.SameBut.refl _ _))
      | false =>
        rw [if_pos (by decide)]
        exact wpAny_bind (wpAny_setField_rec hz (by simp) fun g' zg' sg' => wpAny_pure (h2 g' zg' sg'))
theorem enx {Q : Value → Shared → Prop} (D : Draws prog w A it fp n P St) (he : ERec s.heap e it c f0 f1 old) (hf : ZF f0) (hst : St i s.heap) (hlt : i < n) (hne : e ≠ it) (hef : e ∉ fp)
    (hQ : ∀ x h' tk t g0 g1 y, P i x → ZF g0 → ERec h' e it (c + 1) g0 g1 y → St (i + 1) h' → IsTupOf2 h' s.heap.objs.size (.int c t) x → h'.objs.size = s.heap.objs.size + 1 →
      (∀ b o, b ≠ e → b ≠ it → s.heap.get? b = some o → h'.get? b = some o) → Q (.ref s.heap.objs.size) { s with heap := h', toks := tk }) :
    wpAny (model prog w) A (Builtin.«enumerate.__next__» ⟨[.ref e], []⟩) (fun fin s' => ∃ v, fin = .done (.ret v) ∧ Q v s') E s := by
  obtain ⟨hp, gs, dr, tk0, os⟩ := s
  show wpAny _ _ (field (.ref e) 2 >>= _) _ _ _
  refine wpAny_bind (wpAny_field he rfl (x := .ref it) rfl ?_)
  refine wpAny_bind (D.item i _ _ _ hlt hst fun x ha tka hPx sta sa => ?_)
  replace sa : Heap.SameBut it hp ha := sa
  have ea : ERec ha e it c f0 f1 old := (sa.2 e hne).trans he
  show wpAny _ _ (field (.ref e) 3 >>= _) _ _ ⟨ha, gs, dr, tka, os⟩
  refine wpAny_bind (wpAny_field ea rfl (x := rawInt c) rfl ?_)
  show wpAny _ _ (field (.ref e) 4 >>= _) _ _ ⟨ha, gs, dr, tka, os⟩
  refine wpAny_bind (wpAny_field ea rfl (x := .none) rfl ?_)
  show wpAny _ _ (mkInt c >>= _) _ _ ⟨ha, gs, dr, tka, os⟩
  refine wpAny_bind (wpAny_mkInt ?_)
  show wpAny _ _ (setField (.ref e) 3 (rawInt (c + 1)) >>= _) _ _ ⟨ha, gs, dr, tka + 1, os⟩
  refine wpAny_bind (wpAny_setField_rec ea (by simp) fun hb eb sb => ?_)
  replace sb : Heap.SameBut e ha hb := sb
  replace eb : ERec hb e it (c + 1) f0 f1 old := eb
  show wpAny _ _ (setField (.ref e) 4 .none >>= _) _ _ ⟨hb, gs, dr, tka + 1, os⟩
  refine wpAny_bind (wpAny_setField_rec eb (by simp) fun hc ec sc => ?_)
  replace sc : Heap.SameBut e hb hc := sc
  replace ec : ERec hc e it (c + 1) f0 f1 old := ec
  show wpAny _ _ (newTuple [.int c tka, x] >>= _) _ _ ⟨hc, gs, dr, tka + 1, os⟩
  refine wpAny_bind (wpAny_newTuple ?_)
  have szc : hc.objs.size = hp.objs.size := by rw [sc.1, sb.1, sa.1]
  have elt : e < hp.objs.size := Heap.lt_size he
  have ed : ERec (hc.push { cls := .type "tuple", data := .seq #[.int c tka, x] }) e it (c + 1) f0 f1 old := Heap.get?_push_of_some _ ec
  have td : IsTupOf2 (hc.push { cls := .type "tuple", data := .seq #[.int c tka, x] }) hp.objs.size (.int c tka) x := by
    rw [← szc]
    exact Heap.get?_push_size _ rfl
  have kd : ∀ b o, b ≠ e → b ≠ it → hp.get? b = some o → (hc.push { cls := .type "tuple", data := .seq #[.int c tka, x] }).get? b = some o := fun b o q q2 y => Heap.get?_push_of_some _ (sc.extBut _ _ q (sb.extBut _ _ q (sa.extBut _ _ q2 y)))
  have sd : St (i + 1) (hc.push { cls := .type "tuple", data := .seq #[.int c tka, x] }) := D.frame _ _ _ sta fun b hb o y => by
    have hbe : b ≠ e := fun q => hef (q ▸ hb)
    exact Heap.get?_push_of_some _ (sc.extBut _ _ hbe (sb.extBut _ _ hbe y))
  have szd : (hc.push { cls := .type "tuple", data := .seq #[.int c tka, x] }).objs.size = hp.objs.size + 1 := by rw [Heap.size_push, szc]
  generalize hhd : hc.push { cls := .type "tuple", data := .seq #[.int c tka, x] } = hd at ed td kd sd szd
  rw [szc]
  have fin : ∀ (h' : Heap) (g0 : Value) (g1 : Bool) (y : Value), ZF g0 → ERec h' e it (c + 1) g0 g1 y → Heap.SameBut e hd h' → Q (.ref hp.objs.size) ⟨h', gs, dr, tka + 1, os⟩ := fun h' g0 g1 y zg eg sg =>
    hQ x h' (tka + 1) tka g0 g1 y hPx zg eg (D.frame _ _ _ sd fun b hb o z => sg.extBut _ _ (fun q => hef (q ▸ hb)) z) (sg.extBut _ _ (Nat.ne_of_gt elt) td) (by rw [sg.1, szd]) fun b o q q2 z => sg.extBut _ _ q (kd b o q q2 z)
  show wpAny _ _ (Builtin.SmallTypes.ownedTupleIsFree (.ref e) >>= _) _ _ ⟨hd, gs, dr, tka + 1, os⟩
  refine wpAny_bind (efree (s := ⟨hd, gs, dr, tka + 1, os⟩) ed hf ?_ fun h' eh sh => ?_)
  · simp only [if_true]
    refine wpAny_bind (wpAny_rule (wpAny_bind (wpAny_field ed rfl (x := old) rfl ?_)))
    refine wpAny_bind (wpAny_setField_rec ed (by simp) fun hf' ef' sf' => ?_)
    replace sf' : Heap.SameBut e hd hf' := sf'
    replace ef' : ERec hf' e it (c + 1) f0 f1 x := ef'
    show wpAny _ _ (Builtin.SmallTypes.ownedTupleHandOut (.ref e) (.ref hp.objs.size) >>= _) _ _ ⟨hf', gs, dr, tka + 1, os⟩
    refine wpAny_bind ?_
    unfold Builtin.SmallTypes.ownedTupleHandOut
    refine wpAny_bind (wpAny_setField_rec ef' (by simp) fun hg' eg' sg' => ?_)
    replace sg' : Heap.SameBut e hf' hg' := sg'
    replace eg' : ERec hg' e it (c + 1) (rawInt hp.objs.size) f1 x := eg'
    refine wpAny_setField_rec eg' (by simp) fun hh' eh' sh' => ?_
    replace sh' : Heap.SameBut e hg' hh' := sh'
    replace eh' : ERec hh' e it (c + 1) (rawInt hp.objs.size) false x := eh'
    refine wpAny_bind (wpAny_letGo (wpAny_pure ⟨_, rfl, ?_⟩))
    exact fin hh' _ _ _ (.inr ⟨_, rfl⟩) eh' ((sf'.trans sg').trans sh')
  · simp only [Bool.false_eq_true, if_false]
    exact wpAny_pure ⟨_, rfl, fin h' _ _ _ hf eh sh⟩
theorem pyNext_en {Q : Option Value → Shared → Prop} (D : Draws prog w A.in1 it fp n P St) (he : ERec s.heap e it c f0 f1 old) (hf : ZF f0) (hst : St i s.heap) (hlt : i < n) (hne : e ≠ it) (hef : e ∉ fp)
    (hQ : ∀ x h' tk t g0 g1 y, P i x → ZF g0 → ERec h' e it (c + 1) g0 g1 y → St (i + 1) h' → IsTupOf2 h' s.heap.objs.size (.int c t) x → h'.objs.size = s.heap.objs.size + 1 →
      (∀ b o, b ≠ e → b ≠ it → s.heap.get? b = some o → h'.get? b = some o) → Q (some (.ref s.heap.objs.size)) { s with heap := h', toks := tk }) : wpAny (model prog w) A (pyNext (.ref e)) Q E s := by
  have ty : s.TypeIs (.ref e) "enumerate" := ⟨_, he, rfl⟩
  unfold pyNext
  exact wpAny_bind (wpAny_attempt (wpAny_callSpecial?_slot (name := Str.ofString "__next__") ty F.slot_enumerate_next (wpAny_call_entry F.slot_enumerate_next ty F.entry_enumerate_next
    (enx D he hf hst hlt hne hef fun x h' tk t g0 g1 y q1 q2 q3 q4 q5 q6 q7 => wpAny_pure (hQ x h' tk t g0 g1 y q1 q2 q3 q4 q5 q6 q7)) (F.args_enumerate_next_1 _))))
theorem pyNext_en_end {Q : Option Value → Shared → Prop} (D : Draws prog w A.in1 it fp n P St) (he : ERec s.heap e it c f0 f1 old) (hst : St n s.heap)
    (hQ : ∀ h' tk, (∀ b o, b ≠ e → b ≠ it → s.heap.get? b = some o → h'.get? b = some o) → Q none { s with heap := h', toks := tk }) : wpAny (model prog w) A (pyNext (.ref e)) Q E s := by
  have ty : s.TypeIs (.ref e) "enumerate" := ⟨_, he, rfl⟩
  unfold pyNext
  refine wpAny_bind (wpAny_attempt (wpAny_callSpecial?_slot (name := Str.ofString "__next__") ty F.slot_enumerate_next (wpAny_call_entry F.slot_enumerate_next ty F.entry_enumerate_next ?_ (F.args_enumerate_next_1 _))))
  show wpAny _ _ (field (.ref e) 2 >>= _) _ _ _
  refine wpAny_bind (wpAny_field he rfl (x := .ref it) rfl ?_)
  refine wpAny_bind (D.done _ _ _ hst fun h' x kp hx => ?_)
  obtain ⟨o, ho, hc⟩ := hx
  refine wpAny_bind (wpAny_isInstance (T := "StopIteration") (b := true) ⟨o, ho, hc⟩ isSubtype_stop ?_)
  exact wpAny_pure (hQ _ s.toks fun b ob _ q y => kp b ob q y)
/-- what was made so far -/
structure Made (P : Nat → Value → Prop) (lo : Addr) (h : Heap) (as : List Addr) : Prop where
  rise : as.Pairwise (· < ·)
  above : ∀ a ∈ as, lo ≤ a
  there : ∀ a ∈ as, a < h.objs.size
  at_ : ∀ (j : Nat) (a : Addr), as[j]? = some a → ∃ t x, P j x ∧ IsTupOf2 h a (.int (j : Int) t) x
theorem Made.keep {P : Nat → Value → Prop} {lo : Addr} {h h' : Heap} {as : List Addr} (m : Made P lo h as) (k : ∀ a ∈ as, ∀ o, h.get? a = some o → h'.get? a = some o) : Made P lo h' as :=
  ⟨m.rise, m.above, fun a ha => by
    obtain ⟨j, hj⟩ := List.mem_iff_getElem?.mp ha
    obtain ⟨t, x, _, q⟩ := m.at_ j a hj
    exact Heap.lt_size (k a ha _ q), fun j a hj => by
    obtain ⟨t, x, p, q⟩ := m.at_ j a hj
    exact ⟨t, x, p, k a (List.mem_iff_getElem?.mpr ⟨j, hj⟩) _ q⟩⟩
theorem en_loop {R : Result → Shared → Prop} {S : Addr} {gs : Array GenState} {res : Value} {h0 : Heap} (D : Draws prog w A.in1.in1 it fp n P St) (hne : e ≠ it) (hef : e ∉ fp) (hSe : S ≠ e) (hSi : S ≠ it) (hSf : S ∉ fp) (hn : n ≤ sizeLine)
    (lo : Addr) (heS : e < lo ∧ it < lo ∧ S < lo)
    (hR : ∀ h' tk acc c as, (∀ b o, b ≠ S → b ≠ e → b ≠ it → h0.get? b = some o → h'.get? b = some o) → h'.get? S = some { cls := .type "list", dict := none, data := .seq acc c, slots := #[] } → as.length = n → Made P lo h' as → acc.toList = as.map Value.ref → R (.ok (.ret res)) { s with heap := h', toks := tk }) :
    ∀ (k i : Nat) (h : Heap) (tk c : Nat) (acc : Array Value) (as : List Addr) (g0 : Value) (g1 : Bool) (y : Value), n - i = k → i ≤ n → ZF g0 → ERec h e it (i : Int) g0 g1 y → St i h → (∀ b o, b ≠ S → b ≠ e → b ≠ it → h0.get? b = some o → h.get? b = some o) → lo ≤ h.objs.size →
      h.get? S = some { cls := .type "list", dict := none, data := .seq acc c, slots := #[] } → acc.toList = as.map Value.ref → as.length = i → Made P lo h as →
      codeAny (model prog w) A (.builtin "list.extend.loop" ⟨[.ref S, .ref e, res], []⟩) R { s with heap := h, toks := tk } := by
  intro k
  induction k with
  | zero =>
    intro i h tk c acc as g0 g1 y hk hi zg eg st kp hlo hS hacc hal hm
    have hin : i = n := by omega
    subst hin
    refine codeAny_builtin PySem.F.entry_extend_loop ?_
    rw [Around.under_plainId PySem.F.plain_extend_loop _]
    show wpAny _ A.in1 (pyNext (.ref e) >>= _) _ _ _
    refine wpAny_bind (pyNext_en_end (s := { s with heap := h, toks := tk }) (A := A.in1) D eg st fun h' tk' kp' => ?_)
    refine wpAny_pure (hR h' tk' acc c as (fun b o h1 h2 h3 q => kp' b o h2 h3 (kp b o h1 h2 h3 q)) (kp' S _ hSe hSi hS) hal (hm.keep fun a ha o q => ?_) hacc)
    exact kp' a o (Nat.ne_of_gt (Nat.lt_of_lt_of_le heS.1 (hm.above a ha))) (Nat.ne_of_gt (Nat.lt_of_lt_of_le heS.2.1 (hm.above a ha))) q
  | succ k ih =>
    intro i h tk c acc as g0 g1 y hk hi zg eg st kp hlo hS hacc hal hm
    have hlt : i < n := by omega
    have hsz : acc.size = i := by rw [← Array.length_toList, hacc, List.length_map, hal]
    refine codeAny_builtin PySem.F.entry_extend_loop ?_
    rw [Around.under_plainId PySem.F.plain_extend_loop _]
    show wpAny _ A.in1 (pyNext (.ref e) >>= _) _ _ _
    refine wpAny_bind (pyNext_en (s := { s with heap := h, toks := tk }) (A := A.in1) D eg zg st hlt hne hef fun x h' tk' t g0' g1' y' hP zg' eg' st' ht hz kp' => ?_)
    dsimp only at ht hz kp' ⊢
    have hS' := kp' S _ hSe hSi hS
    have up : ∀ b o, b ≠ S → h'.get? b = some o → (h'.update S (Obj.mapSeq (·.push (Value.ref h.objs.size)))).get? b = some o := fun b o hb q => (Heap.get?_update_other _ _ (Ne.symm hb)).trans q
    have hSl : S < h.objs.size := Heap.lt_size hS
    have szu : (h'.update S (Obj.mapSeq (·.push (Value.ref h.objs.size)))).objs.size = h.objs.size + 1 := by rw [Heap.size_update, hz]
    show wpAny _ A.in1 (updateSeq S (·.push (Value.ref h.objs.size)) >>= _) _ _ _
    refine wpAny_bind ?_
    refine wpAny_updateSeq hS' rfl (wpAny_pure ⟨plainId_quiet PySem.F.plain_extend_loop _, ih (i + 1) _ tk' _ (acc.push (Value.ref h.objs.size)) (as ++ [h.objs.size]) g0' g1' y' (by omega) hlt zg' ?_ (D.frame _ _ _ st' fun b hb o q => up b o (fun z => hSf (z ▸ hb)) q)
      (fun b o h1 h2 h3 q => up b o h1 (kp' b o h2 h3 (kp b o h1 h2 h3 q))) (by rw [szu]; exact Nat.le_succ_of_le hlo) (Heap.get?_update_self _ hS' rfl) (by rw [Array.toList_push, hacc, List.map_append]; rfl) (by rw [List.length_append, hal]; rfl) ?_⟩) (by rw [hsz]; omega) (by show (acc.push (Value.ref h.objs.size)).size ≤ sizeLine + 1; rw [Array.size_push, hsz]; omega)
    · have q := up e _ (Ne.symm hSe) eg'
      have z : (((i + 1 : Nat) : Int)) = (i : Int) + 1 := by omega
      rw [z]
      exact q
    · have mk := hm.keep (h' := h'.update S (Obj.mapSeq (·.push (Value.ref h.objs.size)))) fun a ha o q => by
        exact up a o (Nat.ne_of_gt (Nat.lt_of_lt_of_le heS.2.2 (hm.above a ha))) (kp' a o (Nat.ne_of_gt (Nat.lt_of_lt_of_le heS.1 (hm.above a ha))) (Nat.ne_of_gt (Nat.lt_of_lt_of_le heS.2.1 (hm.above a ha))) q)
      refine ⟨List.pairwise_append.mpr ⟨mk.rise, List.pairwise_singleton _ _, fun a ha b hb => ?_⟩, fun a ha => ?_, fun a ha => ?_, fun j a hj => ?_⟩
      · rw [List.mem_singleton.mp hb]
        exact hm.there a ha
      · rcases List.mem_append.mp ha with ha | ha
        · exact mk.above a ha
        · rw [List.mem_singleton.mp ha]
          exact hlo
      · rcases List.mem_append.mp ha with ha | ha
        · exact mk.there a ha
        · rw [List.mem_singleton.mp ha, szu]
          exact Nat.lt_succ_self _
      · rcases get_snoc' hj with ⟨_, hj⟩ | ⟨rfl, rfl⟩
        · exact mk.at_ j a hj
        · rw [hal]
          exact ⟨t, x, hP, up _ _ (Nat.ne_of_gt hSl) ht⟩
theorem nolen_en : typeLookup (.type "enumerate") "__len__" = pure none := by rw [typeLookup_type, builtinLookup_eq_fast]; kernel_rfl
theorem nohint_en : typeLookup (.type "enumerate") "__length_hint__" = pure none := by rw [typeLookup_type, builtinLookup_eq_fast]; kernel_rfl
theorem en_collect {R : List Value → Shared → Prop} {y0 : Value} (D : Draws prog w A.in1.in1 it fp n P St) (hne : e ≠ it) (hef : e ∉ fp) (hfp : ∀ b ∈ fp, b < s.heap.objs.size) (hn : n ≤ sizeLine) (he : IsEnum s.heap e it 0 y0) (hit : it < s.heap.objs.size) (st : St 0 s.heap)
    (h : ∀ (h' : Heap) (tk : Nat) (as : List Addr), (∀ b o, b ≠ e → b ≠ it → s.heap.get? b = some o → h'.get? b = some o) → as.length = n → Made P s.heap.objs.size h' as → R (as.map Value.ref) { s with heap := h', toks := tk }) :
    wpAny (model prog w) A (collect (.ref e)) R E s := by
  have hel : e < s.heap.objs.size := Heap.lt_size he
  have hSe : s.heap.objs.size ≠ e := Nat.ne_of_gt hel
  have hSi : s.heap.objs.size ≠ it := Nat.ne_of_gt hit
  have hSf : s.heap.objs.size ∉ fp := fun hm => Nat.lt_irrefl _ (hfp _ hm)
  unfold collect
  refine wpAny_bind (wpAny_runValue (codeAny_builtin F.entry_proto_collect ?_))
  rw [Around.under_plainId F.plain_proto_collect _]
  show wpAny _ A.in1 (newList [] >>= fun l => again (.builtin "list.__iadd__" ⟨[l, .ref e], []⟩)) _ _ s
  refine wpAny_bind (wpAny_newObj_type ?_)
  refine wpAny_pure ⟨plainId_quiet F.plain_list_iadd _, codeAny_builtin F.entry_list_iadd ?_⟩
  rw [Around.under_plainId F.plain_list_iadd _]
  have kp1 : ∀ b o, s.heap.get? b = some o → (s.heap.push { cls := .type "list", data := .seq ([] : List Value).toArray }).get? b = some o := fun b o q => Heap.get?_push_of_some _ q
  have he1 : IsEnum (s.heap.push { cls := .type "list", data := .seq ([] : List Value).toArray }) e it 0 y0 := kp1 _ _ he
  have st1 : St 0 (s.heap.push { cls := .type "list", data := .seq ([] : List Value).toArray }) := D.frame _ _ _ st fun b _ o q => kp1 b o q
  have hS1 : (s.heap.push { cls := .type "list", data := .seq ([] : List Value).toArray }).get? s.heap.objs.size = some { cls := .type "list", data := .seq #[] } := Heap.get?_push_size _ rfl
  have sz1 : (s.heap.push { cls := .type "list", data := .seq ([] : List Value).toArray }).objs.size = s.heap.objs.size + 1 := Heap.size_push ..
  show wpAny _ A.in1 (Builtin.List.listExtendWith (.ref s.heap.objs.size) (.ref e) (.ref s.heap.objs.size)) _ _ _
  generalize hh1 : s.heap.push { cls := .type "list", data := .seq ([] : List Value).toArray } = g1 at kp1 he1 st1 hS1 sz1
  have ty : (⟨g1, s.gens, s.drawn, s.toks, s.os⟩ : Shared).TypeIs (.ref e) "enumerate" := ⟨_, he1, rfl⟩
  unfold Builtin.List.listExtendWith
  refine wpAny_bind (wpAny_typeOf ty ?_)
  have q1 : Builtin.List.listSameRef (.ref s.heap.objs.size) (.ref e) = false := by simp [Builtin.List.listSameRef, hSe]
  have q2 : (Value.type "enumerate" == Value.type "list") = false := by decide
  have q3 : (Value.type "enumerate" == Value.type "tuple") = false := by decide
  simp only [q1, q2, q3, Bool.or_false, Bool.false_eq_true, if_false]
  refine wpAny_bind (wpAny_pyIter_enum he1 ?_)
  refine wpAny_bind (wpAny_holding ?_)
  unfold Builtin.List.listLengthHint
  refine wpAny_bind (wpAny_specialOf ty nolen_en ?_)
  show wpAny _ A.in1 (specialOf (Value.ref e) (Str.ofString "__length_hint__") >>= _) _ _ _
  refine wpAny_bind (wpAny_specialOf ty nohint_en ?_)
  refine wpAny_pure ?_
  show wpAny _ A.in1 (rule "list.extend.makes-room" >>= fun _ => Builtin.List.listTouch (.ref s.heap.objs.size) >>= fun _ =>
    again (.builtin "list.extend.loop" ⟨[.ref s.heap.objs.size, .ref e, .ref s.heap.objs.size], []⟩)) _ _ _
  refine wpAny_bind (wpAny_rule (wpAny_bind ?_))
  show wpAny _ A.in1 (updateSeq s.heap.objs.size (·.push .none) >>= fun _ => updateSeq s.heap.objs.size (·.pop)) _ _ _
  refine wpAny_bind (wpAny_updateSeq hS1 rfl ?_)
  have hS2 := Heap.get?_update_self (Obj.mapSeq (·.push Value.none)) hS1 rfl
  refine wpAny_updateSeq (hz := by seq_fits) hS2 rfl ?_
  have hS3 := Heap.get?_update_self (Obj.mapSeq (·.pop)) hS2 rfl
  have oth : ∀ b o, b ≠ s.heap.objs.size → g1.get? b = some o → ((g1.update s.heap.objs.size (Obj.mapSeq (·.push Value.none))).update s.heap.objs.size (Obj.mapSeq (·.pop))).get? b = some o := fun b o hb q => (Heap.get?_update_other _ _ (Ne.symm hb)).trans ((Heap.get?_update_other _ _ (Ne.symm hb)).trans q)
  refine wpAny_pure ⟨plainId_quiet F.plain_extend_loop _, en_loop (A := A) (gs := s.gens) (h0 := s.heap) (s := s) D hne hef hSe hSi hSf hn (s.heap.objs.size + 1) ⟨Nat.lt_succ_of_lt hel, Nat.lt_succ_of_lt hit, Nat.lt_succ_self _⟩ (fun h' tk acc c as kp hS hl hm hacc => ?_) n 0 _ s.toks _ #[] [] .none false y0 (Nat.sub_zero _) (Nat.zero_le _) (.inl rfl) (oth e _ (Ne.symm hSe) he1) (D.frame _ _ _ st1 fun b hb o q => oth b o (fun z => hSf (z ▸ hb)) q) (fun b o h1 h2 h3 q => oth b o h1 (kp1 b o q)) ?_ hS3 rfl rfl ⟨List.Pairwise.nil, fun a ha => (nomatch ha), fun a ha => (nomatch ha), fun j a hj => by simp at hj⟩⟩
  · show wpAny _ A (load s.heap.objs.size >>= _) _ _ _
    refine wpAny_bind (wpAny_load hS (wpAny_pure ?_))
    show R acc.toList _
    rw [hacc]
    exact h h' tk as (fun b o h1 h2 q => kp b o (Nat.ne_of_lt (Heap.lt_size q)) h1 h2 q) hl ⟨hm.rise, fun a ha => Nat.le_of_succ_le (hm.above a ha), hm.there, hm.at_⟩
  · rw [Heap.size_update, Heap.size_update, sz1]
    exact Nat.le_refl _
/-- tuple(e), e an enumerate -/
theorem code_tuple_en {Q₁ : Value → Shared → Prop} {y0 : Value} (D : Draws prog w A.in1.in1.in1 it fp n P St) (hne : e ≠ it) (hef : e ∉ fp) (hfp : ∀ b ∈ fp, b < s.heap.objs.size) (hn : n ≤ sizeLine) (he : IsEnum s.heap e it 0 y0) (hit : it < s.heap.objs.size) (st : St 0 s.heap)
    (h : ∀ (h' : Heap) (tk : Nat) (as : List Addr), (∀ b o, b ≠ e → b ≠ it → s.heap.get? b = some o → h'.get? b = some o) → as.length = n → Made P s.heap.objs.size h' as → Q₁ (.ref h'.objs.size) { s with heap := h'.push { cls := .type "tuple", data := .seq (as.map Value.ref).toArray }, toks := tk }) :
    codeAny (model prog w) A (.call (.builtin "tuple.__new__") ⟨[.type "tuple", .ref e], []⟩) (wants Q₁ E) s := by
  refine codeAny_of_tree ?_
  show wpAny _ A.in1 (do checkBuiltinCall "tuple.__new__" ⟨[.type "tuple", .ref e], []⟩; again (.builtin "tuple.__new__" ⟨[.type "tuple", .ref e], []⟩)) _ _ s
  refine wpAny_bind (wpAny_of_eq (F.newCall_tuple_1 _) (wpAny_pure ⟨plainId_quiet F.plain_tuple_new _, codeAny_builtin F.entry_tuple_new ?_⟩))
  rw [Around.under_plainId F.plain_tuple_new _]
  have hsub := sub_tuple_self
  have hinit := init_tuple_lookup
  have hmh := madeHere_tuple
  have hTI : s.TypeIs (.ref e) "enumerate" := ⟨_, he, rfl⟩
  have col : ∀ {R : List Value → Shared → Prop} {E : Value → Shared → Prop}, (∀ (h' : Heap) (tk : Nat) (as : List Addr), (∀ b o, b ≠ e → b ≠ it → s.heap.get? b = some o → h'.get? b = some o) → as.length = n → Made P s.heap.objs.size h' as → R (as.map Value.ref) { s with heap := h', toks := tk }) → wpAny (model prog w) A.in1 (collect (.ref e)) R E s :=
    fun q => en_collect (A := A.in1) D hne hef hfp hn he hit st q
  wp_walk using wpAny_typeOf hTI, col
  intro h' tk as hk hl hm
  show wpAny _ _ (Builtin.Tuple.tupleExact (as.map Value.ref).toArray >>= fun v => ret v) _ _ _
  unfold Builtin.Tuple.tupleExact
  refine wpAny_bind (wpAny_newObj_type ?_ (by show (as.map Value.ref).toArray.size ≤ sizeLine; rw [List.size_toArray, List.length_map, hl]; exact hn))
  exact wpAny_pure (h h' tk as hk hl hm)
theorem call_tuple_en {Q : Value → Shared → Prop} {y0 : Value} (D : Draws prog w A.in1.in1.in1.in1 it fp n P St) (hne : e ≠ it) (hef : e ∉ fp) (hfp : ∀ b ∈ fp, b < s.heap.objs.size) (hn : n ≤ sizeLine) (he : IsEnum s.heap e it 0 y0) (hit : it < s.heap.objs.size) (st : St 0 s.heap)
    (h : ∀ (h' : Heap) (tk : Nat) (as : List Addr), (∀ b o, b ≠ e → b ≠ it → s.heap.get? b = some o → h'.get? b = some o) → as.length = n → Made P s.heap.objs.size h' as → Q (.ref h'.objs.size) { s with heap := h'.push { cls := .type "tuple", data := .seq (as.map Value.ref).toArray }, toks := tk }) :
    wpAny (model prog w) A (call (.type "tuple") [.ref e]) Q E s := by
  refine callType_codes (Q₁ := fun obj s₁ => s₁.TypeIs obj "tuple" ∧ Q obj s₁) F.called_tuple (F.typeCall_tuple_1 _) F.entry_object_init
    (code_tuple_en (A := A.in1) D hne hef hfp hn he hit st fun h' tk as hk hl hm => ⟨⟨_, Heap.get?_push_size _ rfl, rfl⟩, h h' tk as hk hl hm⟩) fun obj s₁ h₁ => ?_
  exact ⟨h₁.1, F.args_object_init_2 obj _, object_init_meets F.called_tuple.init.lookup F.called_tuple.made (by decide) prog w A.in1 _ s₁ ⟨h₁.1, rfl, h₁.2⟩⟩
end
end DL
namespace DL
open PySem PySem.Spec PyProof.Rows L2
variable [HasT]
theorem meets_enum1 {v : Value} {o : Obj} {Hb : Heap → Prop} (B : Begins v o Hb) :
    Meets (Builtin.«enumerate.__new__» ⟨[.type "enumerate", v], []⟩) (fun _ R s => Hb s.heap ∧
      R (.ok (.ret (.ref (s.heap.push o).objs.size))) { s with heap := (s.heap.push o).push { cls := .type "enumerate", data := .fields #[.none, .bool false, .ref s.heap.objs.size, rawInt 0, .none, .none] } }) :=
  .of_wp fun prog w A R s h => by
    obtain ⟨hp, gs, dr, tk, os⟩ := s
    obtain ⟨h1, h⟩ := h
    have hsub := sub_enumerate
    have q1 : ∀ {A' : Around} {E : Value → Shared → Prop} {Q : Value → Shared → Prop}, Q (.ref hp.objs.size) ⟨hp.push o, gs, dr, tk, os⟩ → wpAny (model prog w) A' (pyIter v) Q E ⟨hp, gs, dr, tk, os⟩ :=
      fun q => B.iter prog w _ _ ⟨hp, gs, dr, tk, os⟩ _ h1 q
    wp_walk using q1
    refine wpAny_stack_any fun st => wpAny_pure ?_
    split
    · rename_i c _ _ _ _ _
      cases (c == Value.type "enumerate")
      · wp_walk using q1
        exact ⟨_, rfl, h⟩
      · wp_walk using q1
        exact ⟨_, rfl, h⟩
    · wp_walk using q1
      exact ⟨_, rfl, h⟩
theorem build_all {h : Heap} {G : Nat → List V → Prop} : ∀ (as : List Addr) (k : Nat), (∀ (j : Nat) (a : Addr), as[j]? = some a → ∃ us vs, h.get? a = some (obT us) ∧ Vals vs us ∧ G (k + j) vs) →
    ∃ tl : List (Addr × List Value × List V), tl.map (·.1) = as ∧ (∀ t ∈ tl, h.get? t.1 = some (obT t.2.1) ∧ Vals t.2.2 t.2.1) ∧ ∀ (j : Nat) (a : Addr), as[j]? = some a → ∃ us vs, (a, us, vs) ∈ tl ∧ G (k + j) vs
  | [], _, _ => ⟨[], rfl, (fun t ht => by cases ht), (fun j a ha => by simp at ha)⟩
  | a :: as, k, hh => by
    obtain ⟨tl, t1, t2, t3⟩ := build_all as (k + 1) fun j b hb => by
      obtain ⟨us, vs, h1, h2, h3⟩ := hh (j + 1) b (by simpa using hb)
      exact ⟨us, vs, h1, h2, by rw [show k + 1 + j = k + (j + 1) by omega]; exact h3⟩
    obtain ⟨us, vs, u1, u2, u3⟩ := hh 0 a rfl
    refine ⟨(a, us, vs) :: tl, by rw [List.map_cons, t1], fun t ht => ?_, fun j b hb => ?_⟩
    · rcases List.mem_cons.mp ht with rfl | ht
      · exact ⟨u1, u2⟩
      · exact t2 t ht
    · cases j with
      | zero =>
        simp at hb
        subst hb
        exact ⟨us, vs, List.mem_cons_self, u3⟩
      | succ j =>
        obtain ⟨us', vs', m1, m2⟩ := t3 j b (by simpa using hb)
        exact ⟨us', vs', List.mem_cons_of_mem _ m1, by rw [show k + (j + 1) = k + 1 + j by omega]; exact m2⟩
theorem relDs_ix {K : PySem.W.Frag} {H : Hp} {A : List Addr} : ∀ {ds : List D} {vs : List V}, ds.length = vs.length → (∀ (j : Nat) (d : D) (v : V), ds[j]? = some d → vs[j]? = some v → RelD K H A d v) → RelDs K H A ds vs
  | [], [], _, _ => rfl
  | [], _ :: _, h, _ => by cases h
  | _ :: _, [], h, _ => by cases h
  | d :: ds, v :: vs, h, hh => ⟨v, vs, rfl, hh 0 d v rfl rfl, relDs_ix (Nat.succ.inj h) fun j d' v' h1 h2 => hh (j + 1) d' v' (by simpa using h1) (by simpa using h2)⟩
def enumD (xs : List D) : List D := (List.range xs.length).map fun (i : Nat) => D.tup [.int (i : Int), xs.getD i .non]
def dTEnum (t : DA) : DE := fun ρ S post => t ρ S fun ds S1 => ∃ x xs, ds = [x] ∧ seqOf S1 x xs ∧ xs.length ≤ 100000 ∧ post (.tup (enumD xs)) S1
theorem de_tupEnum {X : Cx} {e1 : Expr} {t : DA} {p p2 pos pos2 : Pos} (hc : X.calm = true) (hg : Gl X "tuple") (hm : X.mg "tuple" = none) (hge : Gl X "enumerate") (hme : X.mg "enumerate" = none) (ha : PA X [e1] (liftA X.K t))
    (hs : starEach [e1] X.env = (false, eval e1 X.env) :: starEach [] X.env := by rfl)
    (hs2 : starEach [.Call (.Name "enumerate" p2) [e1] [] pos2] X.env = (false, eval (.Call (.Name "enumerate" p2) [e1] [] pos2) X.env) :: starEach [] X.env := by rfl) :
    PE X (.Call (.Name "tuple" p) [.Call (.Name "enumerate" p2) [e1] [] pos2] [] pos) (liftE X.K (dTEnum t)) := by
  refine ⟨fun pins s σ H Q I ⟨A, ρ, S, post, n, rs, h, k⟩ => ?_⟩
  refine Call_ (ld_blt I hg hm PyProof.Rows.boot_tuple ?_)
  refine PyProof.Rows.callWith_type1 (PyProof.Rows.args_cons ?_ hs2) hs2 rfl
  refine Call_ (ld_blt I hge hme PyProof.Rows.boot_enumerate (PyProof.Rows.callWith_type1 (thn (ha.run pos2 pins s σ H (fun vs H1 => ∃ a A1 S1 x xs, vs = [.ref a] ∧ Ext H A H1 A1 ∧ Src X.K x a xs H1 A1 S1 ∧ xs.length ≤ 100000 ∧ post (.tup (enumD xs)) S1) I
    ⟨A, ρ, S, _, n, rs, h, fun vs H1 A1 ds S1 e s1 r hh => ?_⟩) fun us s1 ⟨vs, H1, I1, r1, q1⟩ => ?_) hs rfl))
  · obtain ⟨x, xs, rfl, q1, hl, hp⟩ := hh
    obtain ⟨v1, rfl, r1⟩ := rels1 r
    obtain ⟨a, rfl⟩ := seq_ref s1 q1 r1
    exact ⟨a, A1, S1, x, xs, rfl, e, ⟨s1, r1, q1⟩, hl, hp⟩
  · obtain ⟨a, A1, S1, x, xs, rfl, e, c1, hl, hp⟩ := q1
    cases r1 with
    | cons w1 r1 =>
      cases r1
      cases w1
      obtain ⟨t1, vs1, rv1, rd1, p1, m1⟩ := src_inv I1 c1
      have la := c1.lt I1
      refine callType_new F.called_enumerate (by decide) (F.typeCall_enumerate_1 _) (F.newCall_enumerate_1 _) (fun obj => F.args_object_init_2 obj _) F.entry_enumerate_new (meets_enum1 (sbegins (kindD x) a t1.toArray)) ⟨p1, ?_⟩
      have sz1 : (s1.heap.push (sobj (kindD x) a)).objs.size = s1.heap.objs.size + 1 := Heap.size_push ..
      have kp1 : ∀ c o, s1.heap.get? c = some o → ((s1.heap.push (sobj (kindD x) a)).push { cls := .type "enumerate", data := .fields #[.none, .bool false, .ref s1.heap.objs.size, rawInt 0, .none, .none] }).get? c = some o := fun c o q => Heap.get?_push_of_some _ (Heap.get?_push_of_some _ q)
      have hE : IsEnum ((s1.heap.push (sobj (kindD x) a)).push { cls := .type "enumerate", data := .fields #[.none, .bool false, .ref s1.heap.objs.size, rawInt 0, .none, .none] }) (s1.heap.push (sobj (kindD x) a)).objs.size s1.heap.objs.size 0 .none := Heap.get?_push_size _ rfl
      have hI : ((s1.heap.push (sobj (kindD x) a)).push { cls := .type "enumerate", data := .fields #[.none, .bool false, .ref s1.heap.objs.size, rawInt 0, .none, .none] }).get? s1.heap.objs.size = some (sobj (kindD x) a) := Heap.get?_push_of_some _ (Heap.get?_push_size _ (by unfold sobj Obj.isFreed; cases kindD x <;> rfl))
      have sz2 : ((s1.heap.push (sobj (kindD x) a)).push { cls := .type "enumerate", data := .fields #[.none, .bool false, .ref s1.heap.objs.size, rawInt 0, .none, .none] }).objs.size = s1.heap.objs.size + 1 + 1 := by rw [Heap.size_push, sz1]
      generalize (s1.heap.push (sobj (kindD x) a)).push { cls := .type "enumerate", data := .fields #[.none, .bool false, .ref s1.heap.objs.size, rawInt 0, .none, .none] } = h2 at kp1 hE hI sz2 ⊢
      rw [sz1] at hE ⊢
      refine ⟨⟨_, hE, rfl⟩, PyProof.Rows.args_nil ?_⟩
      have I2 : Inv X pins σ H1 { s1 with heap := h2 } := I1.kept (t' := s1.toks) kp1
      obtain ⟨_, _, _, _, p2, _⟩ := src_inv I2 c1
      have hne : s1.heap.objs.size + 1 ≠ s1.heap.objs.size := Nat.succ_ne_self _
      have hef : (s1.heap.objs.size + 1 : Addr) ∉ [s1.heap.objs.size, a] := fun hm => by
        have hm' : (s1.heap.objs.size + 1 : Addr) = s1.heap.objs.size ∨ (s1.heap.objs.size + 1 : Addr) = a := by simpa using hm
        rcases hm' with q | q
        · exact hne q
        · rw [← q] at la
          exact absurd la (Nat.not_lt.mpr (Nat.le_succ _))
      have hfp : ∀ b ∈ [s1.heap.objs.size, a], b < h2.objs.size := fun b hb => by
        have hb' : b = s1.heap.objs.size ∨ b = a := by simpa using hb
        rw [sz2]
        rcases hb' with rfl | rfl
        · exact Nat.lt_succ_of_lt (Nat.lt_succ_self _)
        · exact Nat.lt_succ_of_lt (Nat.lt_succ_of_lt la)
      have hsob : SOb (kindD x) h2 a t1.toArray := (sbegins (kindD x) a t1.toArray).keeps _ _ p1 kp1
      have hnl : t1.toArray.size ≤ sizeLine := by
        rw [List.size_toArray, m1]
        exact le_line hl
      have Dw := sdraws (prog := X.prog) (w := X.w) (A := X.A.in1.in1.in1.in1) (kindD x) (I.ok.hd hc) s1.heap.objs.size a (Nat.ne_of_lt la) t1.toArray
      refine call_tuple_en (s := { s1 with heap := h2 }) (A := X.A) Dw hne hef hfp hnl hE (by show s1.heap.objs.size < h2.objs.size; rw [sz2]; exact Nat.lt_succ_of_lt (Nat.lt_succ_self _)) ⟨sit_start hI, hsob⟩ fun h' tk as kp las hm => ?_
      have nlt : ∀ b o, s1.heap.get? b = some o → h'.get? b = some o := fun b o q => kp b o (Nat.ne_of_lt (Nat.lt_succ_of_lt (Heap.lt_size q))) (Nat.ne_of_lt (Heap.lt_size q)) (kp1 b o q)
      have nltP : ∀ b o, s1.heap.get? b = some o → (h'.push { cls := .type "tuple", data := .seq (as.map Value.ref).toArray }).get? b = some o := fun b o q => Heap.get?_push_of_some _ (nlt b o q)
      have tn : s1.heap.get? h'.objs.size = none := by
        cases z : s1.heap.get? h'.objs.size with
        | none => rfl
        | some o => exact absurd (Heap.lt_size (nlt _ _ z)) (Nat.lt_irrefl _)
      have tn1 : H1 h'.objs.size = none := HOk.gone I1.hok tn
      have hT : (h'.push { cls := .type "tuple", data := .seq (as.map Value.ref).toArray }).get? h'.objs.size = some (obT (as.map Value.ref)) := Heap.get?_push_size _ rfl
      have zT : (as.map V.ref).length ≤ sizeLine := by rw [List.length_map, las]; exact hnl
      have I3 : Inv X pins σ (upd H1 h'.objs.size (.frz (obT (as.map Value.ref)) (.tup (as.map V.ref)))) { s1 with heap := h'.push { cls := .type "tuple", data := .seq (as.map Value.ref).toArray }, toks := tk } :=
        Inv.laidN I1 nltP tn tn1 ⟨hT, zT, as.map Value.ref, LiI.vals_refs as, ⟨_, hT, rfl, _, rfl⟩⟩
      have nd : as.Nodup := List.Pairwise.imp (fun {a b} (h : a < b) => Nat.ne_of_lt h) hm.rise
      have tna : h'.objs.size ∉ as := fun z => Nat.lt_irrefl _ (hm.there _ z)
      have vl : vs1.length = t1.length := rv1.length
      -- the pairs
      have facts : ∀ (j : Nat) (b : Addr), as[j]? = some b → ∃ us v d, h'.get? b = some (obT us) ∧ Vals [V.int (j : Int), v] us ∧ xs[j]? = some d ∧ RelD X.K H1 A1 d v := fun j b hj => by
        obtain ⟨t, y, hy, q⟩ := hm.at_ j b hj
        have hy' : t1[j]? = some y := by simpa using hy
        obtain ⟨v, d, ru, hd, rd⟩ := src_item rv1 rd1 (by simpa using hy)
        exact ⟨[.int (j : Int) t, y], v, d, q, .cons ⟨t, rfl⟩ (.cons ru .nil), hd, rd⟩
      obtain ⟨tl, l1, l2, l3⟩ := build_all (h := h'.push { cls := .type "tuple", data := .seq (as.map Value.ref).toArray }) (G := fun j vs => ∃ v d, vs = [V.int (j : Int), v] ∧ xs[j]? = some d ∧ RelD X.K H1 A1 d v) as 0 fun j b hj => by
        obtain ⟨us, v, d, g1, g2, g3, g4⟩ := facts j b hj
        exact ⟨us, _, Heap.get?_push_of_some _ g1, g2, v, d, by rw [Nat.zero_add], by rw [Nat.zero_add]; exact g3, g4⟩
      have two : ∀ t ∈ tl, t.2.2.length = 2 := fun t ht => by
        have hta : t.1 ∈ as := by rw [← l1]; exact List.mem_map.mpr ⟨t, ht, rfl⟩
        obtain ⟨j, hj⟩ := List.mem_iff_getElem?.mp hta
        obtain ⟨us, v, d, g1, g2, _⟩ := facts j _ hj
        obtain ⟨h1, h2⟩ := l2 t ht
        rw [Heap.get?_push_of_some _ g1] at h1
        have e2 : us = t.2.1 := by
          have := Option.some.inj h1
          have q : (obT us).data = (obT t.2.1).data := by rw [this]
          have q2 : us.toArray = t.2.1.toArray := by
            injection q
          exact List.toArray_inj q2
        rw [h2.length, ← e2, ← g2.length]
        rfl
      obtain ⟨H', I4, k1, k2, k3⟩ := track_all I1 tl I3 (fun t ht => by
        have hta : t.1 ∈ as := by rw [← l1]; exact List.mem_map.mpr ⟨t, ht, rfl⟩
        obtain ⟨g1, g2⟩ := l2 t ht
        have hge : s1.heap.objs.size ≤ t.1 := by
          have := hm.above t.1 hta
          have this' : h2.objs.size ≤ t.1 := this
          rw [sz2] at this'
          exact Nat.le_of_succ_le (Nat.le_of_succ_le this')
        refine ⟨hge, ?_, g1, g2, by rw [two t ht]; decide⟩
        rw [upd_ne (fun z => tna (by rw [← z]; exact hta))]
        exact I1.hok.fresh hge) (by rw [l1]; exact nd)
      have keep : ∀ b o, H1 b = some o → H' b = some o := fun b o q => k1 b o (by rw [upd_ne (ne_of_none q tn1)]; exact q)
      have e2 : Ext H1 A1 H' A1 := Ext.same keep
      have rds : RelDs X.K H' A1 (enumD xs) (as.map V.ref) := by
        refine relDs_ix (by simp [enumD, las, m1]) fun j d v h1 h2 => ?_
        have hj : j < xs.length := by
          have := (List.getElem?_eq_some_iff.mp h1).1
          simpa [enumD] using this
        have hd : d = .tup [.int (j : Int), xs.getD j .non] := by
          unfold enumD at h1
          rw [List.getElem?_map, List.getElem?_range hj] at h1
          exact (Option.some.inj h1).symm
        have hja : j < as.length := by rw [las, List.size_toArray, m1]; exact hj
        have hjs : as[j]? = some as[j] := List.getElem?_eq_getElem hja
        rw [List.getElem?_map, hjs] at h2
        have hv : v = V.ref as[j] := (Option.some.inj h2).symm
        obtain ⟨us, vs, hmem, w, d', q1, q2, q3⟩ := l3 j _ hjs
        rw [Nat.zero_add] at q1 q2
        subst hd hv q1
        have hx : xs.getD j .non = d' := by rw [List.getD_eq_getElem?_getD, q2]; rfl
        rw [hx]
        exact ⟨as[j], _, rfl, .inl ⟨obT us, k3 _ hmem, rfl⟩, ⟨_, _, rfl, rfl, ⟨_, _, rfl, q3.ext e2, rfl⟩⟩⟩
      exact ⟨.ref h'.objs.size, H', I4, rfl, k (.ref h'.objs.size) H' A1 (.tup (enumD xs)) S1 (e.trans e2) (c1.rs.same keep) ⟨h'.objs.size, as.map V.ref, rfl, .inl ⟨_, k1 _ _ upd_same, rfl⟩, rds⟩ hp⟩
end DL
namespace DL
open PySem PySem.Spec PyProof.Rows L2
variable [HasT]
theorem units65 {k : Nat} {A : Around} (r : Room k A) : A.units + 65 < cLine := by
  have := r.un
  omega
end DL
/-! ZJ: a name set to a comprehension. -/
namespace DL
open PySem PySem.Spec PyProof.Rows L2
variable [HasT]
section
variable {X : Cx} {i : Nat} {y : Str} {py pos spos : Pos} {tg iter kx vx elt : Expr} {ifs : List Expr} {scope : Scope} {own : List (Str × Nat)}
theorem ps_setDc {wi : TI} {g : TG} {tt : TT} {tk tv : TE} (hc : X.calm = true) (hN : X.N.Nodup) (hy : X.N[i]? = some y) (hyl : X.env.scope.names.lookup y = some .local)
    (hsw : swapsWith (.DictComp kx vx [⟨tg, iter, ifs, 0⟩] scope pos) (some (.Name y py)) spos.line X.env = pure true) (hi : PI X tg iter wi) (ok : BlkOk X.N X.env.scope scope own)
    (hg : ∀ (s : Shared) (H : Hp) (C : Addr) (cl : List (Str × Addr)) (fp : List Addr), PG (X.blk s H scope (compEnvC scope cl C X.env) fp) tg g) (ht : ∀ (s : Shared) (H : Hp) (C : Addr) (cl : List (Str × Addr)) (fp : List Addr), PTs (X.blk s H scope (compEnvC scope cl C X.env) fp) ifs tt)
    (hk : ∀ (s : Shared) (H : Hp) (C : Addr) (cl : List (Str × Addr)) (fp : List Addr), PE (X.blk s H scope (compEnvC scope cl C X.env) fp) kx tk) (he : ∀ (s : Shared) (H : Hp) (C : Addr) (cl : List (Str × Addr)) (fp : List Addr), PE (X.blk s H scope (compEnvC scope cl C X.env) fp) vx tv)
    (hs : ∀ x, foldedSetIterable iter X.env x = pure x) : PS X (.Assign [.Name y py] (.DictComp kx vx [⟨tg, iter, ifs, 0⟩] scope pos) spos) (tAsg (tDc wi g tt tk tv (own.map (·.2))) (L2.gName i)) := by
  refine ⟨fun pins s σ H Dn I w => ?_⟩
  rw [exec_Assign_Name_used _ _ _ _ hsw]
  refine wpAny_bind (wpAny_standAt (wpAny_bind ?_))
  show wpAny _ X.A (do let _ ← comprehension (.DictComp kx vx [⟨tg, iter, ifs, 0⟩] scope pos) scope X.env (firstIterPos [⟨tg, iter, ifs, 0⟩] pos) newDict false (eval iter X.env) (some (assign (.Name y py) X.env))) _ _ s
  have w' : tDc wi g tt tk tv (own.map (·.2)) σ H (fun x H1 => L2.gName i x σ H1 Dn.nx) := w
  refine wpAny_bind (thn (dc_core (Qf := fun _ s' => SP X pins Dn .next s') hc hN I hi ok hg ht hk he hs w' fun L C s' m H' I' q hn f => ?_) fun _ s' hq => wpAny_pure (wpAny_pure hq))
  show wpAny _ _ (assign (.Name y py) X.env (.ref L)) _ _ _
  refine wpAny_assign_Name (store_ok2 (v := V.ref L) I' hN hy (.inl hyl) rfl (fun s2 I2 ⟨a, sb, ha⟩ => ?_) (.inr hyl))
  obtain ⟨f0, f1, f2, f3, f4, f5⟩ := f
  have neq : C ≠ a := by
    rcases ha with z | z
    · exact z ▸ f1
    · exact fun e => f4 y a z e.symm
  exact ⟨m, hn.sameBut sb neq, fun h3 sb3 => ⟨_, H', I2.turned (t' := s2.toks) (fun b o hb e => (sb3.2 b hb).trans e) f0 f1 f3 f4 f5, q⟩⟩
theorem lift_asgN {W : WX} {K : PySem.W.Frag} {te : DE} {Dn : Ends} {σ : L2.St} {H : Hp} : liftS K W (dAsg te (DL.gName i)) Dn σ H → liftE K te σ H (fun x H1 => L2.gName i x σ H1 Dn.nx) := by
  rintro ⟨A, ρ, S, E, n, s, h, k1, k2, k3, k4⟩
  exact ⟨A, ρ, S, _, n, s, h, fun v H' A' d S' e s' r p => k1 _ H' A' _ S' e ((n.ext e).set i r) s' p⟩
theorem ds_setDc {W : WX} (i : Nat) {w : DIt} {g : DG} {tt : DT} {tk tv : DE} {ws : List Nat} (hws : ∀ j ∈ ws, j ∈ own.map (·.2)) (hc : X.calm = true) (hN : X.N.Nodup) (hi : PI X tg iter (liftI X.K w)) (ok : BlkOk X.N X.env.scope scope own)
    (hg : ∀ (s : Shared) (H : Hp) (C : Addr) (cl : List (Str × Addr)) (fp : List Addr), PG (X.blk s H scope (compEnvC scope cl C X.env) fp) tg (liftW X.K ws g)) (ht : ∀ (s : Shared) (H : Hp) (C : Addr) (cl : List (Str × Addr)) (fp : List Addr), PTs (X.blk s H scope (compEnvC scope cl C X.env) fp) ifs (liftT X.K tt))
    (hk : ∀ (s : Shared) (H : Hp) (C : Addr) (cl : List (Str × Addr)) (fp : List Addr), PE (X.blk s H scope (compEnvC scope cl C X.env) fp) kx (liftE X.K tk)) (he : ∀ (s : Shared) (H : Hp) (C : Addr) (cl : List (Str × Addr)) (fp : List Addr), PE (X.blk s H scope (compEnvC scope cl C X.env) fp) vx (liftE X.K tv))
    (hy : X.N[i]? = some y := by rfl) (hyl : X.env.scope.names.lookup y = some .local := by rfl)
    (hsw : swapsWith (.DictComp kx vx [⟨tg, iter, ifs, 0⟩] scope pos) (some (.Name y py)) spos.line X.env = pure true := by rfl) (hs : ∀ x, foldedSetIterable iter X.env x = pure x := by intro _; rfl) :
    PS X (.Assign [.Name y py] (.DictComp kx vx [⟨tg, iter, ifs, 0⟩] scope pos) spos) (liftS X.K W (dAsg (dDc w g tt tk tv (own.map (·.2))) (DL.gName i))) :=
  ps_mono (ps_setDc hc hN hy hyl hsw hi ok hg ht hk he hs) fun Dn σ H h => lift_dc hws (Q := fun x H1 => L2.gName i x σ H1 Dn.nx) (lift_asgN h)
theorem ds_setLc {W : WX} (i : Nat) {w : DIt} {g : DG} {tt : DT} {te : DE} {ws : List Nat} (hws : ∀ j ∈ ws, j ∈ own.map (·.2)) (hc : X.calm = true) (hN : X.N.Nodup) (hi : PI X tg iter (liftI X.K w)) (ok : BlkOk X.N X.env.scope scope own)
    (hg : ∀ (s : Shared) (H : Hp) (C : Addr) (cl : List (Str × Addr)) (fp : List Addr), PG (X.blk s H scope (compEnvC scope cl C X.env) fp) tg (liftW X.K ws g)) (ht : ∀ (s : Shared) (H : Hp) (C : Addr) (cl : List (Str × Addr)) (fp : List Addr), PTs (X.blk s H scope (compEnvC scope cl C X.env) fp) ifs (liftT X.K tt))
    (he : ∀ (s : Shared) (H : Hp) (C : Addr) (cl : List (Str × Addr)) (fp : List Addr), PE (X.blk s H scope (compEnvC scope cl C X.env) fp) elt (liftE X.K te))
    (hy : X.N[i]? = some y := by rfl) (hyl : X.env.scope.names.lookup y = some .local := by rfl)
    (hsw : swapsWith (.ListComp elt [⟨tg, iter, ifs, 0⟩] scope pos) (some (.Name y py)) spos.line X.env = pure true := by rfl) (hs : ∀ x, foldedSetIterable iter X.env x = pure x := by intro _; rfl) :
    PS X (.Assign [.Name y py] (.ListComp elt [⟨tg, iter, ifs, 0⟩] scope pos) spos) (liftS X.K W (dAsg (dLc w g tt te (own.map (·.2))) (DL.gName i))) :=
  ps_mono (ps_setLc hc hN hy hyl hsw hi ok hg ht he hs) fun Dn σ H h => lift_lc hws (Q := fun x H1 => L2.gName i x σ H1 Dn.nx) (lift_asgN h)
end
end DL
/-! ZK: exceptions over data: own classes whose __init__ keeps `what`, raise, calls that may raise, try. -/
namespace DL
open PySem PySem.Spec PyProof.Rows L2
variable [HasT]

/-! ### self.what = what -/
def spInit (K : PySem.W.Frag) : Sp := fun vs H Q _ => ∃ (a C : Addr) (y : V), vs = [.ref a, y] ∧ OexC K C ∧ PySem.W.findIn K (.ref C) "what" = some none ∧ H a = some (exo a C none) ∧
  ∀ dx, H dx = none → dx ≠ a → Q .non (upd (upd H dx (exd dx [(("what" : Str), y)])) a (exo a C (some dx)))
theorem ok_init {P : Program} {w : World} {K : PySem.W.Frag} {mg : Str → Option Value} {base : Heap} {qual x : Str} {st : Stmt} {f : Addr} {fd : FuncData} (F : Fun K x qual st f fd) (Sc : FnScope ["self", "what"] ["self", "what"] (defScope st))
    (hb : ∀ (cdv : Value) (A : Around) (outer : List Env) (s : Shared) (H : Hp) (E : XK), PSs (cxOf CX0 P w K mg base ["self", "what"] qual (defScope st) f cdv A outer s H E).nox (defBody st) (tOst K "what" (tVar 0) (tVar 1))) : FnOk P w K mg base CX0 1 f fd ["self", "what"] (spInit K) := by
  refine F.ok Sc (fun vs H Q E ⟨a, C, y, h, _⟩ => by rw [h]; rfl) (fun cdv A outer s H vs Q E hr ⟨a, C, y, h, T, hno, ha, k⟩ => ⟨_, hb cdv A outer s H E, ?_⟩)
  subst h
  refine ⟨_, rfl, _, rfl, a, C, rfl, T, hno, .inl ⟨ha, fun dx h1 h2 => k dx h1 h2⟩⟩
/-- raise C(e) over data -/
def dRaise (C : Addr) (te : DE) : DS := fun E ρ S => te ρ S fun w S' => E.ex (.ref C) w ρ S'
theorem ds_raise {X : Cx} {W : WX} {CX : CXT} {C fI : Addr} {fd : FuncData} {x : Str} {e : Expr} {te : DE} {p pos pos2 : Pos} (hc : X.calm = true) (T : OexC X.K C) (hno : PySem.W.findIn X.K (.ref C) "what" = some none)
    (iC : PySem.W.findIn X.K (.ref C) "__init__" = some (some (.ref fI))) (tI : PySem.W.typeIn X.K (.ref fI) = some (.type "function")) (F1 : FnOk X.prog X.w X.K X.mg X.base CX0 1 fI fd ["self", "what"] (spInit X.K)) (hr : Room 2 X.A)
    (hb : L2.Binds X.K fd ["self", "what"] []) (tk : Takes X W) (hg : Gl X x) (hm : X.mg x = some (.ref C)) (he : PE X e (liftE X.K te)) (hdb : (x == ("__debug__" : Str)) = false := by decide)
    (hs : starEach (e :: []) X.env = (false, eval e X.env) :: starEach [] X.env := by rfl) (hpl : (backTo pos (starEach [] X.env)).any (·.1) = false := by rfl) :
    PS X (.Raise (some (.Call (.Name x p) [e] [] pos)) none pos2) (liftS X.K W (dRaise C te)) := by
  refine ps_mono (ps_raise hc tk (pmk_oex T iC tI F1 hr hb .nil pass0 hg hm (pa_cons he pa_nil hs) hdb hs hpl)) fun Dn σ H ⟨A, ρ, S, E, n, s, h, k1, k2, k3, k4⟩ => ?_
  refine ⟨A, ρ, S, _, n, s, h, fun v H1 A1 d S1 e1 s1 r1 p1 => ⟨(by show 1 ≤ 1000; omega), fun a ha => ⟨a, C, v, rfl, T, hno, upd_same, fun dx h1 h2 => ⟨rfl, dx, [(("what" : Str), v)], upd_same, ?_, ?_, ?_⟩⟩⟩⟩
  · rw [upd_ne h2, upd_same]
  · rwa [upd_ne h2] at h1
  · have hd : H1 dx = none := by rwa [upd_ne h2] at h1
    have same : ∀ b o, H1 b = some o → upd (del (upd (upd (upd H1 a (exo a C none)) dx (exd dx [(("what" : Str), v)])) a (exo a C (some dx))) a) dx (.xd [(("what" : Str), v)]) b = some o := fun b o q => by
      have nb : b ≠ dx := ne_of_none q hd
      have na : b ≠ a := ne_of_none q ha
      rw [upd_ne nb, del_ne na, upd_ne na, upd_ne nb, upd_ne na]
      exact q
    have e2 : Ext H1 A1 _ A1 := Ext.same same
    exact k4.ex (.ref C) dx σ _ A1 d v ρ S1 (e1.trans e2) ((n.ext e1).ext e2) (s1.same same) upd_same (r1.ext e2) p1

/-! ### readings that may raise -/
abbrev DEX := DEnv → Store → DK → DX → Prop
abbrev DAX := DEnv → Store → (List D → Store → Prop) → DX → Prop
def liftEX (K : PySem.W.Frag) (W : WX) (t : DEX) : TE := fun σ H Q => ∃ A ρ S post ex, RelN K H A ρ σ ∧ RelS K H A S ∧ t ρ S post ex ∧ KontE K H A post Q ∧ KontX K W H A ex
def liftAX (K : PySem.W.Frag) (W : WX) (t : DAX) : TA := fun σ H Q => ∃ A ρ S post ex, RelN K H A ρ σ ∧ RelS K H A S ∧ t ρ S post ex ∧ (∀ vs H' A' ds S', Ext H A H' A' → RelS K H' A' S' → RelDs K H' A' ds vs → post ds S' → Q vs H') ∧ KontX K W H A ex
/-- a def's promise, where it may raise -/
abbrev DSpX := List D → Store → DK → (Value → D → Store → Prop) → Prop
def XQ (E : XK) (c : Value) : VK := fun u H' => ∀ d, H' d = some (.xd [(("what" : Str), u)]) → E c (some d) H'
def spLX (K : PySem.W.Frag) (sp : DSpX) : Sp := fun vs H Q E => ∃ A ds S post ex, RelS K H A S ∧ RelDs K H A ds vs ∧ sp ds S post ex ∧ KontE K H A post Q ∧ ∀ c, KontE K H A (ex c) (XQ E c)
def callDX (sp : DSpX) (ds : List D) (S : Store) (post : DK) (ex : Value → D → Store → Prop) : Prop := ∃ (m : List Nat) (ds' : List D) (Sc : Store), m.Nodup ∧ rens (rn m S.length) ds' = ds ∧ Sc.length = m.length ∧
  (∀ (i n : Nat) (e : Ent), m[i]? = some n → Sc[i]? = some e → S[n]? = some (renE (rn m S.length) e)) ∧
  sp ds' Sc (fun d S' => post (ren (rn m S.length) d) (setAll m ((S'.take m.length).map (renE (rn m S.length))) S ++ (S'.drop m.length).map (renE (rn m S.length))))
    fun c d S' => ex c (ren (rn m S.length) d) (setAll m ((S'.take m.length).map (renE (rn m S.length))) S ++ (S'.drop m.length).map (renE (rn m S.length)))
theorem lift_callDX {K : PySem.W.Frag} {sp : DSpX} {H : Hp} {A : List Addr} {S : Store} {ds : List D} {vs : List V} {post : DK} {ex : Value → D → Store → Prop} {Q : VK} {E : XK} (s : RelS K H A S) (r : RelDs K H A ds vs) (h : callDX sp ds S post ex) (k : KontE K H A post Q)
    (kx : ∀ c, KontE K H A (ex c) (XQ E c)) : spLX K sp vs H Q E := by
  obtain ⟨m, ds', Sc, hm, hds, hl, hsub, hsp⟩ := h
  obtain ⟨Ac, sC, rC, kk⟩ := callD_inv s r hm hds hl hsub
  exact ⟨Ac, ds', Sc, _, _, sC, rC, hsp, kk _ _ k, fun c => kk _ _ (kx c)⟩
def dCallX (sp : DSpX) (t : DAX) : DEX := fun ρ S post ex => t ρ S (fun ds S1 => callDX sp ds S1 post fun c w S' => ex c w ρ S') ex
section
variable {X : Cx} {W : WX} {k : Nat} {fa : Addr} {fd : FuncData} {ps : List Str} {sp : DSpX} {x : Str} {p pos : Pos} {e : Expr} {es : List Expr} {t : DAX}
theorem runGS {CX : CXT} {sp : Sp} {E : L2.St → XK} {pins : List (Addr × Obj)} {σ : L2.St} {H : Hp} {s : Shared} {Q : VK} {us : List Value} {vs : List V} (F : FnG X.prog X.w X.K X.mg X.base CX k fa fd ps sp) (hg : X.A.guards = some []) (hr : Room k X.A) (hb : L2.Binds X.K fd ps [])
    (hx : ∀ σ, PassesAt CX X σ (E σ)) (I : Inv X pins σ H s) (rv : Vals vs us) (h : sp vs H Q (E σ)) : wpAny (model X.prog X.w) X.A (call (.ref fa) us) (EP X pins σ Q) X.xe s := by
  have hl : (us ++ []).length = ps.length := by
    rw [List.append_nil, ← rv.length]
    exact F.len _ _ _ _ h
  have bt := hb s us I.kIn hl
  rw [List.append_nil] at bt
  refine wpAny_call (codeAny_mono (F.run X.A X.stack s H ⟨us, []⟩ us vs Q (E σ) hg hr I.env0 bt rv h) fun r s' hq => ?_)
  cases r with
  | error ex => exact hx σ pins H s ex s' I hq
  | ok fl =>
    cases fl with
    | ret u => exact I.after hq
    | next => exact hq.elim
    | brk => exact hq.elim
    | cont => exact hq.elim
/-- a call of a def that may raise -/
theorem de_callX (F : FnG X.prog X.w X.K X.mg X.base (L2.CX X.prog X.w) k fa fd ps (spLX X.K sp)) (hgd : X.A.guards = some []) (hr : Room k X.A) (hg : Gl X x) (hm : X.mg x = some (.ref fa)) (hk : PySem.W.keepIn X.K (.ref fa) = true) (hb : L2.Binds X.K fd ps []) (tk : Takes X W)
    (ha : PA X (e :: es) (liftAX X.K W t)) (hdb : (x == ("__debug__" : Str)) = false := by decide) (he : starEach (e :: es) X.env = (false, eval e X.env) :: starEach es X.env := by rfl) (hpl : (backTo pos (starEach es X.env)).any (·.1) = false := by rfl) :
    PE X (.Call (.Name x p) (e :: es) [] pos) (liftEX X.K W (dCallX sp t)) := by
  refine ⟨fun pins s σ H Q I ⟨A, ρ, S, post, ex, n, sS, h, kk, kx⟩ => wpAny_Call_Name_kw (ld_glob I hg hm ?_ hdb)⟩
  refine PySem.W.callWith_K (h₀ := X.base) I.ok.mod.kin hk (thn (ha.run pos pins s σ H (fun vs H1 => spLX X.K sp vs H1 Q (WE W σ)) I ⟨A, ρ, S, _, ex, n, sS, h, fun vs H' A' ds S' e' s' r p1 => ?_, kx⟩) fun us s1 ⟨vs, H1, I1, r, q⟩ => ⟨I1.kIn, ?_⟩) he hpl
  · exact lift_callDX s' r p1 (kk.go e') fun c u H2 A2 w S2 e2 s2 r2 p2 d hd => kx c d σ H2 A2 w u ρ S2 (e'.trans e2) ((n.ext e').ext e2) s2 hd r2 p2
  · exact runGS (E := fun σ => WE W σ) F hgd hr hb (fun σ => passAt tk σ) I1 r q
/-- the same, where it is known not to raise -/
theorem passesE0 {P : Program} {w : World} {σ : L2.St} : PassesAt (L2.CX X.prog X.w) X σ E0 := fun _ _ _ _ _ _ ⟨_, _, _, _, _, _, _, _, _, _, _, _, h⟩ => h.elim
def noX (sp : DSpX) : DSp := fun ds S post => sp ds S post fun _ _ _ => False
theorem de_call0 {t : DA} (F : FnG X.prog X.w X.K X.mg X.base (L2.CX X.prog X.w) k fa fd ps (spLX X.K sp)) (hgd : X.A.guards = some []) (hr : Room k X.A) (hg : Gl X x) (hm : X.mg x = some (.ref fa)) (hk : PySem.W.keepIn X.K (.ref fa) = true) (hb : L2.Binds X.K fd ps [])
    (ha : PA X (e :: es) (liftA X.K t)) (hdb : (x == ("__debug__" : Str)) = false := by decide) (he : starEach (e :: es) X.env = (false, eval e X.env) :: starEach es X.env := by rfl) (hpl : (backTo pos (starEach es X.env)).any (·.1) = false := by rfl) :
    PE X (.Call (.Name x p) (e :: es) [] pos) (liftE X.K (dCall (noX sp) t)) := by
  refine ⟨fun pins s σ H Q I ⟨A, ρ, S, post, n, sS, h, kk⟩ => wpAny_Call_Name_kw (ld_glob I hg hm ?_ hdb)⟩
  refine PySem.W.callWith_K (h₀ := X.base) I.ok.mod.kin hk (thn (ha.run pos pins s σ H (fun vs H1 => spLX X.K sp vs H1 Q E0) I ⟨A, ρ, S, _, n, sS, h, fun vs H' A' ds S' e' s' r p1 => ?_⟩) fun us s1 ⟨vs, H1, I1, r, q⟩ => ⟨I1.kIn, ?_⟩) he hpl
  · obtain ⟨m, ds', Sc, hm, hds, hl, hsub, hsp⟩ := p1
    obtain ⟨Ac, sC, rC, k2⟩ := callD_inv s' r hm hds hl hsub
    exact ⟨Ac, ds', Sc, _, _, sC, rC, hsp, k2 _ _ (kk.go e'), fun c u H2 A2 w S2 e2 s2 r2 p2 => p2.elim⟩
  · exact runGS (E := fun _ => E0) F hgd hr hb (fun σ => passesE0 (P := X.prog) (w := X.w)) I1 r q
end

/-! ### what cannot raise, within what may -/
def dToX (t : DE) : DEX := fun ρ S post _ => t ρ S post
def dToXs (t : DA) : DAX := fun ρ S post _ => t ρ S post
def dConsX (te : DEX) (t : DAX) : DAX := fun ρ S post ex => te ρ S (fun d S1 => t ρ S1 (fun ds S2 => post (d :: ds) S2) ex) ex
def dRetX (te : DEX) : DS := fun E ρ S => te ρ S E.rt E.ex
def dDropX (te : DEX) : DS := fun E ρ S => te ρ S (fun _ S1 => E.nx ρ S1) E.ex
def dAsgX (te : DEX) (g : DG) : DS := fun E ρ S => te ρ S (fun d S1 => g d ρ S1 E.nx) E.ex
section
variable {X : Cx} {W : WX} {e : Expr} {es : List Expr} {te : DEX} {t : DAX} {pos : Pos}
theorem de_toX {u : DE} (h : PE X e (liftE X.K u)) : PE X e (liftEX X.K W (dToX u)) := pe_mono h fun σ H Q ⟨A, ρ, S, post, ex, n, s, p, k, kx⟩ => ⟨A, ρ, S, post, n, s, p, k⟩
theorem da_toX {u : DA} (h : PA X es (liftA X.K u)) : PA X es (liftAX X.K W (dToXs u)) := pa_mono h fun σ H Q ⟨A, ρ, S, post, ex, n, s, p, k, kx⟩ => ⟨A, ρ, S, post, n, s, p, k⟩
theorem da_consX (ha : PE X e (liftEX X.K W te)) (hr : PA X es (liftAX X.K W t)) (hs : starEach (e :: es) X.env = (false, eval e X.env) :: starEach es X.env := by rfl) : PA X (e :: es) (liftAX X.K W (dConsX te t)) :=
  pa_mono (pa_cons ha hr hs) fun σ H Q ⟨A, ρ, S, post, ex, n, s, p, k, kx⟩ => ⟨A, ρ, S, _, ex, n, s, p, fun v1 H1 A1 d1 S1 e1 s1 r1 p1 =>
    ⟨A1, ρ, S1, _, ex, n.ext e1, s1, p1, fun vs H2 A2 ds S2 e2 s2 r2 p2 => k (v1 :: vs) H2 A2 (d1 :: ds) S2 (e1.trans e2) s2 ⟨v1, vs, rfl, r1.ext e2, r2⟩ p2, kx.go e1⟩, kx⟩
theorem ds_retX (he : PE X e (liftEX X.K W te)) : PS X (.Return (some e) pos) (liftS X.K W (dRetX te)) :=
  ps_mono (ps_ret he) fun Dn σ H ⟨A, ρ, S, E, n, s, h, k1, k2, k3, k4⟩ => ⟨A, ρ, S, E.rt, E.ex, n, s, h, k2, k4.ex⟩
theorem ds_exprX (he : PE X e (liftEX X.K W te)) (hs : swapsWith e none pos.line X.env = pure false := by rfl) : PS X (.Expr e pos) (liftS X.K W (dDropX te)) :=
  ps_mono (ps_expr he hs) fun Dn σ H ⟨A, ρ, S, E, n, s, h, k1, k2, k3, k4⟩ => ⟨A, ρ, S, _, E.ex, n, s, h, fun v H' A' d S' e s' r p => k1 σ H' A' ρ S' e (n.ext e) s' p, k4.ex⟩
theorem lift_asgX {K : PySem.W.Frag} {g : DG} {ws : List Nat} {Dn : Ends} {σ : L2.St} {H : Hp} : liftS K W (dAsgX te g) Dn σ H → tAsg (liftEX K W te) (liftW K ws g) Dn σ H := by
  rintro ⟨A, ρ, S, E, n, s, h, k1, k2, k3, k4⟩
  exact ⟨A, ρ, S, _, E.ex, n, s, h, fun v H' A' d S' e s' r p => ⟨A', ρ, S', d, E.nx, n.ext e, s', r, p, fun σ2 H2 A2 ρ2 S2 e2 n2 s2 _ p2 => k1 σ2 H2 A2 ρ2 S2 (e.trans e2) n2 s2 p2⟩, k4.ex⟩
theorem ds_asgX {tg : Expr} {g : DG} {ws : List Nat} (he : PE X e (liftEX X.K W te)) (hg : PG X tg (liftW X.K ws g)) (hs : swapsWithSole [tg] e pos.line X.env = pure false := by rfl) (hw : swappedStores [tg] e X.env = pure none := by rfl)
    (h1 : (assignEach [tg] X.env).map (·.2) = [assign tg X.env] := by rfl) : PS X (.Assign [tg] e pos) (liftS X.K W (dAsgX te g)) :=
  ps_mono (ps_asg he hg hs hw h1) fun _ _ _ h => lift_asgX h
theorem ds_setX (i : Nat) {x : Str} {pos' : Pos} (hN : X.N.Nodup) (he : PE X e (liftEX X.K W te)) (hi : X.N[i]? = some x := by rfl) (hx : Loc X.env.scope x := by first | exact Or.inl rfl | exact Or.inr rfl) (hs : swapsWith e (some (.Name x pos')) pos.line X.env = pure false := by rfl)
    (hf : X.fn x = true ∨ X.env.scope.names.lookup x = some .local := by first | exact .inl rfl | exact .inr rfl) : PS X (.Assign [.Name x pos'] e pos) (liftS X.K W (dAsgX te (gName i))) :=
  ps_mono (ps_set hN hi hx he hs hf) fun Dn σ H ⟨A, ρ, S, E, n, s, h, k1, k2, k3, k4⟩ =>
    ⟨A, ρ, S, _, E.ex, n, s, h, fun v H' A' d S' e s' r p => k1 _ H' A' _ S' e ((n.ext e).set i r) s' p, k4.ex⟩
end

/-! ### a def that may raise -/
def endsX (S : Store) (post : DK) (ex : Value → D → Store → Prop) : DEnds := ⟨fun _ S' => fnEnd S post .non S', fnEnd S post, fun _ _ => False, fun _ _ => False, fun c w _ S' => fnEnd S (ex c) w S'⟩
theorem fn_okX {P : Program} {w : World} {K : PySem.W.Frag} {mg : Str → Option Value} {base : Heap} {x qual : Str} {st : Stmt} {f : Addr} {fd : FuncData} {N ps : List Str} {k : Nat} {sp : DSpX} {tb : DS} (F : Fun K x qual st f fd) (Sc : FnScope N ps (defScope st))
    (hl : ∀ ds S post ex, sp ds S post ex → ds.length = ps.length)
    (hb : ∀ (cdv : Value) (A : Around) (outer : List Env) (s : Shared) (H : Hp) (E : XK), (A.deeper (envOfC qual (defScope st) s.heap.objs.size f cdv)).guards = some [] → Room k (A.deeper (envOfC qual (defScope st) s.heap.objs.size f cdv)) →
      PSs (cxOf (L2.CX P w) P w K mg base N qual (defScope st) f cdv A outer s H E) (defBody st) (liftS K (fun cls d _ H' => E cls d H') tb))
    (hd : ∀ ds S post ex, sp ds S post ex → tb (endsX S post ex) (startD N ds) S) : FnG P w K mg base (L2.CX P w) (k + 1) f fd ps (spLX K sp) := by
  refine fnG_of F Sc (fun vs H Q E ⟨A, ds, S, post, ex, s, r, h, kk, kx⟩ => by rw [r.len]; exact hl ds S post ex h) (fun cdv A0 outer s0 H vs Q E hgd hr ⟨A, ds, S, post, ex, s, r, h, kk, kx⟩ => ⟨_, hb cdv A0 outer s0 H E hgd hr, ?_⟩)
  have fin := fnFin s kk
  exact ⟨A, startD N ds, S, endsX S post ex, RelN.start r, s, hd ds S post ex h, fun σ' H' A' ρ' S' e n' s' p => fin .non H' A' .non S' e s' rfl p, fin, fun _ _ _ _ _ _ _ _ p => p.elim,
    ⟨fun _ _ _ _ _ _ _ _ p => p.elim, fun c d σ' H' A' w u ρ' S' e n' s' hd' r' p => fnFin s (kx c) u H' A' w S' e s' r' p d hd'⟩⟩

/-! ### try -/
/-- try: tb; except C: sd -/
def dTryOnly (exm : Value → Option Bool) (tb : DS) (sd : Addr → Value → Option Addr → DS) : DS := fun E ρ S =>
  tb { E with ex := fun cls w ρ' S' => ∃ b, exm cls = some b ∧ (b = true → ∀ a d, sd a cls d E ρ' S') ∧ (b = false → E.ex cls w ρ' S') } ρ S
/-- try: tb; except C as x: sd (x in slot i) -/
def dTryAs (exm : Value → Option Bool) (i : Nat) (tb : DS) (sd : Addr → Value → Option Addr → DS) : DS := fun E ρ S =>
  tb { E with ex := fun cls w ρ' S' => ∃ b, exm cls = some b ∧ (b = true → ∀ a d, sd a cls (some d) { E with nx := fun ρ S => E.nx (ρ.set i none) S, bk := fun ρ S => E.bk (ρ.set i none) S, ct := fun ρ S => E.ct (ρ.set i none) S } (ρ'.set i (some (.exc a d cls w))) S') ∧
    (b = false → E.ex cls w ρ' S') } ρ S
theorem RelN.unset {K : PySem.W.Frag} {H : Hp} {A : List Addr} {ρ : DEnv} {σ : L2.St} (i : Nat) (n : RelN K H A ρ σ) : RelN K H A (ρ.set i none) (σ.set i none) := by
  refine ⟨by rw [List.length_set, List.length_set]; exact n.len, fun j d' h => ?_⟩
  by_cases hij : i = j
  · subst hij
    have hl : i < ρ.length := by
      have q := (List.getElem?_eq_some_iff.mp h).1
      rwa [List.length_set] at q
    rw [List.getElem?_set_self hl] at h
    cases h
  · rw [List.getElem?_set_ne hij] at h
    obtain ⟨u, h1, h2⟩ := n.at_ j d' h
    exact ⟨u, by rw [List.getElem?_set_ne hij]; exact h1, h2⟩
section
variable {X : Cx} {W : WX} {x n : Str} {c : Value} {i : Nat} {body suite : List Stmt} {b₀ : Stmt} {np pos pos' : Pos} {tb : DS} {sd : Addr → Value → Option Addr → DS}
theorem ds_tryOnly (hs : X.stack = X.env :: X.outer) (hf : X.env.frame = some X.env.locals) (hc : Names X x c) (tk : Takes X W)
    (hb : ∀ (W : WX) (pn : List (Addr × Obj)) (xe : Value → Shared → Prop), Takes (X.tr pn xe) W → PassesOwn (model X.prog X.w) X.A X.env xe → PSs (X.tr pn xe) body (liftS X.K W tb))
    (hsu : ∀ (a : Addr) (oe : Obj) (cls : Value) (d : Option Addr) (pn : List (Addr × Obj)), Zc cls d oe → (∃ vs, oe.data = .fields vs) → PSs (X.suite a ((a, oe) :: pn)) (b₀ :: suite) (liftS X.K W (sd a cls d))) :
    PS X (.Try body [.ExceptHandler (some (.Name x np)) none (b₀ :: suite) pos'] [] [] pos) (liftS X.K W (dTryOnly (fun cls => PySem.W.exmOne X.K cls c) tb sd)) := by
  refine ps_mono (ps_try_only hs hf hc tk hb hsu) fun Dn σ H ⟨A, ρ, S, E, n, s, h, k1, k2, k3, k4⟩ => ?_
  refine ⟨A, ρ, S, _, n, s, h, k1, k2, k3, ⟨k4.ct, fun cls d σ' H' A' w u ρ' S' e n' s' hd r' ⟨b, hb, ht, hf⟩ => ⟨b, hb, fun q a ha => ?_, fun q => k4.ex cls d σ' H' A' w u ρ' S' e n' s' hd r' (hf q)⟩⟩⟩
  exact ⟨A', ρ', S', E, n', s', ht q a (some d), k1.go e, k2.go e, k3.go e, k4.go e⟩
theorem ds_tryAs (hs : X.stack = X.env :: X.outer) (hf : X.env.frame = some X.env.locals) (hN : X.N.Nodup) (hi : X.N[i]? = some n) (hln : X.env.kindOf n = some .local) (hc : Names X x c) (tk : Takes X W)
    (hb : ∀ (W : WX) (pn : List (Addr × Obj)) (xe : Value → Shared → Prop), Takes (X.tr pn xe) W → PassesOwn (model X.prog X.w) X.A X.env xe → PSs (X.tr pn xe) body (liftS X.K W tb))
    (hsu : ∀ (a : Addr) (oe : Obj) (cls : Value) (d : Option Addr) (pn : List (Addr × Obj)), Zc cls d oe → (∃ vs, oe.data = .fields vs) → PSs (X.suite a ((a, oe) :: pn)) (b₀ :: suite) (liftS X.K W (sd a cls d))) :
    PS X (.Try body [.ExceptHandler (some (.Name x np)) (some n) (b₀ :: suite) pos'] [] [] pos) (liftS X.K W (dTryAs (fun cls => PySem.W.exmOne X.K cls c) i tb sd)) := by
  refine ps_mono (ps_try_as hs hf hN hi hln hc tk hb hsu) fun Dn σ H ⟨A, ρ, S, E, n, s, h, k1, k2, k3, k4⟩ => ?_
  refine ⟨A, ρ, S, _, n, s, h, k1, k2, k3, ⟨k4.ct, fun cls d σ' H' A' w u ρ' S' e n' s' hd r' ⟨b, hb, ht, hf⟩ => ⟨b, hb, fun q a ha => ?_, fun q => k4.ex cls d σ' H' A' w u ρ' S' e n' s' hd r' (hf q)⟩⟩⟩
  refine ⟨A', _, S', _, n'.set i (show RelD X.K H' A' (.exc a d cls w) (.ref a) from ⟨rfl, u, hd, r'⟩), s', ht q a d, fun σ2 H2 A2 ρ2 S2 e2 n2 s2 p2 => k1 _ H2 A2 _ S2 (e.trans e2) (n2.unset i) s2 p2, k2.go e, fun σ2 H2 A2 ρ2 S2 e2 n2 s2 p2 => k3 _ H2 A2 _ S2 (e.trans e2) (n2.unset i) s2 p2,
    ⟨fun σ2 H2 A2 ρ2 S2 e2 n2 s2 p2 => k4.ct _ H2 A2 _ S2 (e.trans e2) (n2.unset i) s2 p2, k4.ex.go e⟩⟩
/-- x.what of the exception that the suite holds, of any class that is ok -/
theorem pe_ex {X : Cx} {e : Expr} {ι : Type} {p : ι → Prop} {t : ι → TE} (h : ∀ j, p j → PE X e (t j)) : PE X e (fun σ H Q => ∃ j, p j ∧ t j σ H Q) := ⟨fun pins s σ H Q I ⟨j, hp, w⟩ => (h j hp).run pins s σ H Q I w⟩
def dWhat (okC : Addr → Prop) (a : Addr) (cls : Value) (d : Option Addr) (te : DE) : DE := fun ρ S post => te ρ S fun o S1 => ∃ (dd : Addr) (w : D), o = .exc a dd cls w ∧ d = some dd ∧ post w S1
theorem de_what {okC : Addr → Prop} {a : Addr} {oe : Obj} {cls : Value} {d : Option Addr} {pn : List (Addr × Obj)} {e : Expr} {te : DE} (T : ∀ C, okC C → XfC X.K C ∧ PySem.W.findIn X.K (.ref C) "what" = some none) (hz : Zc cls d oe) (hf : ∃ vs, oe.data = .fields vs)
    (he : PE (X.suite a ((a, oe) :: pn)) e (liftE X.K te)) (hb : attributeBase e "what" X.env (eval e X.env) = eval e X.env := by rfl) :
    PE (X.suite a ((a, oe) :: pn)) (.Attribute e "what" pos) (liftE X.K fun ρ S post => (∃ C, cls = .ref C ∧ okC C) ∧ dWhat okC a cls d te ρ S post) := by
  refine pe_mono (pe_ex (p := okC) (t := fun C => tXf a cls d C "what" (liftE X.K te)) fun C hC => pe_xf (T C hC).1 (T C hC).2 hz hf he hb) fun σ H Q ⟨A, ρ, S, post, n, s, ⟨⟨C, hc, hC⟩, h⟩, k⟩ =>
    ⟨C, hC, A, ρ, S, _, n, s, h, fun v H1 A1 o S1 e1 s1 r1 ⟨dd, w, ho, hd, p⟩ => ?_⟩
  subst ho
  obtain ⟨hv, u, hu, ru⟩ := r1
  exact ⟨hv, hc, dd, _, u, hd, hu, by simp [List.lookup], k u H1 A1 w S1 e1 s1 ru p⟩
end
end DL
/-! ZL: try with several handlers, with names or without. -/
namespace DL
open PySem PySem.Spec PyProof.Rows L2
variable [HasT]

/-- a handler: its class, the slot of its name, its suite -/
structure Hdl where
  c : Value
  i : Option Nat
  ts : Addr → Value → Option Addr → TS
def offSlot (i : Option Nat) (σ : L2.St) : L2.St := match i with | none => σ | some i => σ.set i none
def onSlot (i : Option Nat) (a : Addr) (σ : L2.St) : L2.St := match i with | none => σ | some i => σ.set i (some (.ref a))
def offEnds (i : Option Nat) (Dn : Ends) : Ends := { nx := fun σ H => Dn.nx (offSlot i σ) H, rt := Dn.rt, bk := fun σ H => Dn.bk (offSlot i σ) H, ct := fun σ H => Dn.ct (offSlot i σ) H }
def wHdl (K : PySem.W.Frag) (Wout : WX) (Dn : Ends) : List Hdl → WX
  | [] => Wout
  | h :: r => fun cls d σ H => ∃ b, PySem.W.exmOne K cls h.c = some b ∧ (b = true → ∀ a, H a = none → h.ts a cls d (offEnds h.i Dn) (onSlot h.i a σ) H) ∧ (b = false → wHdl K Wout Dn r cls d σ H)
inductive NamedOk (X : Cx) : Option Str → Option Nat → Prop
  | no : NamedOk X none none
  | yes {n : Str} {i : Nat} (hN : X.N.Nodup) (hi : X.N[i]? = some n) (hln : X.env.kindOf n = some .local) : NamedOk X (some n) (some i)
inductive HdlsOk (X : Cx) : List ExceptHandler → List Hdl → Prop
  | nil : HdlsOk X [] []
  | cons {x : Str} {n : Option Str} {h : Hdl} {b₀ : Stmt} {suite : List Stmt} {np pos' : Pos} {hds : List ExceptHandler} {l : List Hdl} (hc : Names X x h.c) (hn : NamedOk X n h.i)
      (hsu : ∀ (a : Addr) (oe : Obj) (cls : Value) (d : Option Addr) (pn : List (Addr × Obj)), Zc cls d oe → (∃ vs, oe.data = .fields vs) → PSs (X.suite a ((a, oe) :: pn)) (b₀ :: suite) (h.ts a cls d)) (r : HdlsOk X hds l) :
      HdlsOk X (.ExceptHandler (some (.Name x np)) n (b₀ :: suite) pos' :: hds) (h :: l)
section
variable {X : Cx} {body : List Stmt} {h₀ : ExceptHandler} {hds : List ExceptHandler} {l : List Hdl} {pos : Pos} {tb : WX → TS} {Wout : WX}
theorem ps_try_hdls (hs : X.stack = X.env :: X.outer) (hf : X.env.frame = some X.env.locals) (tk : Takes X Wout)
    (hb : ∀ (W : WX) (pn : List (Addr × Obj)) (xe : Value → Shared → Prop), Takes (X.tr pn xe) W → PassesOwn (model X.prog X.w) X.A X.env xe → PSs (X.tr pn xe) body (tb W))
    (hh : HdlsOk X (h₀ :: hds) l) : PS X (.Try body (h₀ :: hds) [] [] pos) (fun Dn σ H => tb (wHdl X.K Wout Dn l) Dn σ H) := by
  refine ⟨fun pins s σ H Dn I h => ?_⟩
  have ok := I.ok
  have hfr : X.A.frames = some (X.env :: X.outer) := by rw [ok.frames, hs]
  refine wpAny_Try_except ?_
  refine wpAny_mono ((hb (wHdl X.K Wout Dn l) (X.pn ++ pins) (fun e s₁ => wpAny (model X.prog X.w) X.A (noteFrame e X.env) (fun _ s₂ => wpAny (model X.prog X.w) X.A (setFlight e none) (fun _ s₃ =>
    wpAny (model X.prog X.w) X.A (handleBy e X.env (h₀ :: hds)) (SP X pins Dn) X.xe s₃) X.xe s₂) X.xe s₁) (fun u s' xx => ?_) PassesOwn.looking).run [] s σ H Dn (I.toTry _) h) (fun f s1 hsp => ?_) (fun e s1 he => he)
  · obtain ⟨a, B, sI, pins', σ', H', cls, d, rfl, J', nb, up, sky, na, os, ag, w⟩ := xx
    have J : Inv X pins σ' H' sI := J'.ofTry ok
    rw [hs] at sky
    refine Sky.land Zc.steady hfr hf sky fun h3 fl3 up3 => ?_
    have lnd : ∀ {h4 : Heap}, HandSPX.FlyingZ B (X.env :: X.outer) a (Zc cls d) h4 → s'.heap.UpToSlots h4 → Inv X pins σ' H' { s' with heap := h4 } := fun fl4 up4 => J.landed nb fl4.1 (up.trans up4) os ag
    obtain ⟨oe3, vs3, he3, hz3, hd3⟩ := fl3.there
    have nfr : a ∉ frs (X.env :: X.outer) := fun hm => by
      obtain ⟨_, o', e', hnf⟩ := fl3.2.2.1.mem hm
      rw [he3] at e'
      cases e'
      exact hnf _ hd3
    have nL : a ≠ X.env.locals := fun z => nfr (List.mem_filterMap.mpr ⟨X.env, List.mem_cons_self, by rw [hf, z]⟩)
    have nF : a ∉ X.fs := fun hm => by
      obtain ⟨e, he, q⟩ := List.mem_filterMap.mp hm
      exact nfr (List.mem_filterMap.mpr ⟨e, List.mem_cons_of_mem _ he, q⟩)
    have S3 := (lnd fl3 up3).suite he3 hd3 na nL nF
    have go : ∀ {hds' : List ExceptHandler} {l' : List Hdl}, HdlsOk X hds' l' → wHdl X.K Wout Dn l' cls d σ' H' → wpAny (model X.prog X.w) X.A (handleBy (.ref a) X.env hds') (SP X pins Dn) X.xe { s' with heap := h3 } := by
      intro hds' l' hk
      induction hk with
      | nil =>
        exact fun w => PySem.PX.no_clauseZ hf fl3 fun h4 hh4 up4 => tk _ _ ⟨a, B, sI, pins, σ', H', cls, d, rfl, J, nb, (up.trans up3).trans up4, .inr (.inr (by rw [hs]; exact hh4)), na, os, ag, w⟩
      | @cons x n h b₀ suite np pos' hds2 l2 hc hn hsu r ih =>
        intro ⟨b, hb1, hyes, hno⟩
        have test : ∀ {Q : Value → Shared → Prop} {E : Value → Shared → Prop}, Q h.c { s' with heap := h3 } → wpAny (model X.prog X.w) (X.A.mark (some (.ref a))) (eval (.Name x np) X.env) Q E { s' with heap := h3 } := fun {Q E} q => by
          obtain ⟨hg, hdbg, hm | ⟨hm, hv, hnn⟩⟩ := hc
          · exact ld_glob (X := X.suite a ((a, oe3) :: (X.pn ++ pins))) S3 hg hm q hdbg
          · exact ld_blt (X := X.suite a ((a, oe3) :: (X.pn ++ pins))) S3 hg hm hv q hnn hdbg
        cases b with
        | false => exact PySem.PX.clause_passZ (lnd fl3 up3).kIn (fun o z => z.1) fl3 hb1 test (ih (hno rfl))
        | true =>
          obtain ⟨c, i, ts⟩ := h
          cases hn with
          | no =>
            refine PySem.PX.clause_onlyZ (lnd fl3 up3).kIn (fun o z => z.1) fl3 hb1 test fun h4 fl4 up4 => ?_
            obtain ⟨oe4, vs4, he4, hz4, hd4⟩ := HandSPX.FlyingZ.there fl4
            have S4 := (lnd fl4 (up3.trans up4)).suite he4 hd4 na nL nF
            refine wpAny_mono ((hsu a oe4 cls d (X.pn ++ pins) hz4 ⟨_, hd4⟩).run [] _ _ H' _ S4 (hyes rfl a na)) (fun f s6 hsp => ?_) (fun _ _ z => False.elim z)
            cases f with
            | next => obtain ⟨σ6, H6, S6, q6⟩ := hsp; exact ⟨_, _, S6.unsuite ok, q6⟩
            | brk => obtain ⟨σ6, H6, S6, q6⟩ := hsp; exact ⟨_, _, S6.unsuite ok, q6⟩
            | cont => obtain ⟨σ6, H6, S6, q6⟩ := hsp; exact ⟨_, _, S6.unsuite ok, q6⟩
            | ret u => obtain ⟨v6, σ6, H6, S6, r6, q6⟩ := hsp; exact ⟨_, _, _, S6.unsuite ok, r6, q6⟩
          | @yes n i hN hi hln =>
            refine PySem.PX.clause_asZ (lnd fl3 up3).kIn (fun o z => z.1) fl3 hb1 test fun h4 fl4 up4 => ?_
            obtain ⟨oe4, vs4, he4, hz4, hd4⟩ := HandSPX.FlyingZ.there fl4
            have S4 := (lnd fl4 (up3.trans up4)).suite he4 hd4 na nL nF
            refine store_ok (X := X.suite a ((a, oe4) :: (X.pn ++ pins))) (v := .ref a) S4 hN hi (.inl hln) rfl (fun s5 S5 => ?_) (.inr hln)
            refine wpAny_mono ((hsu a oe4 cls d (X.pn ++ pins) hz4 ⟨_, hd4⟩).run [] s5 _ H' _ S5 (hyes rfl a na)) (fun f s6 hsp => ?_) (fun _ _ z => False.elim z)
            cases f with
            | next => obtain ⟨σ6, H6, S6, q6⟩ := hsp; exact gone_ok (S6.unsuite ok) hN hi hln fun s7 J7 => ⟨_, _, J7, q6⟩
            | brk => obtain ⟨σ6, H6, S6, q6⟩ := hsp; exact gone_ok (S6.unsuite ok) hN hi hln fun s7 J7 => ⟨_, _, J7, q6⟩
            | cont => obtain ⟨σ6, H6, S6, q6⟩ := hsp; exact gone_ok (S6.unsuite ok) hN hi hln fun s7 J7 => ⟨_, _, J7, q6⟩
            | ret u => obtain ⟨v6, σ6, H6, S6, r6, q6⟩ := hsp; exact gone_ok (S6.unsuite ok) hN hi hln fun s7 J7 => ⟨_, _, _, J7, r6, q6⟩
    exact go hh w
  · cases f with
    | next => obtain ⟨σ', H', J', q⟩ := hsp; exact wpAny_execs_nil ⟨σ', H', J'.ofTry ok, q⟩
    | brk => obtain ⟨σ', H', J', q⟩ := hsp; exact ⟨σ', H', J'.ofTry ok, q⟩
    | cont => obtain ⟨σ', H', J', q⟩ := hsp; exact ⟨σ', H', J'.ofTry ok, q⟩
    | ret u => obtain ⟨v, σ', H', J', r, q⟩ := hsp; exact ⟨v, σ', H', J'.ofTry ok, r, q⟩
end

/-! ### over data -/
structure DHdl where
  c : Value
  i : Option Nat
  sd : Addr → Value → Option Addr → DS
def offD (i : Option Nat) (ρ : DEnv) : DEnv := match i with | none => ρ | some i => ρ.set i none
def onD (i : Option Nat) (a d : Addr) (cls : Value) (w : D) (ρ : DEnv) : DEnv := match i with | none => ρ | some i => ρ.set i (some (.exc a d cls w))
def offE (i : Option Nat) (E : DEnds) : DEnds := { E with nx := fun ρ S => E.nx (offD i ρ) S, bk := fun ρ S => E.bk (offD i ρ) S, ct := fun ρ S => E.ct (offD i ρ) S }
def exHdl (exm : Value → Value → Option Bool) (E : DEnds) : List DHdl → DX
  | [] => E.ex
  | h :: r => fun cls w ρ S => ∃ b, exm cls h.c = some b ∧ (b = true → ∀ a d, h.sd a cls (some d) (offE h.i E) (onD h.i a d cls w ρ) S) ∧ (b = false → exHdl exm E r cls w ρ S)
def dTry (exm : Value → Value → Option Bool) (tb : DS) (hs : List DHdl) : DS := fun E ρ S => tb { E with ex := exHdl exm E hs } ρ S
def DHdl.up (K : PySem.W.Frag) (W : WX) (h : DHdl) : Hdl := ⟨h.c, h.i, fun a cls d => liftS K W (h.sd a cls d)⟩
section
variable {K : PySem.W.Frag} {W : WX} {H : Hp} {A : List Addr}
theorem KontN.off {post : DEnv → Store → Prop} {Q : L2.St → Hp → Prop} (i : Option Nat) (k : KontN K H A post Q) : KontN K H A (fun ρ S => post (offD i ρ) S) fun σ H' => Q (offSlot i σ) H' := fun σ' H' A' ρ' S' e n s p => by
  cases i with
  | none => exact k σ' H' A' ρ' S' e n s p
  | some i => exact k _ H' A' _ S' e (n.unset i) s p
theorem kontX_hdl {E : DEnds} {Dn : Ends} (k1 : KontN K H A E.nx Dn.nx) (k2 : KontE K H A E.rt Dn.rt) (k3 : KontN K H A E.bk Dn.bk) (k4 : KontC K W H A E Dn.ct) : ∀ l : List DHdl, KontX K W H A E.ex → KontX K (wHdl K W Dn (l.map (DHdl.up K W))) H A (exHdl (PySem.W.exmOne K) E l)
  | [], k => k
  | h :: r, k => fun cls d σ' H' A' w u ρ' S' e n s hd rw' ⟨b, hb, ht, hf⟩ => by
    refine ⟨b, hb, fun q a ha => ?_, fun q => kontX_hdl k1 k2 k3 k4 r k cls d σ' H' A' w u ρ' S' e n s hd rw' (hf q)⟩
    refine ⟨A', onD h.i a d cls w ρ', S', offE h.i E, ?_, s, ht q a d, (k1.go e).off h.i, k2.go e, (k3.go e).off h.i, ⟨(k4.ct.go e).off h.i, k4.ex.go e⟩⟩
    show RelN K H' A' (onD h.i a d cls w ρ') (onSlot h.i a σ')
    cases h.i with
    | none => exact n
    | some i => exact n.set i (show RelD K H' A' (.exc a d cls w) (.ref a) from ⟨rfl, u, hd, rw'⟩)
end
theorem ds_try {X : Cx} {W : WX} {body : List Stmt} {h₀ : ExceptHandler} {hds : List ExceptHandler} {l : List DHdl} {pos : Pos} {tb : DS} (hs : X.stack = X.env :: X.outer) (hf : X.env.frame = some X.env.locals) (tk : Takes X W)
    (hb : ∀ (W : WX) (pn : List (Addr × Obj)) (xe : Value → Shared → Prop), Takes (X.tr pn xe) W → PassesOwn (model X.prog X.w) X.A X.env xe → PSs (X.tr pn xe) body (liftS X.K W tb))
    (hh : HdlsOk X (h₀ :: hds) (l.map (DHdl.up X.K W))) : PS X (.Try body (h₀ :: hds) [] [] pos) (liftS X.K W (dTry (PySem.W.exmOne X.K) tb l)) :=
  ps_mono (ps_try_hdls hs hf tk hb hh) fun Dn σ H ⟨A, ρ, S, E, n, s, h, k1, k2, k3, k4⟩ => ⟨A, ρ, S, _, n, s, h, k1, k2, k3, ⟨k4.ct, kontX_hdl k1 k2 k3 k4 l k4.ex⟩⟩

/-! ### isinstance of the exception that the suite holds -/
def rIsX (K : PySem.W.Frag) (a : Addr) (cls : Value) (d : Option Addr) : List V → Hp → VK → Prop := fun xs H Q => ∃ (C dd : Addr) (c : V) (cv : Value) (b : Bool) (fs : List (Str × V)), xs = [.ref a, c] ∧ cls = .ref C ∧ ExcC K C ∧ d = some dd ∧ H dd = some (.xd fs) ∧
  (∀ u, RelV c u → u = cv) ∧ PySem.W.kitOne K (.ref C) cv = some b ∧ Q (.bl b) H
theorem call_isX {X : Cx} {a : Addr} {oe : Obj} {cls : Value} {d : Option Addr} {pn : List (Addr × Obj)} (hz : Zc cls d oe) (hf : ∃ vs, oe.data = .fields vs) : CallR (X.suite a ((a, oe) :: pn)) (.builtin "isinstance") (rIsX X.K a cls d) := by
  intro pins s σ H xs us Q I r h
  obtain ⟨C, dd, c, cv, b, fs, rfl, hcl, T, hd, hH, hcv, e, q⟩ := h
  cases r with
  | cons rx rr =>
    cases rr with
    | cons rt rr =>
      cases rr
      cases rx
      have ec := hcv _ rt
      subst ec hcl hd
      obtain ⟨hget, _⟩ := I.pin (a, oe) (List.mem_append.mpr (.inl List.mem_cons_self))
      obtain ⟨vs, hv⟩ := hf
      have hx : ObjOk X.prog X.w H s.heap dd (.xd fs) := I.hok dd _ hH
      obtain ⟨mA, hns, hr⟩ := hx
      obtain ⟨od, ho, hl⟩ := lookIn_ns hns
      have J : PySem.W.InstAt s.heap a oe C (some od) := ⟨hget, hz.1, by unfold PySem.W.notCls; rw [hv] <;> rfl, by rw [hz.2]; exact ho⟩
      have hcl : (PySem.W.clsIn X.K C).isSome = true := by
        obtain ⟨cd, hc, _⟩ := PySem.W.any_some T.hd
        rw [hc]
        rfl
      exact PySem.W.kia_one (PySem.W.kitx_exc hcl T.hg T.hk T.hs T.ha T.hn T.ht T.hm) I.kIn J e (fun z => nomatch z) fun tk => ⟨.bl b, H, I.kept (t' := tk) fun _ _ z => z, rfl, q⟩
def dIsX (K : PySem.W.Frag) (a : Addr) (cls : Value) (d : Option Addr) (cv : Value) (te : DE) : DE := fun ρ S post => te ρ S fun o S1 => ∃ (C dd : Addr) (w : D) (b : Bool), o = .exc a dd cls w ∧ cls = .ref C ∧ ExcC K C ∧ d = some dd ∧ PySem.W.kitOne K (.ref C) cv = some b ∧ post (.bl b) S1
theorem de_isX {X : Cx} {a : Addr} {oe : Obj} {cls : Value} {d : Option Addr} {pn : List (Addr × Obj)} {e cx : Expr} {te : DE} {vc : V} {cv : Value} {p pos : Pos} (hz : Zc cls d oe) (hf : ∃ vs, oe.data = .fields vs) (he : PE (X.suite a ((a, oe) :: pn)) e (liftE X.K te))
    (hc : PE (X.suite a ((a, oe) :: pn)) cx (tC vc)) (hv : ∀ u, RelV vc u → u = cv) (hg : Gl X "isinstance") (hm : X.mg "isinstance" = none)
    (h1 : starEach (e :: [cx]) X.env = (false, eval e X.env) :: starEach [cx] X.env := by rfl) (h2 : starEach (cx :: []) X.env = (false, eval cx X.env) :: starEach [] X.env := by rfl) (hpl : (backTo pos (starEach [cx] X.env)).any (·.1) = false := by rfl) :
    PE (X.suite a ((a, oe) :: pn)) (.Call (.Name "isinstance" p) (e :: [cx]) [] pos) (liftE X.K (dIsX X.K a cls d cv te)) := by
  refine pe_mono (pe_callB (X := X.suite a ((a, oe) :: pn)) (call_isX hz hf) hg hm (by rfl) (pa_cons he (pa_cons hc pa_nil h2) h1) (by decide) (by decide) h1 hpl) fun σ H Q ⟨A, ρ, S, post, n, s, h, k⟩ =>
    ⟨A, ρ, S, _, n, s, h, fun v H1 A1 o S1 e1 s1 r1 ⟨C, dd, w, b, ho, hcl, T, hd, hk, p⟩ => ?_⟩
  subst ho
  obtain ⟨hv1, u, hu, ru⟩ := r1
  subst hv1
  exact ⟨C, dd, vc, cv, b, _, rfl, hcl, T, hd, hu, hv, hk, k (.bl b) H1 A1 (.bl b) S1 e1 s1 rfl p⟩
end DL
/-! ZM: isinstance of data. -/
namespace DL
open PySem PySem.Spec PyProof.Rows L2
variable [HasT]

/-- the type of a piece of data, where it is told -/
def tyD (S : Store) : D → Option String
  | .non => some "NoneType"
  | .bl _ => some "bool"
  | .int _ => some "int"
  | .str _ => some "str"
  | .tup _ => some "tuple"
  | .ztup _ => some "tuple"
  | .lr n => match S[n]? with
    | some (.lst _) => some "list"
    | some (.dct _) => some "dict"
    | none => none
  | .rl _ => none
  | .exc _ _ _ _ => none
  | .opq _ => none
theorem tyD_ok {K : PySem.W.Frag} {H : Hp} {A : List Addr} {S : Store} {t : String} (s : RelS K H A S) : ∀ {d : D} {v : V}, RelD K H A d v → tyD S d = some t → TyX K H v (.type t)
  | .non, v, r, h => by cases h; cases (show v = .non from r); exact .base (by constructor)
  | .bl _, v, r, h => by cases h; cases (show v = .bl _ from r); exact .base (by constructor)
  | .int _, v, r, h => by cases h; cases (show v = .int _ from r); exact .base (by constructor)
  | .str _, v, r, h => by cases h; cases (show v = .str _ from r); exact .base (by constructor)
  | .tup _, v, ⟨a, vs, e, p, _⟩, h => by
    cases h
    subst e
    rcases p with ⟨o, p, _⟩ | ⟨o, its, n, h1, h2, _⟩
    · exact .fTuple p
    · exact .kTuple h1 h2
  | .ztup _, v, ⟨a, vs, e, p, _⟩, h => by
    cases h
    subst e
    rcases p with (p | ⟨o, p⟩) | ⟨o, its, n, h1, h2, _⟩
    · exact .base (by constructor; exact p)
    · exact .fTuple p
    · exact .kTuple h1 h2
  | .lr n, v, ⟨a, e, ha⟩, h => by
    subst e
    simp only [tyD] at h
    cases q : S[n]? with
    | none => rw [q] at h; cases h
    | some en =>
      rw [q] at h
      have r := s.get q ha
      cases en with
      | lst ds => cases h; obtain ⟨vs, h1, _⟩ := r; exact .base (by constructor; exact h1)
      | dct kvs => cases h; obtain ⟨vs, h1, _⟩ := r; exact .base (by constructor; exact h1)
  | .rl _, _, _, h => by cases h
  | .exc _ _ _ _, _, _, h => by cases h
  | .opq _, _, _, h => by cases h
def dIsTy (n : String) (te : DE) : DE := fun ρ S post => te ρ S fun d S1 => ∃ t b, tyD S1 d = some t ∧ kitB t n = some b ∧ post (.bl b) S1
theorem de_isTy {X : Cx} {e : Expr} {te : DE} {x : Str} {n : String} {p p2 pos : Pos} (he : PE X e (liftE X.K te)) (hg : Gl X "isinstance") (hm : X.mg "isinstance" = none) (hg2 : Gl X x) (hm2 : X.mg x = none) (hv : bootBuiltins x = some (.type n))
    (hn : x ≠ "__name__" := by decide) (hd : (x == ("__debug__" : Str)) = false := by decide)
    (h1 : starEach (e :: [.Name x p2]) X.env = (false, eval e X.env) :: starEach [.Name x p2] X.env := by rfl) (h2 : starEach (.Name x p2 :: []) X.env = (false, eval (.Name x p2) X.env) :: starEach [] X.env := by rfl) (hpl : (backTo pos (starEach [.Name x p2] X.env)).any (·.1) = false := by rfl) :
    PE X (.Call (.Name "isinstance" p) (e :: [.Name x p2]) [] pos) (liftE X.K (dIsTy n te)) := by
  refine pe_mono (pe_callB call_isi hg hm (by rfl) (pa_cons he (pa_cons (pe_bltn (v := .ty n) hg2 hm2 hv rfl hn hd) pa_nil h2) h1) (by decide) (by decide) h1 hpl) fun σ H Q ⟨A, ρ, S, post, nn, s, h, k⟩ =>
    ⟨A, ρ, S, _, nn, s, h, fun v H1 A1 d S1 e1 s1 r1 ⟨t, b, ht, hk, p⟩ => ⟨v, .ty n, _, _, b, rfl, .ty n, tyD_ok s1 r1 ht, kit_ty hk, k (.bl b) H1 A1 (.bl b) S1 e1 s1 rfl p⟩⟩

/-! ### a < b < c -/
def dChain (rd rd' : D2) (ta tb tc : DE) : DE := fun ρ S post => ta ρ S fun x S1 => tb ρ S1 fun y S2 => rd x y S2 fun z S3 => ∃ k, z = .bl k ∧ (if k = true then tc ρ S3 fun w S4 => rd' y w S4 post else post (.bl false) S3)
theorem lift_chain {K : PySem.W.Frag} {rd rd' : D2} {r r' : R2} {ta tb tc : DE} {σ : L2.St} {H : Hp} {Q : VK} (hr : Rul2 K rd r) (hr' : Rul2 K rd' r') : liftE K (dChain rd rd' ta tb tc) σ H Q → tChain r r' (liftE K ta) (liftE K tb) (liftE K tc) σ H Q := by
  rintro ⟨A, ρ, S, post, n, s, p, k⟩
  refine ⟨A, ρ, S, _, n, s, p, fun v1 H1 A1 d1 S1 e1 s1 r1 p1 => ⟨A1, ρ, S1, _, n.ext e1, s1, p1, fun v2 H2 A2 d2 S2 e2 s2 r2 p2 => hr H2 A2 S2 d1 d2 v1 v2 _ _ s2 (r1.ext e2) r2 p2 fun z H3 A3 d3 S3 e3 s3 r3 ⟨kb, hz, p3⟩ => ?_⟩⟩
  subst hz
  have e13 : Ext H A H3 A3 := (e1.trans e2).trans e3
  refine ⟨kb, r3, ?_⟩
  cases kb with
  | true => exact ⟨A3, ρ, S3, _, n.ext e13, s3, p3, fun w H4 A4 dw S4 e4 s4 r4 p4 => hr' H4 A4 S4 d2 dw v2 w _ _ s4 (r2.ext (e3.trans e4)) r4 p4 (k.go (e13.trans e4))⟩
  | false => exact k (.bl false) H3 A3 (.bl false) S3 e13 s3 rfl p3
section
variable {X : Cx} {a b c : Expr} {ta tb tc : DE} {op op' : CmpOp} {rd rd' : D2} {r r' : R2} {pos : Pos}
theorem de_chain (ho : OpR X (compareOp op) r) (hr : Rul2 X.K rd r) (ho' : OpR X (compareOp op') r') (hr' : Rul2 X.K rd' r') (ha : PE X a (liftE X.K ta)) (hb : PE X b (liftE X.K tb)) (hc : PE X c (liftE X.K tc)) (hm : lastMarks [op, op'] [b, c] = false := by with_unfolding_all rfl) : PE X (.Compare a [op, op'] [b, c] pos) (liftE X.K (dChain rd rd' ta tb tc)) :=
  pe_mono (pe_chain ho ho' ha hb hc hm) fun _ _ _ h => lift_chain hr hr' h
theorem dt_chain (ho : OpR X (compareOp op) r) (hr : Rul2 X.K rd r) (ho' : OpR X (compareOp op') r') (hr' : Rul2 X.K rd' r') (ha : PE X a (liftE X.K ta)) (hb : PE X b (liftE X.K tb)) (hc : PE X c (liftE X.K tc)) (hm : lastMarks [op, op'] [b, c] = false := by with_unfolding_all rfl) : PT X (.Compare a [op, op'] [b, c] pos) (liftT X.K (dTest (dChain rd rd' ta tb tc))) :=
  pt_mono (pt_chain ho ho' ha hb hc hm) fun _ _ _ h => lift_chain hr hr' (lift_test h)
end
end DL
/-! ZN: truth of data, slices, pop, extend, two names at once, unpacked lists. -/
namespace DL
open PySem PySem.Spec PyProof.Rows L2
variable [HasT]

/-! ### truth -/
def truD (S : Store) : D → Bool → Prop
  | .non, k => k = false
  | .bl b, k => k = b
  | .int i, k => k = (i != 0)
  | .str x, k => x.length ≤ 100000 ∧ k = ((x.length : Int) != 0)
  | .tup ds, k => k = !ds.isEmpty
  | .ztup ds, k => k = !ds.isEmpty
  | .rl ds, k => k = !ds.isEmpty
  | .lr n, k => (∃ ds, S[n]? = some (.lst ds) ∧ k = !ds.isEmpty) ∨ ∃ kvs, S[n]? = some (.dct kvs) ∧ k = !kvs.isEmpty
  | .exc _ _ _ _, _ => False
  | .opq _, _ => False
theorem empty_len {α β : Type} {xs : List α} {ys : List β} (h : xs.length = ys.length) : xs.isEmpty = ys.isEmpty := by
  cases xs <;> cases ys <;> simp_all
theorem truD_ok {K : PySem.W.Frag} {H : Hp} {A : List Addr} {S : Store} {k : Bool} (s : RelS K H A S) : ∀ {d : D} {v : V}, RelD K H A d v → truD S d k → TruV K v H k
  | .non, v, r, h => by cases (show v = .non from r); exact h
  | .bl _, v, r, h => by cases (show v = .bl _ from r); exact h
  | .int _, v, r, h => by cases (show v = .int _ from r); exact h
  | .str _, v, r, h => by cases (show v = .str _ from r); exact ⟨le_line h.1, h.2⟩
  | .tup ds, v, ⟨a, vs, e, p, q⟩, h => by
    subst e
    exact .inr (.inl ⟨vs, p.sq, by rw [empty_len q.len]; exact h⟩)
  | .ztup ds, v, ⟨a, vs, e, p, q⟩, h => by
    subst e
    exact .inr (.inl ⟨vs, p, by rw [empty_len q.len]; exact h⟩)
  | .rl ds, v, ⟨a, vs, e, p, q⟩, h => by
    subst e
    exact .inl ⟨vs, p.sq, by rw [empty_len q.len]; exact h⟩
  | .lr n, v, ⟨a, e, ha⟩, h => by
    subst e
    rcases h with ⟨ds, hn, h⟩ | ⟨kvs, hn, h⟩
    · obtain ⟨vs, h1, h2⟩ := s.get hn ha
      exact .inl ⟨vs, .inl (.inl h1), by rw [empty_len h2.len]; exact h⟩
    · obtain ⟨ws, h1, h2⟩ := (s.get hn ha).pairs
      exact .inr (.inr ⟨ws, h1, by rw [empty_len h2.len]; exact h⟩)
  | .exc _ _ _ _, _, _, h => h.elim
  | .opq _, _, _, h => h.elim
def dTru (te : DE) : DT := fun ρ S post => te ρ S fun d S1 => ∃ k, truD S1 d k ∧ post k S1
theorem dt_tru {X : Cx} {e : Expr} {te : DE} (h : PE X e (liftE X.K te)) (he : ∀ whole, isTrue e X.env whole = (do let v ← whole; standAt e.pos; holding [v] (truthy v)) := by intro _; rfl) : PT X e (liftT X.K (dTru te)) :=
  pt_mono (pt_truth h he) fun σ H Q ⟨A, ρ, S, post, n, s, p, k⟩ => ⟨A, ρ, S, _, n, s, p, fun v H1 A1 d S1 e1 s1 r1 ⟨b, hb, p1⟩ => ⟨b, truD_ok s1 r1 hb, k b H1 A1 S1 e1 s1 p1⟩⟩
theorem go_tru_lr {S : Store} {n : Nat} {ds : List D} {f : Bool → Prop} (h : S[n]? = some (.lst ds)) (p : f (!ds.isEmpty)) : ∃ k, truD S (.lr n) k ∧ f k := ⟨_, .inl ⟨ds, h, rfl⟩, p⟩
theorem go_tru_tup {S : Store} {ds : List D} {f : Bool → Prop} : (∃ k, truD S (.tup ds) k ∧ f k) ↔ f (!ds.isEmpty) := ⟨fun ⟨_, h, p⟩ => by cases (show _ = _ from h); exact p, fun p => ⟨_, rfl, p⟩⟩

/-! ### slices -/
abbrev DOp := DEnv → Store → (Option Int → Store → Prop) → Prop
def liftO (K : PySem.W.Frag) (t : DOp) : TO := fun σ H Q => ∃ A ρ S post, RelN K H A ρ σ ∧ RelS K H A S ∧ t ρ S post ∧ ∀ o H' A' S', Ext H A H' A' → RelS K H' A' S' → post o S' → Q o H'
def dNoPart : DOp := fun _ S post => post none S
def dPart (te : DE) : DOp := fun ρ S post => te ρ S fun d S1 => ∃ i, d = .int i ∧ post (some i) S1
theorem po_mono {X : Cx} {e : Option Expr} {t u : TO} (h : PO X e t) (w : ∀ σ H Q, u σ H Q → t σ H Q) : PO X e u := ⟨fun pins s σ H Q I q => h.run pins s σ H Q I (w σ H Q q)⟩
theorem do_none {X : Cx} : PO X none (liftO X.K dNoPart) := po_mono po_none fun σ H Q ⟨A, ρ, S, post, n, s, p, k⟩ => k none H A S Ext.refl s p
theorem do_some {X : Cx} {e : Expr} {te : DE} (h : PE X e (liftE X.K te)) : PO X (some e) (liftO X.K (dPart te)) :=
  po_mono (po_some h) fun σ H Q ⟨A, ρ, S, post, n, s, p, k⟩ => ⟨A, ρ, S, _, n, s, p, fun v H1 A1 d S1 e1 s1 r1 ⟨i, hd, p1⟩ => by
    subst hd
    exact ⟨i, r1, k (some i) H1 A1 S1 e1 s1 p1⟩⟩
def cutD {α : Type} (xs : List α) (lo hi : Option Int) : List α := (xs.drop (HT.sIx xs.length 0 lo)).take (HT.sIx xs.length xs.length hi - HT.sIx xs.length 0 lo)
def rSlP (K : PySem.W.Frag) : V → Option Int → Option Int → Hp → VK → Prop := fun x lo hi H Q => ∃ a xs, x = .ref a ∧ SqT K H a xs ∧
  (HT.sIx xs.length 0 lo = 0 ∧ HT.sIx xs.length xs.length hi = xs.length → Q (.ref a) H) ∧ (¬ (HT.sIx xs.length 0 lo = 0 ∧ HT.sIx xs.length xs.length hi = xs.length) → ∀ (p : Addr) (o : Obj), H p = none → o.dict = none → Q (.ref p) (upd H p (.frz o (.tup (cutV xs lo hi)))))
theorem sl_tupP {X : Cx} : SlR X (rSlP X.K) := by
  intro pins s σ H x v vl vu lo hi sl Q I rx hs pl pu h
  obtain ⟨a, xs, rfl, hx, q1, q2⟩ := h
  cases rx
  obtain ⟨its, r, ht, hz⟩ := I.tuple hx
  have hlen : its.toArray.size = xs.length := by rw [List.size_toArray]; exact r.length.symm
  refine ⟨"tuple", _, PyProof.Rows.slot_tuple_getitem.lookup, ht.typeIs, ?_⟩
  by_cases hw : HT.sIx xs.length 0 lo = 0 ∧ HT.sIx xs.length xs.length hi = xs.length
  · exact getItem_tuple_whole ht hs pl pu (by rw [hlen]; exact hw) ⟨.ref a, H, I, rfl, q1 hw⟩
  · refine HT.getItem_tuple_cut ht hs pl pu (by rw [hlen]; exact hw) ?_ (by rw [hlen]; exact hz)
    rw [hlen]
    exact ⟨.ref s.heap.objs.size, _, laidP (tk := s.toks) I (fun b ob q => Heap.get?_push_of_some _ q) (Nat.le_refl _) (Heap.get?_push_size _ rfl) ((r.drop (HT.sIx xs.length 0 lo)).take (HT.sIx xs.length xs.length hi - HT.sIx xs.length 0 lo)) (Nat.le_trans (cutV_length xs lo hi) hz), rfl, q2 hw _ _ (I.hok.fresh (Nat.le_refl _)) rfl⟩
def slD : D → Option Int → Option Int → Store → DK → Prop := fun x lo hi S post => (∃ xs, x = .tup xs ∧ post (.tup (cutD xs lo hi)) S) ∨ ∃ xs, seqOf S x xs ∧ (∀ ys, x ≠ .tup ys) ∧ post (.lr S.length) (S ++ [.lst (cutD xs lo hi)])
def dSl (te : DE) (tl th : DOp) : DE := fun ρ S post => te ρ S fun x S1 => tl ρ S1 fun lo S2 => th ρ S2 fun hi S3 => slD x lo hi S3 post
theorem RelDs.cut {K : PySem.W.Frag} {H : Hp} {A : List Addr} {ds : List D} {vs : List V} (r : RelDs K H A ds vs) (lo hi : Option Int) : RelDs K H A (cutD ds lo hi) (cutV vs lo hi) := by
  unfold cutD cutV
  rw [r.len]
  exact (r.drop _).take _
theorem cut_whole {α : Type} {xs : List α} {lo hi : Option Int} (h : HT.sIx xs.length 0 lo = 0 ∧ HT.sIx xs.length xs.length hi = xs.length) : cutD xs lo hi = xs := by
  unfold cutD
  rw [h.1, h.2]
  simp
theorem de_sl {X : Cx} {e : Expr} {lo hi : Option Expr} {te : DE} {tl th : DOp} {p2 pos : Pos} (he : PE X e (liftE X.K te)) (hl : PO X lo (liftO X.K tl)) (hh : PO X hi (liftO X.K th)) : PE X (.Subscript e (.Slice lo hi none p2) pos) (liftE X.K (dSl te tl th)) :=
  pe_mono (pe_slice (sl_tupP.or sl_list) he hl hh) fun σ H Q ⟨A, ρ, S, post, n, s, p, k⟩ => ⟨A, ρ, S, _, n, s, p, fun v H1 A1 d S1 e1 s1 r1 p1 =>
    ⟨A1, ρ, S1, _, n.ext e1, s1, p1, fun o1 H2 A2 S2 e2 s2 p2 => ⟨A2, ρ, S2, _, (n.ext e1).ext e2, s2, p2, fun o2 H3 A3 S3 e3 s3 p3 => by
      have k3 := (k.go (e1.trans (e2.trans e3)))
      have r3 := r1.ext (e2.trans e3)
      rcases p3 with ⟨xs, hx, p3⟩ | ⟨xs, hq, hx, p3⟩
      · subst hx
        obtain ⟨a, vs, rfl, ht, hv⟩ := id r3
        refine .inl ⟨a, vs, rfl, ht.sq, fun hw => ?_, fun hw p o hp ho => fin_tup s3 k3 hp ho (hv.cut o1 o2) p3⟩
        rw [hv.len] at hw
        rw [cut_whole hw] at p3
        exact k3.now s3 r3 p3
      · have hL : ∃ a us, v = .ref a ∧ SqL X.K H3 a us ∧ RelDs X.K H3 A3 xs us := by
          rcases hq with rfl | rfl | ⟨m, rfl, hn⟩
          · exact absurd rfl (hx _)
          · obtain ⟨a, us, e, h2, h3⟩ := r3
            exact ⟨a, us, e, h2.sq, h3⟩
          · obtain ⟨a, e, ha⟩ := r3
            obtain ⟨us, h1, h2⟩ := s3.get hn ha
            exact ⟨a, us, e, .inl (.inl h1), h2⟩
        obtain ⟨a, us, rfl, hs, w⟩ := hL
        exact .inr ⟨a, us, rfl, hs, fun p hp => fin_list s3 k3 hp (w.cut o1 o2) p3⟩⟩⟩⟩

/-! ### l.pop(i), l.extend(m) -/
def popK (o : D) (post : DK) (d : D) (S : Store) : Prop := ∃ (n : Nat) (ds : List D) (i : Int) (k : Nat) (y : D), o = .lr n ∧ S[n]? = some (.lst ds) ∧ d = .int i ∧ -1000000 ≤ i ∧ i ≤ 1000000 ∧ ixN ds.length i = some k ∧ ds[k]? = some y ∧ post y (S.set n (.lst (ds.eraseIdx k)))
def dPop (to te : DE) : DE := fun ρ S post => to ρ S fun o S1 => (∃ (n : Nat) (ds : List D), o = .lr n ∧ S1[n]? = some (.lst ds)) ∧ te ρ S1 (popK o post)
def extK (o : D) (post : DK) (d : D) (S : Store) : Prop := ∃ (n m : Nat) (ds es : List D), o = .lr n ∧ S[n]? = some (.lst ds) ∧ d = .lr m ∧ S[m]? = some (.lst es) ∧ ds.length + es.length ≤ 100000 ∧ post .non (S.set n (.lst (ds ++ es)))
def dExt (to te : DE) : DE := fun ρ S post => to ρ S fun o S1 => (∃ (n : Nat) (ds : List D), o = .lr n ∧ S1[n]? = some (.lst ds)) ∧ te ρ S1 (extK o post)
theorem RelDs.erase {K : PySem.W.Frag} {H : Hp} {A : List Addr} : ∀ {ds : List D} {vs : List V} (k : Nat), RelDs K H A ds vs → RelDs K H A (ds.eraseIdx k) (vs.eraseIdx k)
  | [], _, _, h => by
    rw [show _ = [] from h]
    exact rfl
  | _ :: _, _, 0, ⟨u, r, h1, _, h3⟩ => by
    rw [h1]
    exact h3
  | _ :: _, _, k + 1, ⟨u, r, h1, h2, h3⟩ => by
    rw [h1]
    exact ⟨u, _, rfl, h2, RelDs.erase k h3⟩
section
variable {X : Cx} {o a : Expr} {apos cpos : Pos} {to ta : DE}
theorem de_pop (ho : PE X o (liftE X.K to)) (ha : PE X a (liftE X.K ta)) (hbase : attributeBase o "pop" X.env (eval o X.env) = eval o X.env := by rfl)
    (hfew : ((backTo cpos (starEach [a] X.env)).all (fun x => !x.1) && (backToKw cpos (keywordEach [] X.env)).all (fun x => x.1.isSome)
      && decide ([a].length + ([] : List Keyword).length + (if ([] : List Keyword).isEmpty then 0 else 1) < 30)) = true := by rfl)
    (hline : (apos.endLine == cpos.line) = true := by rfl) (hs : starEach [a] X.env = (false, eval a X.env) :: starEach [] X.env := by rfl) (hplain : (backTo cpos (starEach [] X.env)).any (·.1) = false := by rfl) :
    PE X (.Call (.Attribute o "pop" apos) [a] [] cpos) (liftE X.K (dPop to ta)) := by
  refine pe_mono (pe_bm PySem.F.plainAttrs_list PySem.F.slot_list_pop PySem.F.type_list_pop mt_popAt ho (pa_cons ha pa_nil hs) hbase hfew hline hs hplain) ?_
  rintro σ H Q ⟨A, ρ, S, post, n, s, p, k⟩
  refine ⟨A, ρ, S, _, n, s, p, fun v1 H1 A1 d1 S1 e1 s1 r1 ⟨⟨m0, ds0, eq0, hm0⟩, p1⟩ => ?_⟩
  subst eq0
  obtain ⟨a1, rfl, ha1⟩ := r1
  obtain ⟨vs0, g1, w1⟩ := s1.get hm0 ha1
  refine ⟨.inl ⟨rfl, vs0, .inl (.inl g1)⟩, A1, ρ, S1, _, n.ext e1, s1, p1, fun v2 H2 A2 d2 S2 e2 s2 r2 ⟨m, ds, i, kk, y, eqm, hm, hd, b1, b2, hk, hy, p2⟩ => ?_⟩
  cases eqm
  subst hd
  cases (show v2 = .int i from r2)
  have ha2 := e2.at_ ha1
  obtain ⟨vs, h1, h2⟩ := s2.get hm ha2
  have hp : a1 ∈ A2 := List.mem_iff_getElem?.mpr ⟨m0, ha2⟩
  obtain ⟨u, hu, ru⟩ := h2.get hy
  have q1 : LdO (.lst vs) := .inl ⟨_, rfl⟩
  have q2 : LdO (.lst (vs.eraseIdx kk)) := .inl ⟨_, rfl⟩
  have e3 : Ext H2 A2 (upd H2 a1 (.lst (vs.eraseIdx kk))) A2 := ext_set (S := S2) hp h1 q1 q2
  exact ⟨a1, vs, i, kk, u, rfl, rfl, h1, by omega, by omega, by rw [h2.len]; exact (ixN_seq hk).1, hu, k _ _ A2 _ _ ((e1.trans e2).trans e3) (s2.set (en := .lst (ds.eraseIdx kk)) ha2 h1 q1 q2 ⟨_, upd_same, (h2.ext e3).erase kk⟩) (ru.ext e3) p2⟩
theorem de_ext (ho : PE X o (liftE X.K to)) (ha : PE X a (liftE X.K ta)) (hbase : attributeBase o "extend" X.env (eval o X.env) = eval o X.env := by rfl)
    (hfew : ((backTo cpos (starEach [a] X.env)).all (fun x => !x.1) && (backToKw cpos (keywordEach [] X.env)).all (fun x => x.1.isSome)
      && decide ([a].length + ([] : List Keyword).length + (if ([] : List Keyword).isEmpty then 0 else 1) < 30)) = true := by rfl)
    (hline : (apos.endLine == cpos.line) = true := by rfl) (hs : starEach [a] X.env = (false, eval a X.env) :: starEach [] X.env := by rfl) (hplain : (backTo cpos (starEach [] X.env)).any (·.1) = false := by rfl) :
    PE X (.Call (.Attribute o "extend" apos) [a] [] cpos) (liftE X.K (dExt to ta)) := by
  refine pe_mono (pe_bm PySem.F.plainAttrs_list PySem.F.slot_list_extend PySem.F.type_list_extend mt_extend ho (pa_cons ha pa_nil hs) hbase hfew hline hs hplain) ?_
  rintro σ H Q ⟨A, ρ, S, post, n, s, p, k⟩
  refine ⟨A, ρ, S, _, n, s, p, fun v1 H1 A1 d1 S1 e1 s1 r1 ⟨⟨m0, ds0, eq0, hm0⟩, p1⟩ => ?_⟩
  subst eq0
  obtain ⟨a1, rfl, ha1⟩ := r1
  obtain ⟨vs0, g1, w1⟩ := s1.get hm0 ha1
  refine ⟨.inl ⟨rfl, vs0, .inl (.inl g1)⟩, A1, ρ, S1, _, n.ext e1, s1, p1, fun v2 H2 A2 d2 S2 e2 s2 r2 ⟨m, m2, ds, es, eqm, hm, hd, hm2, hl, p2⟩ => ?_⟩
  cases eqm
  subst hd
  obtain ⟨a2, rfl, hb2⟩ := r2
  have ha2 := e2.at_ ha1
  obtain ⟨vs, h1, h2⟩ := s2.get hm ha2
  obtain ⟨us, g2, w2⟩ := s2.get hm2 hb2
  have hp : a1 ∈ A2 := List.mem_iff_getElem?.mpr ⟨m0, ha2⟩
  have q1 : LdO (.lst vs) := .inl ⟨_, rfl⟩
  have q2 : LdO (.lst (vs ++ us)) := .inl ⟨_, rfl⟩
  have e3 : Ext H2 A2 (upd H2 a1 (.lst (vs ++ us))) A2 := ext_set (S := S2) hp h1 q1 q2
  exact ⟨a1, a2, vs, us, rfl, rfl, h1, g2, by rw [h2.len, w2.len]; exact le_line hl, k .non _ A2 .non _ ((e1.trans e2).trans e3) (s2.set (en := .lst (ds ++ es)) ha2 h1 q1 q2 ⟨_, upd_same, (h2.ext e3).append (w2.ext e3)⟩) rfl p2⟩
end

/-! ### unpacking lists too -/
def gTupA (n : Nat) (gs : DGs) : DG := fun d ρ S post => gTup n gs d ρ S post ∨ ∃ ds, (d = .rl ds ∨ ∃ m : Nat, d = .lr m ∧ S[m]? = some (.lst ds)) ∧ ds.length = n ∧ gs ds ρ S post
theorem dg_tupA {X : Cx} {pos : Pos} {es : List Expr} {k : Nat} {gs : DGs} {n : Nat} {ws : List Nat} (hc : X.calm = true) (h : PGs X es (liftWs X.K ws gs)) (hn : (assignEach es X.env).length = n := by rfl) (hst : (assignEach es X.env).findIdx? (·.1) = none := by rfl) :
    PG X (.Tuple es k pos) (liftW X.K ws (gTupA n gs)) := by
  refine ⟨fun pins s σ H v u Q I r ⟨A, ρ, S, d, post, nn, rs, rd, p, kk⟩ => ?_⟩
  rcases p with p | ⟨ds, e, hl, p⟩
  · exact (dg_tup hc h hn hst).run pins s σ H v u Q I r ⟨A, ρ, S, d, post, nn, rs, rd, p, kk⟩
  · have hr : ∃ a vs, v = .ref a ∧ SqL X.K H a vs ∧ RelDs X.K H A ds vs := by
      rcases e with rfl | ⟨m, rfl, hm⟩
      · obtain ⟨a, vs, q, h2, h3⟩ := rd
        exact ⟨a, vs, q, h2.sq, h3⟩
      · obtain ⟨a, q, ha⟩ := rd
        obtain ⟨vs, h1, h2⟩ := rs.get hm ha
        exact ⟨a, vs, q, .inl (.inl h1), h2⟩
    obtain ⟨a, vs, rfl, h2, h3⟩ := hr
    exact (pg_unl hc h hn hst).run pins s σ H _ u Q I r ⟨a, vs, rfl, h2, by rw [h3.len]; exact hl, A, ρ, S, ds, post, nn, rs, h3, p, kk⟩
end DL
/-! ZO: two names at once, xs[i] += e, tuples compared, pairs sorted, dicts with tuples of ints as keys that nobody writes. -/
namespace DL
open PySem PySem.Spec PyProof.Rows L2
variable [HasT]

/-! ### a, b = x, y -/
section
variable {X : Cx}
def tPar2 (i j : Nat) (ta : TA) : TS := fun D σ H => ta σ H fun vs H1 => ∃ u v, vs = [u, v] ∧ D.nx ((σ.set i (some u)).set j (some v)) H1
theorem ps_par2 {i j : Nat} {x y : Str} {a b : Expr} {ta : TA} {px py pt pos : Pos} {kt k2 pt2} (hc : X.calm = true) (hN : X.N.Nodup) (hi : X.N[i]? = some x) (hj : X.N[j]? = some y) (hij : i ≠ j)
    (hx : X.env.scope.names.lookup x = some .local) (hy : X.env.scope.names.lookup y = some .local) (ha : PA X [a, b] ta)
    (hw : swappedStores [.Tuple [.Name x px, .Name y py] kt pt] (.Tuple [a, b] k2 pt2) X.env = pure (some [x, y]))
    (hs : swapsWithSole [.Tuple [.Name x px, .Name y py] kt pt] (.Tuple [a, b] k2 pt2) pos.line X.env = pure false := by rfl) :
    PS X (.Assign [.Tuple [.Name x px, .Name y py] kt pt] (.Tuple [a, b] k2 pt2) pos) (tPar2 i j ta) := by
  refine ⟨fun pins s σ H D I h => ?_⟩
  rw [exec_Assign_arm]
  refine wpAny_bind (wpAny_standAt ?_)
  rw [hs]
  refine wpAny_bind (wpAny_pure ?_)
  rw [if_neg (by decide)]
  refine wpAny_bind (Tuple_ (thn (ha.run _ pins s σ H _ I h) fun us s1 ⟨vs, H1, I1, r1, q1⟩ => ?_))
  obtain ⟨v1, v2, e1, q1⟩ := q1
  subst e1
  obtain ⟨u1, u2, rfl, r1', r2'⟩ : ∃ u1 u2, us = [u1, u2] ∧ RelV v1 u1 ∧ RelV v2 u2 := by
    cases r1 with
    | cons p q =>
      cases q with
      | cons p' q' =>
        cases q'
        exact ⟨_, _, rfl, p, p'⟩
  refine wpAny_newObj_type ?_ (by show 2 ≤ sizeLine; decide)
  have I2 : Inv X pins σ H1 { s1 with heap := s1.heap.push { cls := .type "tuple", data := .seq [u1, u2].toArray } } := I1.kept (t' := s1.toks) fun b o e => Heap.get?_push_of_some _ e
  rw [hw]
  refine wpAny_bind (wpAny_pure ?_)
  show wpAny (model X.prog X.w) X.A (do rule "assign.swapped-stores"; let items ← unpackItems (.ref s1.heap.objs.size) 2 none; assignInOrder [fun v => bindName X.env y v, fun v => bindName X.env x v] items.reverse; pure Flow.next) _ _ _
  refine wpAny_bind (wpAny_rule (wpAny_bind (unpackItems_tuple (items := #[u1, u2]) (I.ok.hd hc) (IsTup.new s1.heap _) fun h' hx' => ?_)))
  have I3 := I2.kept (h' := h') (t' := s1.toks) fun b o e => hx' b o (Nat.ne_of_lt (Heap.lt_size e)) e
  show wpAny _ _ (assignInOrder [fun v => bindName X.env y v, fun v => bindName X.env x v] [u2, u1] >>= fun _ => pure Flow.next) _ _ _
  refine wpAny_bind (assignInOrder_cons (wpAny_bindName (store_ok I3 hN hj (.inl hy) r2' (fun s2 I4 => ?_) (.inr hy))))
  refine assignInOrder_cons (wpAny_bindName (store_ok I4 hN hi (.inl hx) r1' (fun s3 I5 => assignInOrder_nil (wpAny_pure ?_)) (.inr hx)))
  rw [List.set_comm _ _ (Ne.symm hij)] at I5
  exact ⟨_, H1, I5, q1⟩
theorem ds_par2 {W : WX} {i j : Nat} {x y : Str} {a b : Expr} {ta : DA} {px py pt pos : Pos} {kt k2 pt2} (hc : X.calm = true) (hN : X.N.Nodup) (ha : PA X [a, b] (liftA X.K ta)) (hi : X.N[i]? = some x := by rfl) (hj : X.N[j]? = some y := by rfl)
    (hij : i ≠ j := by decide) (hx : X.env.scope.names.lookup x = some .local := by rfl) (hy : X.env.scope.names.lookup y = some .local := by rfl)
    (hw : swappedStores [.Tuple [.Name x px, .Name y py] kt pt] (.Tuple [a, b] k2 pt2) X.env = pure (some [x, y]) := by rfl)
    (hs : swapsWithSole [.Tuple [.Name x px, .Name y py] kt pt] (.Tuple [a, b] k2 pt2) pos.line X.env = pure false := by rfl) :
    PS X (.Assign [.Tuple [.Name x px, .Name y py] kt pt] (.Tuple [a, b] k2 pt2) pos) (liftS X.K W (dPar2 i j ta)) :=
  ps_mono (ps_par2 hc hN hi hj hij hx hy ha hw hs) fun Dn σ H ⟨A, ρ, S, E, n, s, h, k1, k2, k3, k4⟩ => ⟨A, ρ, S, _, n, s, h, fun vs H' A' ds S' e s' r ⟨u, v, hd, p⟩ => by
    subst hd
    obtain ⟨v1, v2, rfl, g1, g2⟩ := rels2 r
    exact ⟨v1, v2, rfl, k1 _ H' A' _ S' e (((n.ext e).set i g1).set j g2) s' p⟩⟩
end

/-! ### xs[i] += e, ints -/
def rGetL : V → V → Hp → VK → Prop := fun o i H Q => ∃ (a : Addr) (xs : List V) (k : Int) (y : V), o = .ref a ∧ i = .int k ∧ H a = some (.lst xs) ∧ L2.atI xs k = some y ∧ Q y H
theorem get_list {X : Cx} : PGet X rGetL := by
  intro pins s σ H x y v u Q I rx ry h
  obtain ⟨p, xs, i, z, rfl, rfl, hq, he, q⟩ := h
  cases rx
  obtain ⟨t, rfl⟩ := ry
  obtain ⟨its, r, pl, hz⟩ := I.list (.inl (.inl hq) : SqL X.K H p xs)
  obtain ⟨j, h1, h2, h3, h4, h5⟩ := atI_get he
  obtain ⟨w, ew, rw'⟩ := r.get h2
  have hl := r.length
  have hn := line63
  have fin : EP X pins σ Q w s := ⟨z, H, I, rw', q⟩
  by_cases h0 : 0 ≤ i
  · have hj : i.toNat = j := by
      rw [seqIndex_of h0 h5] at h1
      exact Option.some.inj h1
    exact wpAny_getItem_list pl.isList h0 (by omega) (by rw [hj]; simpa using ew) fin
  · have hj : (i + (its.toArray.size : Int)).toNat = j := by
      rw [seqIndex_neg (by omega) h4] at h1
      rw [List.size_toArray, ← hl]
      exact Option.some.inj h1
    exact wpAny_getItem_list_neg pl.isList (by omega) (by rw [List.size_toArray] <;> omega) (by omega) (by rw [hj]; simpa using ew) fin
def augK (f : Int → Int → Int) (o i : D) (x : Int) (post : Store → Prop) (y : D) (S : Store) : Prop := ∃ (z : Int), y = .int z ∧ setSeq o i (.int (f x z)) S post
def dAugS (f : Int → Int → Int) (to ti te : DE) : DS := fun E ρ S => to ρ S fun o S1 => ti ρ S1 fun i S2 => (∃ (n : Nat) (ds : List D) (k : Int) (x : Int), o = .lr n ∧ S2[n]? = some (.lst ds) ∧ i = .int k ∧ L2.atI ds k = some (.int x) ∧ te ρ S2 (augK f o i x (E.nx ρ)))
theorem ds_augAdd {X : Cx} {W : WX} {o i e : Expr} {to ti te : DE} {tpos pos : Pos} (ho : PE X o (liftE X.K to)) (hi : PE X i (liftE X.K ti)) (he : PE X e (liftE X.K te))
    (ha : ∀ ov iv new, augStore i ov iv new = (do holding [new, ov, iv] (setItem ov iv new); release [new, ov, iv] []; pure .next) := by intros; rfl) :
    PS X (.AugAssign (.Subscript o i tpos) .Add e pos) (liftS X.K W (dAugS (fun i j => i + j) to ti te)) :=
  ps_mono (ps_augS ho hi get_list he ip_add set_list ha) fun Dn σ H ⟨A, ρ, S, E, n, s, h, k1, k2, k3, k4⟩ => ⟨A, ρ, S, _, n, s, h, fun v1 H1 A1 d1 S1 e1 s1 r1 p1 =>
    ⟨A1, ρ, S1, _, n.ext e1, s1, p1, fun v2 H2 A2 d2 S2 e2 s2 r2 ⟨m, ds, k, x, hd1, hm, hd2, hat, p2⟩ => by
      subst hd1 hd2
      obtain ⟨a, rfl, ha1⟩ := r1
      have ha2 := e2.at_ ha1
      obtain ⟨vs, g1, g2⟩ := s2.get hm ha2
      cases (show v2 = .int k from r2)
      obtain ⟨u, hu, ru⟩ := g2.atI hat
      cases (show u = .int x from ru)
      refine ⟨a, vs, k, .int x, rfl, rfl, g1, hu, A2, ρ, S2, _, (n.ext e1).ext e2, s2, p2, fun v3 H3 A3 d3 S3 e3 s3 r3 ⟨z, hz, p3⟩ => ?_⟩
      subst hz
      cases (show v3 = .int z from r3)
      refine ⟨x, z, rfl, rfl, ?_⟩
      have e123 := (e1.trans e2).trans e3
      exact rul_set (K := X.K) H3 A3 S3 (.lr m) (.int k) (.int (x + z)) (.ref a) (.int k) (.int (x + z)) _ _ s3 ⟨a, rfl, e3.at_ ha2⟩ rfl rfl p3 fun H4 A4 S4 e4 s4 p4 => k1 σ H4 A4 ρ S4 (e123.trans e4) (n.ext (e123.trans e4)) s4 p4⟩⟩

/-! ### tuples of ints compared -/
def oLt2 : D2 := fun x y S post => (match x, y with
  | .int i, .int j => post (.bl (decide (i < j))) S
  | _, _ => False) ∨ ∃ ns ms : List Int, x = .tup (ns.map .int) ∧ y = .tup (ms.map .int) ∧ post (.bl (HT.lexLt ns ms)) S
def rLt2 (K : PySem.W.Frag) : R2 := fun x y H Q => rI0 (fun i j => .bl (decide (i < j))) x y H Q ∨ rLtT K x y H Q
theorem op_lt2 {X : Cx} (hu : X.A.units + 64 < cLine) : OpR X (compareOp .Lt) (rLt2 X.K) := OpR.or op_lt (op_ltT (by omega))
theorem rul_lt2 {K : PySem.W.Frag} : Rul2 K oLt2 (rLt2 K) := by
  intro H A S d1 d2 v1 v2 post Q s r1 r2 h k
  rcases h with h | ⟨ns, ms, rfl, rfl, p⟩
  · cases d1 <;> cases d2 <;> try exact False.elim h
    rename_i i j
    cases (show v1 = .int i from r1)
    cases (show v2 = .int j from r2)
    exact .inl ⟨i, j, rfl, rfl, k.now (d := .bl _) s rfl h⟩
  · obtain ⟨a, us, e1, h1, w1⟩ := r1
    obtain ⟨b, ws, e2, h2, w2⟩ := r2
    have q1 := rels_int w1
    have q2 := rels_int w2
    subst q1 q2
    exact .inr ⟨a, b, ns, ms, e1, e2, h1.sq, h2.sq, k.now (d := .bl _) s rfl p⟩

/-! ### sorted(xs), pairs of ints -/
def pT (p : Int × Int) : D := .tup [.int p.1, .int p.2]
def lexLe (p q : Int × Int) : Prop := p.1 < q.1 ∨ (p.1 = q.1 ∧ p.2 ≤ q.2)
def intOf : Value → Int
  | .int i _ => i
  | _ => 0
def intsAt (h : Heap) : Value → Int × Int
  | .ref t => match h.get? t with
    | some o => match o.data with
      | .seq its _ => (intOf (its.getD 0 .none), intOf (its.getD 1 .none))
      | _ => (0, 0)
    | none => (0, 0)
  | _ => (0, 0)
def rSortedPT (K : PySem.W.Frag) : List V → Hp → VK → Prop := fun vs H Q => ∃ (a : Addr) (as : List (Addr × Int × Int)), vs = [V.ref a] ∧ SqL K H a (as.map fun t => V.ref t.1) ∧ (∀ t ∈ as, SqT K H t.1 [.int t.2.1, .int t.2.2]) ∧
  ∀ (bs : List (Addr × Int × Int)) (p : Addr), bs.Perm as → (bs.map (·.2)).Pairwise lexLe → H p = none → Q (.ref p) (upd H p (.lst (bs.map fun t => V.ref t.1)))
theorem vals_refs : ∀ {as : List (Addr × Int × Int)} {us : List Value}, Vals (as.map fun t => V.ref t.1) us → us = as.map fun t => Value.ref t.1
  | [], us, r => by
    cases r
    rfl
  | t :: as, us, r => by
    cases r with
    | cons h t' =>
      cases h
      rw [vals_refs t', List.map_cons]
theorem cr_sortedPT {X : Cx} : CallR X (.builtin "sorted") (rSortedPT X.K) := by
  intro pins s σ H vs us Q I r h
  obtain ⟨a, as, rfl, hs, hx, q⟩ := h
  obtain ⟨its, rv, hl, hz⟩ := I.list hs
  obtain ⟨u, rfl, ru⟩ := vals1 r
  obtain rfl : u = Value.ref a := ru
  have ei := vals_refs rv
  subst ei
  have hk : ∀ t ∈ as, Srt.IsPair s.heap (.ref t.1) t.2.1 t.2.2 ∧ intsAt s.heap (.ref t.1) = t.2 := fun t ht => by
    obtain ⟨its2, r2, ⟨o, ho, hc, n, hd⟩, _⟩ := I.tuple (hx t ht)
    obtain ⟨u1, u2, rfl, ri, rj⟩ := vals2 r2
    obtain ⟨t1, rfl⟩ := ri
    obtain ⟨t2, rfl⟩ := rj
    refine ⟨⟨t.1, o, t1, t2, n, rfl, ho, hc, hd⟩, ?_⟩
    unfold intsAt
    simp only [ho, hd]
    rfl
  refine SrtO.sorted_pairsO (k := intsAt s.heap) hl.isList (by rw [← rv.length]; exact hz) (fun v hv => ?_) fun h' d out h1 h2 kp hd hn => ?_
  · obtain ⟨t, ht, rfl⟩ := List.mem_map.mp hv
    obtain ⟨g1, g2⟩ := hk t ht
    rw [g2]
    exact g1
  · obtain ⟨n, hn⟩ := hn
    -- what stands there, as triples
    have hmem : ∀ v ∈ out, ∃ t ∈ as, v = Value.ref t.1 := fun v hv => by
      obtain ⟨t, ht, e⟩ := List.mem_map.mp (h2.perm.mem_iff.mp hv)
      exact ⟨t, ht, e.symm⟩
    let mk : Value → Addr × Int × Int := fun v => (match v with | .ref t => t | _ => 0, intsAt s.heap v)
    have mk_of : ∀ t ∈ as, mk (.ref t.1) = t := fun t ht => by
      show (t.1, intsAt s.heap (.ref t.1)) = t
      rw [(hk t ht).2]
    have hp : (out.map mk).Perm as := by
      have := h2.perm.map mk
      rw [List.map_map] at this
      have e : as.map (mk ∘ fun t => Value.ref t.1) = as := by
        conv => rhs; rw [← List.map_id as]
        exact List.map_congr_left fun t ht => mk_of t ht
      rwa [e] at this
    have eo : (out.map mk).map (fun t => V.ref t.1) = out.map backV := by
      rw [List.map_map]
      refine List.map_congr_left fun v hv => ?_
      obtain ⟨t, _, rfl⟩ := hmem v hv
      rfl
    have e2 : (out.map mk).map (·.2) = out.map (intsAt s.heap) := by
      rw [List.map_map]
      rfl
    have h3 : ∀ u ∈ out, ∃ a, u = Value.ref a := fun u hu => by
      obtain ⟨t, _, e⟩ := hmem u hu
      exact ⟨_, e⟩
    have hs2 : ((out.map mk).map (·.2)).Pairwise lexLe := by
      rw [e2]
      refine List.pairwise_map.mpr (h1.imp fun {x y} hxy => ?_)
      have := SrtO.lexB_no.mp hxy
      unfold lexLe
      omega
    refine ⟨.ref d, upd H d (.lst ((out.map mk).map fun t => V.ref t.1)), I.laid (t' := s.toks) kp hd ⟨?_, out, n, by rw [eo]; exact vals_back h3, hn⟩, rfl, q _ d hp hs2 (I.hok.fresh hd)⟩
    rw [List.length_map, hp.length_eq]
    simpa using hz
theorem rels_pT {K : PySem.W.Frag} {H : Hp} {A : List Addr} : ∀ {ps : List (Int × Int)} {vs : List V}, RelDs K H A (ps.map pT) vs → ∃ as : List (Addr × Int × Int), vs = as.map (fun t => V.ref t.1) ∧ as.map (·.2) = ps ∧ ∀ t ∈ as, RelD K H A (pT t.2) (.ref t.1) ∧ SqT K H t.1 [.int t.2.1, .int t.2.2]
  | [], _, h => ⟨[], h, rfl, fun _ q => nomatch q⟩
  | p :: ps, _, ⟨v, r, rfl, h1, h2⟩ => by
    obtain ⟨as, rfl, e, hh⟩ := rels_pT h2
    obtain ⟨a, us, rfl, ht, hv⟩ := id h1
    obtain ⟨x, y, rfl, rx, ry⟩ := rels2 hv
    cases (show x = .int _ from rx)
    cases (show y = .int _ from ry)
    refine ⟨(a, p) :: as, rfl, by rw [List.map_cons, e], fun t ht2 => ?_⟩
    rcases List.mem_cons.mp ht2 with rfl | ht2
    · exact ⟨h1, ht.sq⟩
    · exact hh t ht2
theorem pT_rels {K : PySem.W.Frag} {H : Hp} {A : List Addr} : ∀ {as : List (Addr × Int × Int)}, (∀ t ∈ as, RelD K H A (pT t.2) (.ref t.1)) → RelDs K H A ((as.map (·.2)).map pT) (as.map fun t => V.ref t.1)
  | [], _ => rfl
  | t :: as, h => ⟨_, _, rfl, h t List.mem_cons_self, pT_rels fun u hu => h u (List.mem_cons_of_mem _ hu)⟩
def cSortedP : DC := fun ds S post => ∃ (x : D) (ps : List (Int × Int)), ds = [x] ∧ seqOf S x (ps.map pT) ∧ (∀ ys, x ≠ .tup ys) ∧ ∀ qs : List (Int × Int), qs.Perm ps → qs.Pairwise lexLe → post (.lr S.length) (S ++ [.lst (qs.map pT)])
theorem perm_back {α β : Type} [DecidableEq α] (f : α → β) : True := trivial
theorem rul_sortedP {K : PySem.W.Frag} : RulC K cSortedP (rSortedPT K) := by
  intro H A S ds vs post Q s r hh k
  obtain ⟨x, ps, rfl, hq, hx, h⟩ := hh
  obtain ⟨v, rfl, rv⟩ := rels1 r
  obtain ⟨a, us, rfl, hs, w⟩ := seq_list s hq hx rv
  obtain ⟨as, rfl, e, hh⟩ := rels_pT w
  refine ⟨a, as, rfl, hs, fun t ht => (hh t ht).2, fun bs p hp hs2 hn => ?_⟩
  refine fin_list s k hn (pT_rels fun t ht => (hh t (hp.mem_iff.mp ht)).1) (h _ (by rw [← e]; exact hp.map _) hs2)
def cSortedB : DC := fun ds S post => cSorted ds S post ∨ cSortedP ds S post
def rSortedB (K : PySem.W.Frag) : List V → Hp → VK → Prop := fun xs H Q => (rSortedI K xs H Q ∨ rSortedDI xs H Q) ∨ rSortedPT K xs H Q
theorem call_sortedB {X : Cx} (hc : X.calm = true) : CallR X (.builtin "sorted") (rSortedB X.K) := CallR.or (call_sortedA hc) cr_sortedPT
theorem rul_sortedB {K : PySem.W.Frag} : RulC K cSortedB (rSortedB K) := by
  intro H A S ds vs post Q s r hh k
  rcases hh with hh | hh
  · exact .inl (rul_sorted H A S ds vs post Q s r hh k)
  · exact .inr (rul_sortedP H A S ds vs post Q s r hh k)
end DL
/-! ZP: for a, b in zip(x, y); for i, a in enumerate(x). -/
namespace DL
open PySem PySem.Spec PyProof.Rows L2
variable [HasT]

/-! ### zip of two -/
def It2 (K : PySem.W.Frag) (x1 x2 : D) (a1 a2 : Addr) : It where
  go := fun i H => ∃ A S xs1 xs2, Src K x1 a1 xs1 H A S ∧ Src K x2 a2 xs2 H A S ∧ i < xs1.length ∧ i < xs2.length
  yld := fun i H x H' => ∃ T v1 v2, x = .ref T ∧ H T = none ∧ H' = upd H T (.tup [v1, v2]) ∧ ValAt K x1 a1 i H v1 ∧ ValAt K x2 a2 i H v2
  stop := fun i H => ∃ A S xs1 xs2, Src K x1 a1 xs1 H A S ∧ Src K x2 a2 xs2 H A S ∧ i = min xs1.length xs2.length
theorem turn2 {P : Program} {w : World} {K : PySem.W.Frag} {elts : List Expr} {kk : Nat} {tpos : Pos} {x1 x2 : D} {a1 a2 z TI TO i1 i2 : Addr} (S2 : ZipSep2 z TI TO i1 i2 [i1, a1] [i2, a2]) (n1 : a1 ≠ i1) (n2 : a2 ≠ i2) :
    Turn P w K (.Tuple elts kk tpos) (It2 K x1 x2 a1 a2) [z, TI, TO, i1, i2] z (fun i h => IsZip h z TI TO .none ∧ IsTupOf2 h TI (.ref i1) (.ref i2) ∧ (∃ b1 b2, IsTupOf2 h TO b1 b2) ∧ SIt (kindD x1) h i1 a1 i ∧ SIt (kindD x2) h i2 a2 i) where
  mem := by simp
  obj := fun i h st c hc => by
    obtain ⟨hz, hTI, ⟨_, _, hTO⟩, h1, h2⟩ := st
    have hc' : c = z ∨ c = TI ∨ c = TO ∨ c = i1 ∨ c = i2 := by simpa using hc
    rcases hc' with rfl | rfl | rfl | rfl | rfl
    · exact ⟨_, hz, fun v q => nomatch q⟩
    · exact ⟨_, hTI, fun v q => nomatch q⟩
    · exact ⟨_, hTO, fun v q => nomatch q⟩
    · exact h1.obj
    · exact h2.obj
  keep := fun i h h' st k => by
    obtain ⟨hz, hTI, ⟨b1, b2, hTO⟩, h1, h2⟩ := st
    exact ⟨k z (by simp) _ hz, k TI (by simp) _ hTI, ⟨b1, b2, k TO (by simp) _ hTO⟩, h1.at_ fun o q => k i1 (by simp) o q, h2.at_ fun o q => k i2 (by simp) o q⟩
  item := by
    intro X hP hw hK hc i pins s σ H E I hf st hg
    subst hP hw hK
    obtain ⟨hz, hTI, hTO, h1, h2⟩ := st
    obtain ⟨A, S, xs1, xs2, c1, c2, l1, l2⟩ := hg
    obtain ⟨t1, vs1, rv1, r1, p1, m1⟩ := src_inv I c1
    obtain ⟨t2, vs2, rv2, r2, p2, m2⟩ := src_inv I c2
    have hh : X.A.in1.handled = none := I.ok.hd hc
    have G := GoesN.zip2 (prog := X.prog) (w := X.w) (A := X.A) (elts := elts) (x1 := kk) (pos := tpos) S2 (sdraws (kindD x1) hh i1 a1 n1 t1.toArray) (sdraws (kindD x2) hh i2 a2 n2 t2.toArray)
    have hlt : i < min t1.toArray.size t2.toArray.size := by
      simp only [List.size_toArray]
      omega
    refine thn (G.goes i s (fun v s2 => ∃ x H', Inv X pins σ H' s2 ∧ RelV x v ∧ (It2 X.K x1 x2 a1 a2).yld i H x H' ∧ (IsZip s2.heap z TI TO .none ∧ IsTupOf2 s2.heap TI (.ref i1) (.ref i2) ∧ (∃ b1 b2, IsTupOf2 s2.heap TO b1 b2) ∧ SIt (kindD x1) s2.heap i1 a1 (i + 1) ∧ SIt (kindD x2) s2.heap i2 a2 (i + 1)) ∧ ∀ b ∈ [z, TI, TO, i1, i2], H' b = none) _ hlt ⟨hz, hTI, hTO, ⟨h1, p1⟩, ⟨h2, p2⟩⟩ fun v h' tk hY st' hkp htk => ?_) fun r s1 q => q
    obtain ⟨T, u1, u2, rfl, hnew, y1, y2, hT⟩ := hY
    obtain ⟨v1, d1, ru1, hd1, rd1⟩ := src_item rv1 r1 y1
    obtain ⟨v2, d2, ru2, hd2, rd2⟩ := src_item rv2 r2 y2
    have nw : ObjOk X.prog X.w (upd H T (.tup [v1, v2])) h' T (.tup [v1, v2]) := ⟨by show 2 ≤ sizeLine; decide, [u1, u2], .cons ru1 (.cons ru2 .nil), hT⟩
    have I1 : Inv X pins σ (upd H T (.tup [v1, v2])) { s with heap := h', toks := tk } := I.turnedNew (ch := [z, TI, TO, i1, i2]) (fun c o hb q => hkp c o (fun q' => hb (by simp at q' ⊢; rcases q' with e | e | e | e <;> simp [e])) q) hf hnew nw
    obtain ⟨g1, g2, g3, ⟨g4, _⟩, ⟨g5, _⟩⟩ := st'
    refine ⟨.ref T, _, I1, rfl, ⟨T, v1, v2, rfl, I.hok.fresh hnew, rfl, valAt_of I p1 y1 ru1, valAt_of I p2 y2 ru2⟩, ⟨g1, g2, g3, g4, g5⟩, fun c hcm => ?_⟩
    obtain ⟨o, ho, _⟩ : ∃ o, s.heap.get? c = some o ∧ True := by
      obtain ⟨b1, b2, hTO'⟩ := hTO
      have hc' : c = z ∨ c = TI ∨ c = TO ∨ c = i1 ∨ c = i2 := by simpa using hcm
      rcases hc' with rfl | rfl | rfl | rfl | rfl
      · exact ⟨_, hz, trivial⟩
      · exact ⟨_, hTI, trivial⟩
      · exact ⟨_, hTO', trivial⟩
      · exact ⟨_, h1.obj.choose_spec.1, trivial⟩
      · exact ⟨_, h2.obj.choose_spec.1, trivial⟩
    rw [upd_ne (Nat.ne_of_lt (Nat.lt_of_lt_of_le (Heap.lt_size ho) hnew))]
    exact (hf c hcm).1
  done := by
    intro X hP hw hK hc i pins s σ H E I hf st hg
    subst hP hw hK
    obtain ⟨hz, hTI, hTO, h1, h2⟩ := st
    obtain ⟨A, S, xs1, xs2, c1, c2, hi⟩ := hg
    obtain ⟨t1, vs1, rv1, r1, p1, m1⟩ := src_inv I c1
    obtain ⟨t2, vs2, rv2, r2, p2, m2⟩ := src_inv I c2
    have hh : X.A.in1.handled = none := I.ok.hd hc
    have G := GoesN.zip2 (prog := X.prog) (w := X.w) (A := X.A) (elts := elts) (x1 := kk) (pos := tpos) S2 (sdraws (kindD x1) hh i1 a1 n1 t1.toArray) (sdraws (kindD x2) hh i2 a2 n2 t2.toArray)
    have hi' : i = min t1.toArray.size t2.toArray.size := by
      simp only [List.size_toArray]
      rw [m1, m2]
      exact hi
    subst hi'
    exact G.stops s _ _ ⟨hz, hTI, hTO, ⟨h1, p1⟩, ⟨h2, p2⟩⟩ fun h' tk hkp htk => I.turnedL (ch := [z, TI, TO, i1, i2]) (fun c o hb q => hkp c o (fun q' => hb (by simp at q' ⊢; rcases q' with e | e | e | e <;> simp [e])) q) hf
  self := fun A i s Q E st h => wpAny_pyIter_zip st.1 h
def zip2D (xs ys : List D) : List D := (xs.zip ys).map fun p => D.ztup [p.1, p.2]
theorem zip2D_len (xs ys : List D) : (zip2D xs ys).length = min xs.length ys.length := by
  simp only [zip2D, List.length_map, List.length_zip]
theorem zip2D_get {xs ys : List D} {i : Nat} {d : D} (h : (zip2D xs ys)[i]? = some d) : ∃ a b, xs[i]? = some a ∧ ys[i]? = some b ∧ d = .ztup [a, b] := by
  have hi := (List.getElem?_eq_some_iff.mp h).1
  rw [zip2D_len] at hi
  have h1 : i < xs.length := by omega
  have h2 : i < ys.length := by omega
  refine ⟨xs[i], ys[i], List.getElem?_eq_getElem h1, List.getElem?_eq_getElem h2, ?_⟩
  obtain ⟨_, e⟩ := List.getElem?_eq_some_iff.mp h
  rw [← e]
  simp [zip2D]
def wZip2 (t : DA) : DIt := fun ρ S post => t ρ S fun ds S1 => ∃ x y xs ys, ds = [x, y] ∧ seqOf S1 x xs ∧ seqOf S1 y ys ∧ post (zip2D xs ys) (fun S2 => seqOf S2 x xs ∧ seqOf S2 y ys) S1
theorem itok2 {K : PySem.W.Frag} {H : Hp} {A : List Addr} {x y : D} {a b : Addr} {xs ys : List D} (rx : RelD K H A x (.ref a)) (ry : RelD K H A y (.ref b)) :
    ItOk K (It2 K x y a b) H A (zip2D xs ys) fun S2 => seqOf S2 x xs ∧ seqOf S2 y ys := by
  intro H2 A2 S2 e s ⟨q1, q2⟩
  have s1 : Src K x a xs H2 A2 S2 := ⟨s, rx.ext e, q1⟩
  have s2 : Src K y b ys H2 A2 S2 := ⟨s, ry.ext e, q2⟩
  refine ⟨⟨A2, S2, xs, ys, s1, s2, zip2D_len ..⟩, fun i d hd => ?_⟩
  obtain ⟨d1, d2, h1, h2, rfl⟩ := zip2D_get hd
  refine ⟨⟨A2, S2, xs, ys, s1, s2, (List.getElem?_eq_some_iff.mp h1).1, (List.getElem?_eq_some_iff.mp h2).1⟩, fun v H3 hy => ?_⟩
  obtain ⟨T, v1, v2, rfl, hT, rfl, w1, w2⟩ := hy
  obtain ⟨e1, g1, r1⟩ := w1 A2 S2 xs s1
  obtain ⟨e2, g2, r2⟩ := w2 A2 S2 ys s2
  rw [h1] at g1
  rw [h2] at g2
  cases g1
  cases g2
  exact ⟨same_upd hT, tup_rel hT ⟨v1, _, rfl, r1, v2, _, rfl, r2, rfl⟩⟩
theorem di_zip2 {X : Cx} {e1 e2 : Expr} {t : DA} {p pos tpos : Pos} {elts : List Expr} {kk : Nat} (hg : Gl X "zip") (hm : X.mg "zip" = none) (ha : PA X [e1, e2] (liftA X.K t))
    (hs : starEach [e1, e2] X.env = (false, eval e1 X.env) :: starEach [e2] X.env := by rfl) (hpl : (backTo pos (starEach [e2] X.env)).any (·.1) = false := by rfl) :
    PI X (.Tuple elts kk tpos) (.Call (.Name "zip" p) [e1, e2] [] pos) (liftI X.K (wZip2 t)) := by
  refine ⟨fun pins s σ H R I ⟨A, ρ, S, post, n, rs, h, k⟩ => ?_⟩
  refine Call_ (ld_blt I hg hm PyProof.Rows.boot_zip (PyProof.Rows.callWith_type1 (thn (ha.run pos pins s σ H (fun vs H1 => ∃ a b A1 S1 x y xs ys, vs = [.ref a, .ref b] ∧ Ext H A H1 A1 ∧ Src X.K x a xs H1 A1 S1 ∧ Src X.K y b ys H1 A1 S1 ∧ post (zip2D xs ys) (fun S2 => seqOf S2 x xs ∧ seqOf S2 y ys) S1) I
    ⟨A, ρ, S, _, n, rs, h, fun vs H1 A1 ds S1 e s1 r hh => ?_⟩) fun us s1 ⟨vs, H1, I1, r1, q1⟩ => ?_) hs hpl))
  · obtain ⟨x, y, xs, ys, rfl, q1, q2, hp⟩ := hh
    obtain ⟨v1, v2, rfl, r1, r2⟩ := rels2 r
    obtain ⟨a, rfl⟩ := seq_ref s1 q1 r1
    obtain ⟨b, rfl⟩ := seq_ref s1 q2 r2
    exact ⟨a, b, A1, S1, x, y, xs, ys, rfl, e, ⟨s1, r1, q1⟩, ⟨s1, r2, q2⟩, hp⟩
  · obtain ⟨a, b, A1, S1, x, y, xs, ys, rfl, e, c1, c2, hp⟩ := q1
    cases r1 with
    | cons w1 r1 =>
      cases r1 with
      | cons w2 r1 =>
        cases r1
        cases w1
        cases w2
        obtain ⟨t1, _, _, _, p1, _⟩ := src_inv I1 c1
        obtain ⟨t2, _, _, _, p2, _⟩ := src_inv I1 c2
        have la := c1.lt I1
        have lb := c2.lt I1
        refine zip_begins2 (sbegins (kindD x) a t1.toArray) (sbegins (kindD y) b t2.toArray) p1 p2 fun h' hz hTI hTO o1 o2 hsz hk => wpAny_pyIter_zip hz ?_
        have I2 : Inv X pins σ H1 { s1 with heap := h' } := I1.kept (t' := s1.toks) hk
        have off : ∀ {N a : Nat} (j : Nat), a < N → a ≠ N + j := fun j q => by omega
        have off0 : ∀ {N a : Nat}, a < N → a ≠ N := fun q => by omega
        have sep := zip_sep2 (N := s1.heap.objs.size) (fp1 := [a]) (fp2 := [b]) (fun b' hb => by rw [List.mem_singleton.mp hb]; exact la) (fun b' hb => by rw [List.mem_singleton.mp hb]; exact lb)
        refine ⟨_, _, _, It2 X.K x y a b, H1, rfl, I2, turn2 sep (off0 la) (off 1 lb), ⟨hz, hTI, ⟨_, _, hTO⟩, sit_start o1, sit_start o2⟩, fun d hd => ?_, k _ H1 A1 _ _ S1 e c1.rs (itok2 c1.rd c2.rd) hp⟩
        have hle : s1.heap.objs.size ≤ d := by
          have hd' : d = s1.heap.objs.size + 4 ∨ d = s1.heap.objs.size + 2 ∨ d = s1.heap.objs.size + 3 ∨ d = s1.heap.objs.size ∨ d = s1.heap.objs.size + 1 := by simpa using hd
          rcases hd' with q | q | q | q | q
          · rw [q]; exact Nat.le_add_right _ _
          · rw [q]; exact Nat.le_add_right _ _
          · rw [q]; exact Nat.le_add_right _ _
          · rw [q]; exact Nat.le_refl _
          · rw [q]; exact Nat.le_add_right _ _
        exact I1.fpOk hle (I1.hok.fresh hle)

/-! ### enumerate of a list or a tuple -/
def ItN (K : PySem.W.Frag) (x1 : D) (a1 : Addr) : It where
  go := fun i H => ∃ A S xs1, Src K x1 a1 xs1 H A S ∧ i < xs1.length
  yld := fun i H x H' => ∃ T v1, x = .ref T ∧ H T = none ∧ H' = upd H T (.tup [.int (i : Int), v1]) ∧ ValAt K x1 a1 i H v1
  stop := fun i H => ∃ A S xs1, Src K x1 a1 xs1 H A S ∧ i = xs1.length
theorem turnN {P : Program} {w : World} {K : PySem.W.Frag} {elts : List Expr} {kk : Nat} {tpos : Pos} {x1 : D} {a1 e it : Addr} (hei : e ≠ it) (hea : e ≠ a1) (n1 : a1 ≠ it) :
    Turn P w K (.Tuple elts kk tpos) (ItN K x1 a1) [e, it] e (fun i h => (∃ old, IsEnum h e it (0 + (i : Int)) old) ∧ SIt (kindD x1) h it a1 i) where
  mem := by simp
  obj := fun i h st c hc => by
    obtain ⟨⟨old, he⟩, h1⟩ := st
    have hc' : c = e ∨ c = it := by simpa using hc
    rcases hc' with rfl | rfl
    · exact ⟨_, he, fun v q => nomatch q⟩
    · exact h1.obj
  keep := fun i h h' st k => by
    obtain ⟨⟨old, he⟩, h1⟩ := st
    exact ⟨⟨old, k e (by simp) _ he⟩, h1.at_ fun o q => k it (by simp) o q⟩
  item := by
    intro X hP hw hK hc i pins s σ H E I hf st hg
    subst hP hw hK
    obtain ⟨⟨old, he⟩, h1⟩ := st
    obtain ⟨A, S, xs1, c1, l1⟩ := hg
    obtain ⟨t1, vs1, rv1, r1, p1, m1⟩ := src_inv I c1
    have hh : X.A.in1.handled = none := I.ok.hd hc
    have G := GoesN.enumFrom (prog := X.prog) (w := X.w) (A := X.A) (elts := elts) (x1 := kk) (pos := tpos) 0 (sdraws (kindD x1) hh it a1 n1 t1.toArray) e hei (by simp [hei, hea]) (by simp)
    have hlt : i < t1.toArray.size := by
      simp only [List.size_toArray]
      omega
    refine thn (G.goes i s (fun v s2 => ∃ x H', Inv X pins σ H' s2 ∧ RelV x v ∧ (ItN X.K x1 a1).yld i H x H' ∧ ((∃ old, IsEnum s2.heap e it (0 + ((i + 1 : Nat) : Int)) old) ∧ SIt (kindD x1) s2.heap it a1 (i + 1)) ∧ ∀ b ∈ [e, it], H' b = none) _ hlt ⟨⟨old, he⟩, ⟨h1, p1⟩⟩ fun v h' tk hY st' hkp htk => ?_) fun r s1 q => q
    obtain ⟨T, t, u1, rfl, hnew, y1, hT⟩ := hY
    rw [Int.zero_add] at hT
    obtain ⟨v1, d1, ru1, hd1, rd1⟩ := src_item rv1 r1 y1
    have nw : ObjOk X.prog X.w (upd H T (.tup [.int (i : Int), v1])) h' T (.tup [.int (i : Int), v1]) := ⟨by show 2 ≤ sizeLine; decide, [.int (i : Int) t, u1], .cons ⟨t, rfl⟩ (.cons ru1 .nil), hT⟩
    have I1 : Inv X pins σ (upd H T (.tup [.int (i : Int), v1])) { s with heap := h', toks := tk } := I.turnedNew (ch := [e, it]) (fun c o hb q => hkp c o (fun q' => hb (by simpa using q')) q) hf hnew nw
    obtain ⟨g1, ⟨g4, _⟩⟩ := st'
    refine ⟨.ref T, _, I1, rfl, ⟨T, v1, rfl, I.hok.fresh hnew, rfl, valAt_of I p1 y1 ru1⟩, ⟨g1, g4⟩, fun c hcm => ?_⟩
    obtain ⟨o, ho, _⟩ : ∃ o, s.heap.get? c = some o ∧ True := by
      have hc' : c = e ∨ c = it := by simpa using hcm
      rcases hc' with rfl | rfl
      · exact ⟨_, he, trivial⟩
      · exact ⟨_, h1.obj.choose_spec.1, trivial⟩
    rw [upd_ne (Nat.ne_of_lt (Nat.lt_of_lt_of_le (Heap.lt_size ho) hnew))]
    exact (hf c hcm).1
  done := by
    intro X hP hw hK hc i pins s σ H E I hf st hg
    subst hP hw hK
    obtain ⟨⟨old, he⟩, h1⟩ := st
    obtain ⟨A, S, xs1, c1, hi⟩ := hg
    obtain ⟨t1, vs1, rv1, r1, p1, m1⟩ := src_inv I c1
    have hh : X.A.in1.handled = none := I.ok.hd hc
    have G := GoesN.enumFrom (prog := X.prog) (w := X.w) (A := X.A) (elts := elts) (x1 := kk) (pos := tpos) 0 (sdraws (kindD x1) hh it a1 n1 t1.toArray) e hei (by simp [hei, hea]) (by simp)
    have hi' : i = t1.toArray.size := by
      simp only [List.size_toArray]
      rw [m1]
      exact hi
    subst hi'
    exact G.stops s _ _ ⟨⟨old, he⟩, ⟨h1, p1⟩⟩ fun h' tk hkp htk => I.turnedL (ch := [e, it]) (fun c o hb q => hkp c o (fun q' => hb (by simpa using q')) q) hf
  self := fun A i s Q E st h => wpAny_pyIter_enum st.1.choose_spec h
def enum1D (xs : List D) : List D := (List.range xs.length).map fun (i : Nat) => D.ztup [.int (i : Int), xs.getD i .non]
theorem enum1D_len (xs : List D) : (enum1D xs).length = xs.length := by simp [enum1D]
theorem enum1D_get {xs : List D} {i : Nat} {d : D} (h : (enum1D xs)[i]? = some d) : ∃ a, xs[i]? = some a ∧ d = .ztup [.int (i : Int), a] := by
  have hi := (List.getElem?_eq_some_iff.mp h).1
  rw [enum1D_len] at hi
  refine ⟨xs[i], List.getElem?_eq_getElem hi, ?_⟩
  unfold enum1D at h
  rw [List.getElem?_map, List.getElem?_range hi] at h
  rw [← Option.some.inj h]
  show D.ztup [.int (i : Int), xs.getD i .non] = _
  rw [List.getD_eq_getElem?_getD, List.getElem?_eq_getElem hi]
  rfl
def wEnum1 (t : DA) : DIt := fun ρ S post => t ρ S fun ds S1 => ∃ x xs, ds = [x] ∧ seqOf S1 x xs ∧ xs.length ≤ 100000 ∧ post (enum1D xs) (fun S2 => seqOf S2 x xs) S1
theorem itokN {K : PySem.W.Frag} {H : Hp} {A : List Addr} {x : D} {a : Addr} {xs : List D} (rx : RelD K H A x (.ref a)) : ItOk K (ItN K x a) H A (enum1D xs) fun S2 => seqOf S2 x xs := by
  intro H2 A2 S2 e s q1
  have s1 : Src K x a xs H2 A2 S2 := ⟨s, rx.ext e, q1⟩
  refine ⟨⟨A2, S2, xs, s1, enum1D_len ..⟩, fun i d hd => ?_⟩
  obtain ⟨d1, h1, rfl⟩ := enum1D_get hd
  refine ⟨⟨A2, S2, xs, s1, (List.getElem?_eq_some_iff.mp h1).1⟩, fun v H3 hy => ?_⟩
  obtain ⟨T, v1, rfl, hT, rfl, w1⟩ := hy
  obtain ⟨e1, g1, r1⟩ := w1 A2 S2 xs s1
  rw [h1] at g1
  cases g1
  exact ⟨same_upd hT, tup_rel hT ⟨_, _, rfl, rfl, v1, _, rfl, r1, rfl⟩⟩
theorem di_enum1 {X : Cx} {e1 : Expr} {t : DA} {p pos tpos : Pos} {elts : List Expr} {kk : Nat} (hg : Gl X "enumerate") (hm : X.mg "enumerate" = none) (ha : PA X [e1] (liftA X.K t))
    (hs : starEach [e1] X.env = (false, eval e1 X.env) :: starEach [] X.env := by rfl) (hpl : (backTo pos (starEach [] X.env)).any (·.1) = false := by rfl) :
    PI X (.Tuple elts kk tpos) (.Call (.Name "enumerate" p) [e1] [] pos) (liftI X.K (wEnum1 t)) := by
  refine ⟨fun pins s σ H R I ⟨A, ρ, S, post, n, rs, h, k⟩ => ?_⟩
  refine Call_ (ld_blt I hg hm PyProof.Rows.boot_enumerate (PyProof.Rows.callWith_type1 (thn (ha.run pos pins s σ H (fun vs H1 => ∃ a A1 S1 x xs, vs = [.ref a] ∧ Ext H A H1 A1 ∧ Src X.K x a xs H1 A1 S1 ∧ post (enum1D xs) (fun S2 => seqOf S2 x xs) S1) I
    ⟨A, ρ, S, _, n, rs, h, fun vs H1 A1 ds S1 e s1 r hh => ?_⟩) fun us s1 ⟨vs, H1, I1, r1, q1⟩ => ?_) hs hpl))
  · obtain ⟨x, xs, rfl, q1, _, hp⟩ := hh
    obtain ⟨v1, rfl, r1⟩ := rels1 r
    obtain ⟨a, rfl⟩ := seq_ref s1 q1 r1
    exact ⟨a, A1, S1, x, xs, rfl, e, ⟨s1, r1, q1⟩, hp⟩
  · obtain ⟨a, A1, S1, x, xs, rfl, e, c1, hp⟩ := q1
    cases r1 with
    | cons w1 r1 =>
      cases r1
      cases w1
      obtain ⟨t1, vs1, rv1, rd1, p1, m1⟩ := src_inv I1 c1
      have la := c1.lt I1
      refine callType_new F.called_enumerate (by decide) (F.typeCall_enumerate_1 _) (F.newCall_enumerate_1 _) (fun obj => F.args_object_init_2 obj _) F.entry_enumerate_new (meets_enum1 (sbegins (kindD x) a t1.toArray)) ⟨p1, ?_⟩
      have sz1 : (s1.heap.push (sobj (kindD x) a)).objs.size = s1.heap.objs.size + 1 := Heap.size_push ..
      have kp1 : ∀ c o, s1.heap.get? c = some o → ((s1.heap.push (sobj (kindD x) a)).push { cls := .type "enumerate", data := .fields #[.none, .bool false, .ref s1.heap.objs.size, rawInt 0, .none, .none] }).get? c = some o := fun c o q => Heap.get?_push_of_some _ (Heap.get?_push_of_some _ q)
      have hE : IsEnum ((s1.heap.push (sobj (kindD x) a)).push { cls := .type "enumerate", data := .fields #[.none, .bool false, .ref s1.heap.objs.size, rawInt 0, .none, .none] }) (s1.heap.push (sobj (kindD x) a)).objs.size s1.heap.objs.size 0 .none := Heap.get?_push_size _ rfl
      have hI : ((s1.heap.push (sobj (kindD x) a)).push { cls := .type "enumerate", data := .fields #[.none, .bool false, .ref s1.heap.objs.size, rawInt 0, .none, .none] }).get? s1.heap.objs.size = some (sobj (kindD x) a) := Heap.get?_push_of_some _ (Heap.get?_push_size _ (by unfold sobj Obj.isFreed; cases kindD x <;> rfl))
      generalize (s1.heap.push (sobj (kindD x) a)).push { cls := .type "enumerate", data := .fields #[.none, .bool false, .ref s1.heap.objs.size, rawInt 0, .none, .none] } = h2 at kp1 hE hI ⊢
      rw [sz1] at hE ⊢
      refine ⟨⟨_, hE, rfl⟩, ?_⟩
      have I2 : Inv X pins σ H1 { s1 with heap := h2 } := I1.kept (t' := s1.toks) kp1
      refine wpAny_pyIter_enum (s := { s1 with heap := h2 }) hE ?_
      have hne : s1.heap.objs.size + 1 ≠ s1.heap.objs.size := Nat.succ_ne_self _
      have hea : (s1.heap.objs.size + 1 : Addr) ≠ a := fun q => by
        rw [← q] at la
        exact absurd la (Nat.not_lt.mpr (Nat.le_succ _))
      refine ⟨_, _, _, ItN X.K x a, H1, rfl, I2, turnN hne hea (Nat.ne_of_lt la), ⟨⟨_, hE⟩, sit_start hI⟩, fun d hd => ?_, k _ H1 A1 _ _ S1 e c1.rs (itokN c1.rd) hp⟩
      have hle : s1.heap.objs.size ≤ d := by
        have hd' : d = s1.heap.objs.size + 1 ∨ d = s1.heap.objs.size := by simpa using hd
        rcases hd' with q | q
        · rw [q]; exact Nat.le_succ _
        · rw [q]; exact Nat.le_refl _
      exact I1.fpOk hle (I1.hok.fresh hle)
end DL
/-! ZQ: dicts with tuples of ints as keys that nobody writes: dict([..]), x in d. -/
namespace DL
open PySem PySem.Spec PyProof.Rows L2
variable [HasT]

abbrev KX := List (List Int × Addr × Value)
def upK (x : List Int × Addr × Value) : List Key × Addr × Value := (x.1.map Sum.inl, x.2)
/-- a known dict with these tuples of ints as keys -/
def kdP (ks : List (List Int)) : PySem.W.Frag → Hp → Addr → Prop := fun K H a => ∃ (o : Obj) (es : Array DictEntry) (ep : Nat) (xs : KX), H a = some (.frz o (.ext fun _ => True)) ∧ o.ExactDict ∧ o.data = .dict es ep ∧
  (∀ (P : Program) (w : World), es.toList = xs.map fun x => entryOfKey (tupleKind (mixKind P w)) (upK x)) ∧ xs.map (·.1) = ks ∧ ks.Nodup ∧ ks.length ≤ sizeLine ∧ (a == sysModules) = false ∧ ∀ x ∈ xs, PTup K H x.2.1 (x.1.map V.int)
theorem kdP_stab (ks : List (List Int)) (K : PySem.W.Frag) : StabP (kdP ks K) := fun H H' a k ⟨o, es, ep, xs, h1, h2, h3, h4, h5, h6, h7, h8, h9⟩ =>
  ⟨o, es, ep, xs, k _ _ h1 nmut_frz, h2, h3, h4, h5, h6, h7, h8, fun x hx => keep_p (fun a o q n => k a o q n) (h9 x hx)⟩
theorem entry_any (P P' : Program) (w w' : World) (x : List Int × Addr × Value) : entryOfKey (tupleKind (mixKind P w)) (upK x) = entryOfKey (tupleKind (mixKind P' w')) (upK x) := by
  have h : tupleKeyHash (mixKind P w) (x.1.map Sum.inl) = tupleKeyHash (mixKind P' w') (x.1.map Sum.inl) := by
    unfold tupleKeyHash
    rw [List.map_map, List.map_map]
    rfl
  show DictEntry.mk (tupleKeyHash (mixKind P w) (x.1.map Sum.inl)) _ _ = DictEntry.mk (tupleKeyHash (mixKind P' w') (x.1.map Sum.inl)) _ _
  rw [h]
theorem kV_ints (ns : List Int) : (ns.map (Sum.inl : Int → Key)).map kV = ns.map V.int := by
  rw [List.map_map]
  rfl
theorem key_is {X : Cx} {pins : List (Addr × Obj)} {σ : L2.St} {H : Hp} {s : Shared} {b : Addr} {k : List Int} (I : Inv X pins σ H s) (h : PTup X.K H b (k.map V.int)) : (tupleKind (mixKind X.prog X.w)).is s.heap (k.map Sum.inl) b := by
  obtain ⟨its, r, ⟨o, ho, hc, n, hd⟩, _⟩ := I.tuple h.sq
  rw [← kV_ints] at r
  exact ⟨o, its.toArray, n, ho, hc, hd, by simpa using items_are r⟩
theorem inl_inj : ∀ {xs ys : List Int}, xs.map (Sum.inl : Int → Key) = ys.map Sum.inl → xs = ys
  | [], [], _ => rfl
  | [], _ :: _, h => by simp at h
  | _ :: _, [], h => by simp at h
  | x :: xs, y :: ys, h => by
    rw [List.map_cons, List.map_cons] at h
    injection h with h1 h2
    rw [Sum.inl.inj h1, inl_inj h2]
theorem nodup_up {xs : KX} (h : (xs.map (·.1)).Nodup) : ((xs.map upK).map (·.1)).Nodup := by
  rw [List.map_map]
  have e : ((fun x : List Key × Addr × Value => x.1) ∘ upK) = (fun l : List Int => l.map (Sum.inl : Int → Key)) ∘ (fun x : List Int × Addr × Value => x.1) := rfl
  rw [e, ← List.map_map]
  exact List.pairwise_map.mpr (h.imp fun {a b} hab q => hab (inl_inj q))
theorem kd_of {X : Cx} {pins : List (Addr × Obj)} {σ : L2.St} {H : Hp} {s : Shared} {a : Addr} {ks : List (List Int)} (I : Inv X pins σ H s) (h : kdP ks X.K H a) :
    ∃ xs : KX, s.heap.DictOfH (tupleKind (mixKind X.prog X.w)) a (xs.map upK) ∧ xs.map (·.1) = ks ∧ (a == sysModules) = false := by
  obtain ⟨o, es, ep, xs, h1, h2, h3, h4, h5, h6, h7, h8, h9⟩ := h
  have ho : s.heap.get? a = some o := by
    obtain ⟨e, _⟩ := (show ObjOk X.prog X.w H s.heap a (.frz o (.ext fun _ => True)) from I.hok a _ h1)
    exact e
  refine ⟨xs, ⟨o, es, ep, ho, h2, h3, by rw [h4 X.prog X.w, List.map_map]; rfl, fun x hx => ?_, nodup_up (by rw [h5]; exact h6)⟩, h5, h8⟩
  obtain ⟨y, hy, rfl⟩ := List.mem_map.mp hx
  exact key_is I (h9 y hy)
theorem atKey_up {xs : KX} {k : List Int} : (atKey (xs.map upK) (k.map Sum.inl)).isSome = decide (k ∈ xs.map (·.1)) := by
  unfold atKey
  rw [Option.isSome_map]
  induction xs with
  | nil => rfl
  | cons x xs ih =>
    rw [List.map_cons, List.map_cons]
    by_cases e : x.1 = k
    · rw [List.find?_cons_of_pos (by show decide ((upK x).1 = k.map Sum.inl) = true; rw [decide_eq_true_eq]; show x.1.map Sum.inl = k.map Sum.inl; rw [e])]
      subst e
      simp
    · rw [List.find?_cons_of_neg (by rw [decide_eq_true_eq]; exact fun q => e (inl_inj q)), ih]
      have : (k ∈ x.1 :: xs.map (·.1)) ↔ k ∈ xs.map (·.1) := by
        rw [List.mem_cons]
        exact ⟨fun h => h.resolve_left fun q => e q.symm, .inr⟩
      simp only [this]

/-! ### x in d -/
def rInT (K : PySem.W.Frag) (neg : Bool) : R2 := fun x y H Q => ∃ (a b : Addr) (ks : List (List Int)) (k : List Int), y = .ref a ∧ kdP ks K H a ∧ x = .ref b ∧ PTup K H b (k.map V.int) ∧ Q (.bl (neg ^^ decide (k ∈ ks))) H
theorem op_inT {X : Cx} (hu : X.A.units + 65 < cLine) : OpR X (compareOp .In) (rInT X.K false) := by
  intro pins s σ H x y v u Q I rx ry ⟨a, b, ks, k, e1, hk, e2, hb, q⟩
  subst e1 e2
  cases rx
  cases ry
  obtain ⟨xs, dd, hks, hm⟩ := kd_of I hk
  refine wpAny_in_heap (tupleKind_room_in1 (by omega)) (key_is I hb) hm dd ?_
  rw [atKey_up, hks]
  rw [Bool.false_xor] at q
  exact ⟨.bl _, H, I.tok _, rfl, q⟩
theorem op_notInT {X : Cx} (hu : X.A.units + 65 < cLine) : OpR X (compareOp .NotIn) (rInT X.K true) := by
  intro pins s σ H x y v u Q I rx ry ⟨a, b, ks, k, e1, hk, e2, hb, q⟩
  subst e1 e2
  cases rx
  cases ry
  obtain ⟨xs, dd, hks, hm⟩ := kd_of I hk
  refine wpAny_notIn_heap (tupleKind_room_in1 (by omega)) (key_is I hb) hm dd ?_
  rw [atKey_up, hks]
  rw [Bool.true_xor] at q
  exact ⟨.bl _, H, I.tok _, rfl, q⟩
def oInT (neg : Bool) : D2 := fun x y S post => oIn neg x y S post ∨ ∃ (ks : List (List Int)) (k : List Int), y = .opq (kdP ks) ∧ x = .tup (k.map D.int) ∧ post (.bl (neg ^^ decide (k ∈ ks))) S
theorem op_in3 {X : Cx} (hu : X.A.units + 65 < cLine) : OpR X (compareOp .In) (fun x y H Q => rIn2 X.K false x y H Q ∨ rInT X.K false x y H Q) := OpR.or (op_in2 hu) (op_inT hu)
theorem op_notIn3 {X : Cx} (hu : X.A.units + 65 < cLine) : OpR X (compareOp .NotIn) (fun x y H Q => rIn2 X.K true x y H Q ∨ rInT X.K true x y H Q) := OpR.or (op_notIn2 hu) (op_notInT hu)
theorem rul_in3 {K : PySem.W.Frag} {neg : Bool} : Rul2 K (oInT neg) (fun x y H Q => rIn2 K neg x y H Q ∨ rInT K neg x y H Q) := by
  intro H A S d1 d2 v1 v2 post Q s r1 r2 h k
  rcases h with h | ⟨ks, ky, rfl, rfl, p⟩
  · exact .inl (rul_in H A S d1 d2 v1 v2 post Q s r1 r2 h k)
  · obtain ⟨a, rfl, hk, _⟩ := r2
    obtain ⟨b, vs, rfl, hb, hv⟩ := r1
    have e := rels_int hv
    subst e
    exact .inr ⟨a, b, ks, ky, rfl, hk, rfl, hb, k.now (d := .bl _) s rfl p⟩

/-! ### dict([(tuple, value), ..]) -/
def rDictT (K : PySem.W.Frag) : List V → Hp → VK → Prop := fun xs H Q => ∃ (a : Addr) (ps : List (Addr × Addr × List Int × V)), xs = [.ref a] ∧ SqL K H a (ps.map fun t => V.ref t.1) ∧ (∀ t ∈ ps, SqT K H t.1 [.ref t.2.1, t.2.2.2] ∧ PTup K H t.2.1 (t.2.2.1.map V.int)) ∧
  ∀ (p : Addr) (o : Obj) (ks : List (List Int)), H p = none → ks.Nodup → (∀ k, k ∈ ks ↔ k ∈ ps.map fun t => t.2.2.1) → kdP ks K (upd H p (.frz o (.ext fun _ => True))) p → Q (.ref p) (upd H p (.frz o (.ext fun _ => True)))
theorem vals_refs' {α : Type} {f : α → Addr} : ∀ {as : List α} {us : List Value}, Vals (as.map fun t => V.ref (f t)) us → us = as.map fun t => Value.ref (f t)
  | [], us, r => by
    cases r
    rfl
  | t :: as, us, r => by
    cases r with
    | cons h t' =>
      cases h
      rw [vals_refs' t', List.map_cons]
theorem storedAll_keys : ∀ (ps : KX) (acc : KX), ∃ xs : KX, storedAllH (acc.map upK) (ps.map upK) = xs.map upK ∧ ((acc.map (·.1)).Nodup → (xs.map (·.1)).Nodup) ∧ (∀ k, k ∈ xs.map (·.1) ↔ k ∈ acc.map (·.1) ∨ k ∈ ps.map (·.1)) ∧
    ∀ (R : List Int → Addr → Prop), (∀ x ∈ acc, R x.1 x.2.1) → (∀ x ∈ ps, R x.1 x.2.1) → ∀ x ∈ xs, R x.1 x.2.1
  | [], acc => ⟨acc, rfl, id, fun k => by simp, fun R h _ => h⟩
  | p :: ps, acc => by
    -- one stored
    have one : ∃ ys : KX, storedH (acc.map upK) (upK p).1 (upK p).2.1 (upK p).2.2 = ys.map upK ∧ ((acc.map (·.1)).Nodup → (ys.map (·.1)).Nodup) ∧ (∀ k, k ∈ ys.map (·.1) ↔ k ∈ acc.map (·.1) ∨ k = p.1) ∧ ∀ (R : List Int → Addr → Prop), (∀ x ∈ acc, R x.1 x.2.1) → R p.1 p.2.1 → ∀ x ∈ ys, R x.1 x.2.1 := by
      unfold storedH
      have e : (atKey (acc.map upK) (upK p).1).isSome = decide (p.1 ∈ acc.map (·.1)) := atKey_up
      rw [e]
      by_cases h : p.1 ∈ acc.map (·.1)
      · rw [if_pos (by simpa using h)]
        refine ⟨acc.map fun x => if x.1 = p.1 then (x.1, x.2.1, p.2.2) else x, ?_, ?_, ?_, ?_⟩
        · rw [List.map_map, List.map_map]
          refine List.map_congr_left fun x _ => ?_
          show putAt (upK p).1 (upK p).2.2 (upK x) = upK (if x.1 = p.1 then (x.1, x.2.1, p.2.2) else x)
          unfold putAt
          by_cases c : x.1 = p.1
          · rw [if_pos c, if_pos (by show x.1.map Sum.inl = p.1.map Sum.inl; rw [c])]
            rfl
          · rw [if_neg c, if_neg (show ¬ (upK x).1 = (upK p).1 from fun q => c (inl_inj q))]
        · intro hn
          rw [List.map_map]
          have : ((fun x : List Int × Addr × Value => x.1) ∘ fun x => if x.1 = p.1 then (x.1, x.2.1, p.2.2) else x) = fun x => x.1 := by
            funext x
            show (if x.1 = p.1 then (x.1, x.2.1, p.2.2) else x).1 = x.1
            by_cases c : x.1 = p.1
            · rw [if_pos c]
            · rw [if_neg c]
          rw [this]
          exact hn
        · intro k
          rw [List.map_map]
          have : ((fun x : List Int × Addr × Value => x.1) ∘ fun x => if x.1 = p.1 then (x.1, x.2.1, p.2.2) else x) = fun x => x.1 := by
            funext x
            show (if x.1 = p.1 then (x.1, x.2.1, p.2.2) else x).1 = x.1
            by_cases c : x.1 = p.1
            · rw [if_pos c]
            · rw [if_neg c]
          rw [this]
          exact ⟨.inl, fun q => q.elim id fun z => z ▸ h⟩
        · intro R hR _ x hx
          obtain ⟨y, hy, rfl⟩ := List.mem_map.mp hx
          by_cases c : y.1 = p.1
          · rw [if_pos c]
            exact hR y hy
          · rw [if_neg c]
            exact hR y hy
      · rw [if_neg (by simpa using h)]
        refine ⟨acc ++ [p], by rw [List.map_append]; rfl, ?_, ?_, ?_⟩
        · intro hn
          rw [List.map_append]
          refine List.nodup_append.mpr ⟨hn, by simp, fun a ha b hb q => ?_⟩
          rw [show b = p.1 by simpa using hb] at q
          exact h (q ▸ ha)
        · intro k
          rw [List.map_append, List.mem_append]
          simp
        · intro R hR hp x hx
          rcases List.mem_append.mp hx with hx | hx
          · exact hR x hx
          · rw [List.mem_singleton.mp hx]
            exact hp
    obtain ⟨ys, y1, y2, y3, y4⟩ := one
    obtain ⟨xs, x1, x2, x3, x4⟩ := storedAll_keys ps ys
    refine ⟨xs, ?_, fun h => x2 (y2 h), fun k => ?_, fun R h1 h2 => x4 R (y4 R h1 (h2 p List.mem_cons_self)) fun x hx => h2 x (List.mem_cons_of_mem _ hx)⟩
    · show storedAllH (storedH (acc.map upK) (upK p).1 (upK p).2.1 (upK p).2.2) (ps.map upK) = _
      rw [y1]
      exact x1
    · rw [x3, y3, List.map_cons, List.mem_cons, or_assoc]
theorem call_dictT {X : Cx} (hc : X.calm = true) (hu : X.A.units + 65 < cLine) : CallR X (.type "dict") (rDictT X.K) := by
  intro pins s σ H xs us Q I r ⟨a, ps, ex, hq, hp, q⟩
  subst ex
  obtain ⟨u, rfl, rx⟩ := vals1 r
  obtain rfl : u = Value.ref a := rx
  obtain ⟨its, rv, pl, hz⟩ := I.list hq
  have ei := vals_refs' rv
  subst ei
  obtain ⟨o, n, ho, hcl, hd, hdat⟩ := pl
  -- the values behind the keys
  have hv : ∃ vs : List Value, vs.length = ps.length ∧ ∀ (j : Nat) (t : Addr × Addr × List Int × V), ps[j]? = some t → ∃ v, vs[j]? = some v ∧ IsTup s.heap t.1 #[.ref t.2.1, v] := by
    clear q hq rv hz hdat ho
    induction ps with
    | nil => exact ⟨[], rfl, fun j t h => by simp at h⟩
    | cons t ps ih =>
      obtain ⟨vs, l, hh⟩ := ih fun u hu => hp u (List.mem_cons_of_mem _ hu)
      obtain ⟨its, rv, ht, _⟩ := I.tuple (hp t List.mem_cons_self).1
      obtain ⟨u, y, rfl, ru, ry⟩ := vals2 rv
      cases ru
      refine ⟨y :: vs, by rw [List.length_cons, l, List.length_cons], fun j u hj => ?_⟩
      cases j with
      | zero =>
        have : t = u := by simpa using hj
        subst this
        exact ⟨y, rfl, ht⟩
      | succ j =>
        obtain ⟨v, h1, h2⟩ := hh j u (by simpa using hj)
        exact ⟨v, by simpa using h1, h2⟩
  obtain ⟨vs, lv, hvs⟩ := hv
  let pv : List (Value × Value) := (ps.zip vs).map fun t => (.ref t.1.2.1, t.2)
  let kx : KX := (ps.zip vs).map fun t => (t.1.2.2.1, t.1.2.1, t.2)
  have lz : (ps.zip vs).length = ps.length := by rw [List.length_zip, lv, Nat.min_self]
  have lpv : pv.length = ps.length := by rw [List.length_map, lz]
  have getZ : ∀ {j : Nat} {z : (Addr × Addr × List Int × V) × Value}, (ps.zip vs)[j]? = some z → ps[j]? = some z.1 ∧ IsTup s.heap z.1.1 #[.ref z.1.2.1, z.2] := fun {j z} h => by
    obtain ⟨h1, h2⟩ := List.getElem?_zip_eq_some.mp h
    obtain ⟨v, g1, g2⟩ := hvs j _ h1
    rw [h2] at g1
    cases g1
    exact ⟨h1, g2⟩
  have hitems : PySem.PairItems s.heap (ps.map fun t => Value.ref t.1).toArray (fun j => (ps[j]?.map (·.1)).getD 0) pv := by
    refine ⟨by simp [lpv], fun j k v hj => ?_⟩
    rw [List.getElem?_map] at hj
    cases hz' : (ps.zip vs)[j]? with
    | none =>
      rw [hz'] at hj
      cases hj
    | some z =>
      rw [hz'] at hj
      obtain ⟨g1, g2⟩ := getZ hz'
      have e := Option.some.inj hj
      injection e with e1 e2
      refine ⟨by simp [g1], .inl ?_⟩
      show s.heap.IsTuple ((ps[j]?.map (·.1)).getD 0) #[k, v]
      rw [g1, ← e1, ← e2]
      exact g2
  have lkx : kx.length = ps.length := by rw [List.length_map, lz]
  have hkey : ∀ x ∈ kx, PTup X.K H x.2.1 (x.1.map V.int) := fun x hx => by
    obtain ⟨z, hz', rfl⟩ := List.mem_map.mp hx
    exact (hp z.1 (List.of_mem_zip hz').1).2
  have ekx : kx.map (·.1) = ps.map fun t => t.2.2.1 := by
    show ((ps.zip vs).map fun t => (t.1.2.2.1, t.1.2.1, t.2)).map (·.1) = _
    rw [List.map_map]
    have : ((fun x : List Int × Addr × Value => x.1) ∘ fun t : (Addr × Addr × List Int × V) × Value => (t.1.2.2.1, t.1.2.1, t.2)) = (fun t : Addr × Addr × List Int × V => t.2.2.1) ∘ Prod.fst := rfl
    rw [this, ← List.map_map, List.map_fst_zip (by omega)]
  obtain ⟨xs, x1, x2, x3, x4⟩ := storedAll_keys kx []
  refine PySem.call_dict_pairsH (knd := tupleKind (mixKind X.prog X.w)) (ps := kx.map upK) (PySem.PairArg.list a (ps.map fun t => Value.ref t.1).toArray (fun j => (ps[j]?.map (·.1)).getD 0) pv) (I.ok.hd hc) (show X.A.in1.in1.units < cLine from by show X.A.units + 1 + 1 < cLine; omega) ⟨⟨o, n, ho, hcl, hd, hdat⟩, hitems⟩ ⟨by rw [List.length_map, lkx, lpv], fun i key v hrel => ?_⟩ (fun h' hk x hx => ?_) (by
      rw [lpv]
      rw [List.length_map] at hz
      exact hz) fun h' tk hd' kp => ?_
  · have hrel' : pv[i]? = some (key, v) := hrel
    rw [List.getElem?_map] at hrel'
    cases hz' : (ps.zip vs)[i]? with
    | none =>
      rw [hz'] at hrel'
      cases hrel'
    | some z =>
      rw [hz'] at hrel'
      have e := Option.some.inj hrel'
      injection e with e1 e2
      refine ⟨z.1.2.2.1.map Sum.inl, z.1.2.1, ?_, e1.symm⟩
      rw [List.getElem?_map, List.getElem?_map, hz', ← e2]
      rfl
  · obtain ⟨y, hy, rfl⟩ := List.mem_map.mp hx
    obtain ⟨o2, its2, n2, g1, g2, g3, g4⟩ := key_is I (hkey y hy)
    exact ⟨o2, its2, n2, hk _ _ (Nat.ne_of_lt (Heap.lt_size g1)) (fun z => nomatch z) g1, g2, g3, g4⟩
  · have hm : (s.heap.objs.size == sysModules) = false := beq_eq_false_iff_ne.mpr (Nat.ne_of_gt I.big)
    have x1' : storedAllH [] (kx.map upK) = xs.map upK := x1
    rw [x1'] at hd'
    obtain ⟨od, es, ep, g1, g2, g3, g4, g5, g6⟩ := hd'
    have hfree : H s.heap.objs.size = none := I.hok.fresh (Nat.le_refl _)
    have I2 : Inv X pins σ (upd H s.heap.objs.size (.frz od (.ext fun _ => True))) { s with heap := h', toks := tk } := I.laid (t' := tk) (fun b o e => kp b o (fun z => nomatch z) e) (Nat.le_refl _) (show ObjOk X.prog X.w _ _ _ (.frz od (.ext fun _ => True)) from ⟨g1, trivial, ⟨_, g1⟩, fun _ _ _ _ => trivial⟩)
    have hnd : (xs.map (·.1)).Nodup := x2 List.nodup_nil
    have hlen : xs.length ≤ sizeLine := by
      have l1 := storedAllH_length (kx.map upK) []
      rw [x1', List.length_map, List.length_nil, List.length_map, lkx, Nat.zero_add] at l1
      rw [List.length_map] at hz
      omega
    refine ⟨.ref s.heap.objs.size, _, I2, rfl, q _ od (xs.map (·.1)) hfree hnd (fun k => ?_) ⟨od, es, ep, xs, upd_same, g2, g3, fun P w => ?_, rfl, hnd, by rw [List.length_map]; exact hlen, hm, fun x hx => ?_⟩⟩
    · rw [x3, ekx]
      simp
    · rw [g4, List.map_map]
      exact List.map_congr_left fun x _ => entry_any X.prog P X.w w x
    · exact ext_p (A := []) (A' := []) (Ext.same (same_upd hfree)) (x4 (fun k b => PTup X.K H b (k.map V.int)) (fun x hx => nomatch hx) hkey x hx)
def pairT (kv : List Int × D) : D := .tup [.tup (kv.1.map D.int), kv.2]
def cDictT : DC := fun ds S post => cDict ds S post ∨ ∃ (x : D) (kvs : List (List Int × D)), ds = [x] ∧ seqOf S x (kvs.map pairT) ∧ (∀ ys, x ≠ .tup ys) ∧ ∀ ks : List (List Int), ks.Nodup → (∀ k, k ∈ ks ↔ k ∈ kvs.map (·.1)) → post (.opq (kdP ks)) S
theorem rels_pairT {K : PySem.W.Frag} {H : Hp} {A : List Addr} : ∀ {kvs : List (List Int × D)} {us : List V}, RelDs K H A (kvs.map pairT) us → ∃ ps : List (Addr × Addr × List Int × V), us = ps.map (fun t => V.ref t.1) ∧ (ps.map fun t => t.2.2.1) = kvs.map (·.1) ∧ ∀ t ∈ ps, SqT K H t.1 [.ref t.2.1, t.2.2.2] ∧ PTup K H t.2.1 (t.2.2.1.map V.int)
  | [], _, h => ⟨[], h, rfl, fun _ q => nomatch q⟩
  | (k, d) :: kvs, _, ⟨v, r, rfl, h1, h2⟩ => by
    obtain ⟨ps, rfl, e, hh⟩ := rels_pairT h2
    obtain ⟨a, vs, rfl, ht, hv⟩ := h1
    obtain ⟨x, y, rfl, r1, r2⟩ := rels2 hv
    obtain ⟨b, ws, rfl, hb, hw⟩ := r1
    have ew := rels_int hw
    subst ew
    refine ⟨(a, b, k, y) :: ps, rfl, by rw [List.map_cons, List.map_cons, e], fun t ht2 => ?_⟩
    rcases List.mem_cons.mp ht2 with rfl | ht2
    · exact ⟨ht.sq, hb⟩
    · exact hh t ht2
theorem rul_dictT {K : PySem.W.Frag} : RulC K cDictT (fun xs H Q => rDictP K xs H Q ∨ rDictT K xs H Q) := by
  intro H A S ds vs post Q s r hh k
  rcases hh with hh | ⟨x, kvs, rfl, hq, hx, h⟩
  · exact .inl (rul_dict H A S ds vs post Q s r hh k)
  · obtain ⟨v, rfl, rv⟩ := rels1 r
    obtain ⟨a, us, rfl, hs, w⟩ := seq_list s hq hx rv
    obtain ⟨ps, rfl, e, hh⟩ := rels_pairT w
    refine .inr ⟨a, ps, rfl, hs, hh, fun p o ks hp hn hk hkd => ?_⟩
    have s2 : RelS K (upd H p (.frz o (.ext fun _ => True))) A S := s.same (same_upd hp)
    exact k (.ref p) _ A (.opq (kdP ks)) S (Ext.same (same_upd hp)) s2 ⟨p, rfl, hkd, kdP_stab ks K⟩ (h ks hn fun k => by rw [hk, e])
theorem call_dictB {X : Cx} (hc : X.calm = true) (hu : X.A.units + 65 < cLine) : CallR X (.type "dict") (fun xs H Q => rDictP X.K xs H Q ∨ rDictT X.K xs H Q) := CallR.or (call_dictA hc) (call_dictT hc hu)
end DL
/-! ZR: the program's own exception classes, as facts and as rules for the walk. -/
namespace DL
open PySem PySem.Spec PyProof.Rows L2
variable [HasT]

/-- the first statement of a class's body -/
def clsFirst : Stmt → Stmt
  | .ClassDef _ _ _ (b :: _) _ _ _ _ _ _ _ => b
  | s => s
/-- what an own class under Refused is, as far as raising it goes -/
structure RaiC (P : Program) (w : World) (K : PySem.W.Frag) (mg : Str → Option Value) (base : Heap) (x : Str) (C : Addr) : Prop where
  ox : OexC K C
  no : PySem.W.findIn K (.ref C) "what" = some none
  nm : mg x = some (.ref C)
  ini : ∃ (fI : Addr) (fd : FuncData), PySem.W.findIn K (.ref C) "__init__" = some (some (.ref fI)) ∧ PySem.W.typeIn K (.ref fI) = some (.type "function") ∧ FnOk P w K mg base CX0 1 fI fd ["self", "what"] (spInit K) ∧ L2.Binds K fd ["self", "what"] []
theorem ds_rai {X : Cx} {W : WX} {C : Addr} {x : Str} {e : Expr} {te : DE} {p pos pos2 : Pos} {k : Nat} (R : RaiC X.prog X.w X.K X.mg X.base x C) (hc : X.calm = true) (hr : Room k X.A) (hk : 2 ≤ k) (tk : Takes X W) (hg : Gl X x) (he : PE X e (liftE X.K te)) (hdb : (x == ("__debug__" : Str)) = false := by decide)
    (hs : starEach (e :: []) X.env = (false, eval e X.env) :: starEach [] X.env := by rfl) (hpl : (backTo pos (starEach [] X.env)).any (·.1) = false := by rfl) :
    PS X (.Raise (some (.Call (.Name x p) [e] [] pos)) none pos2) (liftS X.K W (dRaise C te)) := by
  obtain ⟨fI, fd, h1, h2, h3, h4⟩ := R.ini
  exact ds_raise (CX := CX0) hc R.ox R.no h1 h2 h3 (hr.mono hk) h4 tk hg R.nm he hdb hs hpl
/-- what an own class is, once it is caught -/
structure CauC (K : PySem.W.Frag) (C : Addr) : Prop where
  xf : XfC K C
  ex : ExcC K C
  no : PySem.W.findIn K (.ref C) "what" = some none
/-- what an own class is, where it is named behind except or in isinstance -/
structure HanC (K : PySem.W.Frag) (C : Addr) : Prop where
  sub : PySem.W.subIn K (.ref C) (.type "BaseException") = some true
  cls : PySem.W.isClsIn K C = true
  ty : PySem.W.typeIn K (.ref C) = some (.type "type")
  self : PySem.W.subIn K (.ref C) (.ref C) = some true
theorem kitCls_of {K : PySem.W.Frag} {C D : Addr} {b : Option Bool} (h : HanC K D) (e : PySem.W.subIn K (.ref C) (.ref D) = b) : PySem.W.kitCls K (.ref C) (.ref D) = b := by
  have e2 : ((PySem.W.clsIn K D).isSome && PySem.W.typeIn K (.ref D) == some (.type "type")) = true := by
    have h2' : (PySem.W.clsIn K D).isSome = true := h.cls
    rw [h2', h.ty] <;> rfl
  show (if ((PySem.W.clsIn K D).isSome && PySem.W.typeIn K (.ref D) == some (.type "type")) = true then PySem.W.subIn K (.ref C) (.ref D) else none) = b
  rw [if_pos e2]
  exact e
theorem exm_of {K : PySem.W.Frag} {C D : Addr} {b : Option Bool} (h : HanC K D) (e : PySem.W.subIn K (.ref C) (.ref D) = b) : PySem.W.exmOne K (.ref C) (.ref D) = b := by
  have e1 : (PySem.W.subIn K (.ref D) (.type "BaseException") == some true) = true := by rw [h.sub] <;> rfl
  show (if (PySem.W.subIn K (.ref D) (.type "BaseException") == some true) = true then PySem.W.kitCls K (.ref C) (.ref D) else none) = b
  rw [if_pos e1]
  exact kitCls_of h e
theorem kit_of {K : PySem.W.Frag} {C D : Addr} {b : Bool} (h : HanC K D) (e : PySem.W.subIn K (.ref C) (.ref D) = some b) : PySem.W.kitOne K (.ref C) (.ref D) = some b := by
  show (if ((Value.ref C) == (Value.ref D)) = true then some true else PySem.W.kitCls K (.ref C) (.ref D)) = some b
  by_cases q : ((Value.ref C) == (Value.ref D)) = true
  · rw [if_pos q]
    have e' : C = D := by
      have := beq_iff_eq.mp q
      injection this
    subst e'
    rw [h.self] at e
    exact e
  · rw [if_neg q]
    exact kitCls_of h e
theorem kit_ve {K : PySem.W.Frag} {C : Addr} {b : Bool} (e : PySem.W.subIn K (.ref C) (.type "ValueError") = some b) : PySem.W.kitOne K (.ref C) (.type "ValueError") = some b := by
  show (if ((Value.ref C) == (Value.type "ValueError")) = true then some true else if PySem.W.kitMeta "ValueError" = true then PySem.W.subIn K (.ref C) (.type "ValueError") else none) = some b
  have hne : ¬ ((Value.ref C) == (Value.type "ValueError")) = true := fun q => Value.noConfusion (beq_iff_eq.mp q)
  rw [if_neg hne, if_pos (by decide +kernel)]
  exact e
/-- a def that may raise -/
structure CalX (P : Program) (w : World) (K : PySem.W.Frag) (mg : Str → Option Value) (base : Heap) (k : Nat) (x : Str) (sp : DSpX) : Prop where
  ex : ∃ (f : Addr) (fd : FuncData) (ps : List Str), FnG P w K mg base (L2.CX P w) k f fd ps (spLX K sp) ∧ mg x = some (.ref f) ∧ PySem.W.keepIn K (.ref f) = true ∧ L2.Binds K fd ps []
section
variable {X : Cx} {k j : Nat} {sp : DSpX} {x : Str} {p pos : Pos} {e : Expr} {es : List Expr} {W : WX}
theorem de_cal0 {t : DA} (C : CalX X.prog X.w X.K X.mg X.base j x sp) (hgd : X.A.guards = some []) (hr : Room k X.A) (hj : j ≤ k) (hg : Gl X x) (ha : PA X (e :: es) (liftA X.K t)) (hdb : (x == ("__debug__" : Str)) = false := by decide)
    (he : starEach (e :: es) X.env = (false, eval e X.env) :: starEach es X.env := by rfl) (hpl : (backTo pos (starEach es X.env)).any (·.1) = false := by rfl) : PE X (.Call (.Name x p) (e :: es) [] pos) (liftE X.K (dCall (noX sp) t)) := by
  obtain ⟨f, fd, ps, F, hm, hk, hb⟩ := C.ex
  exact de_call0 F hgd (hr.mono hj) hg hm hk hb ha hdb he hpl
theorem de_calX {t : DAX} (C : CalX X.prog X.w X.K X.mg X.base j x sp) (hgd : X.A.guards = some []) (hr : Room k X.A) (hj : j ≤ k) (hg : Gl X x) (tk : Takes X W) (ha : PA X (e :: es) (liftAX X.K W t)) (hdb : (x == ("__debug__" : Str)) = false := by decide)
    (he : starEach (e :: es) X.env = (false, eval e X.env) :: starEach es X.env := by rfl) (hpl : (backTo pos (starEach es X.env)).any (·.1) = false := by rfl) : PE X (.Call (.Name x p) (e :: es) [] pos) (liftEX X.K W (dCallX sp t)) := by
  obtain ⟨f, fd, ps, F, hm, hk, hb⟩ := C.ex
  exact de_callX F hgd (hr.mono hj) hg hm hk hb tk ha hdb he hpl
end
/-- x.what of what the suite holds -/
def okW (K : PySem.W.Frag) (C : Addr) : Prop := XfC K C ∧ PySem.W.findIn K (.ref C) "what" = some none
def dWhatS (K : PySem.W.Frag) (a : Addr) (cls : Value) (d : Option Addr) (te : DE) : DE := fun ρ S post => (∃ C, cls = .ref C ∧ okW K C) ∧ dWhat (okW K) a cls d te ρ S post
theorem de_whatS {X : Cx} {a : Addr} {oe : Obj} {cls : Value} {d : Option Addr} {pn : List (Addr × Obj)} {e : Expr} {te : DE} {pos : Pos} (hz : Zc cls d oe) (hf : ∃ vs, oe.data = .fields vs)
    (he : PE (X.suite a ((a, oe) :: pn)) e (liftE X.K te)) (hb : attributeBase e "what" X.env (eval e X.env) = eval e X.env := by rfl) :
    PE (X.suite a ((a, oe) :: pn)) (.Attribute e "what" pos) (liftE X.K (dWhatS X.K a cls d te)) := de_what (okC := okW X.K) (fun _ h => h) hz hf he hb
theorem takesD0 {X : Cx} : Takes X W0 := fun _ _ x => by
  obtain ⟨_, _, _, _, _, _, _, _, _, _, _, _, _, _, _, _, z⟩ := x
  exact z.elim
theorem pe_gref {X : Cx} {x : Str} {C : Addr} {p : Pos} (hg : Gl X x) (hm : X.mg x = some (.ref C)) (hdb : (x == ("__debug__" : Str)) = false := by decide) : PE X (.Name x p) (tC (.ref C)) :=
  ⟨fun pins s σ H Q I h => ld_glob I hg hm ⟨.ref C, H, I, rfl, h⟩ hdb⟩
/-- isinstance(e, C), C an own class, e what the suite holds -/
theorem de_isOwn {X : Cx} {a C : Addr} {oe : Obj} {cls : Value} {d : Option Addr} {pn : List (Addr × Obj)} {e : Expr} {x : Str} {te : DE} {p p2 pos : Pos} (hz : Zc cls d oe) (hf : ∃ vs, oe.data = .fields vs) (he : PE (X.suite a ((a, oe) :: pn)) e (liftE X.K te))
    (hg : Gl X "isinstance") (hm : X.mg "isinstance" = none) (hg2 : Gl X x) (hm2 : X.mg x = some (.ref C)) (hdb : (x == ("__debug__" : Str)) = false := by decide)
    (h1 : starEach (e :: [.Name x p2]) X.env = (false, eval e X.env) :: starEach [.Name x p2] X.env := by rfl) (h2 : starEach (.Name x p2 :: []) X.env = (false, eval (.Name x p2) X.env) :: starEach [] X.env := by rfl) (hpl : (backTo pos (starEach [.Name x p2] X.env)).any (·.1) = false := by rfl) :
    PE (X.suite a ((a, oe) :: pn)) (.Call (.Name "isinstance" p) (e :: [.Name x p2]) [] pos) (liftE X.K (dIsX X.K a cls d (.ref C) te)) :=
  de_isX (cx := .Name x p2) (vc := .ref C) hz hf he (pe_gref hg2 hm2 hdb) (fun u h => h) hg hm h1 h2 hpl
/-- isinstance(e, ValueError) of what the suite holds -/
theorem de_isVE {X : Cx} {a : Addr} {oe : Obj} {cls : Value} {d : Option Addr} {pn : List (Addr × Obj)} {e : Expr} {te : DE} {p p2 pos : Pos} (hz : Zc cls d oe) (hf : ∃ vs, oe.data = .fields vs) (he : PE (X.suite a ((a, oe) :: pn)) e (liftE X.K te))
    (hg : Gl X "isinstance") (hm : X.mg "isinstance" = none) (hg2 : Gl X "ValueError") (hm2 : X.mg "ValueError" = none) (hv : bootBuiltins "ValueError" = some (.type "ValueError"))
    (h1 : starEach (e :: [.Name "ValueError" p2]) X.env = (false, eval e X.env) :: starEach [.Name "ValueError" p2] X.env := by rfl) (h2 : starEach (.Name "ValueError" p2 :: []) X.env = (false, eval (.Name "ValueError" p2) X.env) :: starEach [] X.env := by rfl) (hpl : (backTo pos (starEach [.Name "ValueError" p2] X.env)).any (·.1) = false := by rfl) :
    PE (X.suite a ((a, oe) :: pn)) (.Call (.Name "isinstance" p) (e :: [.Name "ValueError" p2]) [] pos) (liftE X.K (dIsX X.K a cls d (.type "ValueError") te)) :=
  de_isX (cx := .Name "ValueError" p2) (vc := .ty "ValueError") hz hf he (pe_bltn (v := .ty "ValueError") hg2 hm2 hv rfl (by decide) (by decide)) (fun u h => h) hg hm h1 h2 hpl
/-- a call of what cannot raise, with arguments that may -/
def dCallAX (sp : DSp) (t : DAX) : DEX := fun ρ S post ex => t ρ S (fun ds S1 => callD sp ds S1 post) ex
theorem de_calA {X : Cx} {k j : Nat} {sp : DSp} {x : Str} {p pos : Pos} {e : Expr} {es : List Expr} {W : WX} {t : DAX} (C : CalG X.prog X.w X.K X.mg X.base j x sp) (hgd : X.A.guards = some []) (hr : Room k X.A) (hj : j ≤ k) (hg : Gl X x) (ha : PA X (e :: es) (liftAX X.K W t)) (hdb : (x == ("__debug__" : Str)) = false := by decide)
    (he : starEach (e :: es) X.env = (false, eval e X.env) :: starEach es X.env := by rfl) (hpl : (backTo pos (starEach es X.env)).any (·.1) = false := by rfl) : PE X (.Call (.Name x p) (e :: es) [] pos) (liftEX X.K W (dCallAX sp t)) := by
  obtain ⟨f, fd, ps, F, hm, hk, hb⟩ := C.ex
  refine pe_mono (pe_callG F hgd (hr.mono hj) hg hm hk hb pass0 ha hdb he hpl) fun σ H Q ⟨A, ρ, S, post, ex, n, s, h, kk, kx⟩ => ⟨A, ρ, S, _, ex, n, s, h, fun vs H' A' ds S' e' s' r p1 => ?_, kx⟩
  show spL X.K sp (vs ++ []) H' Q E0
  rw [List.append_nil]
  exact lift_callD s' r p1 (kk.go e')
end DL
/-! ZS: carrying out the newer readings. -/
namespace DL
open PySem PySem.Spec PyProof.Rows L2
variable [HasT]

/-! ### // by a great number -/
def CDivB (_ j : Int) : Prop := 0 < j ∧ j < 4611686018427387904
def oDivW : D2 := o2I CDivB fun i j => .int (i / j)
theorem cdivB {i j : Int} (h : CDivB i j) : CDivW i j := wide_div (b := 64) h.1 (by have := h.2; have := h.1; omega) (by decide) (by decide)
theorem rul_divW {K : PySem.W.Frag} : Rul2 K oDivW (rI CDivW fun i j => .int (i / j)) := by
  intro H A S d1 d2 v1 v2 post Q s r1 r2 h k
  cases d1 <;> cases d2 <;> try exact False.elim h
  rename_i i j
  cases (show v1 = .int i from r1)
  cases (show v2 = .int j from r2)
  exact ⟨i, j, rfl, rfl, cdivB h.1, k.now (d := .int (i / j)) s rfl h.2⟩

/-! ### slices -/
section
variable {S : Store} {post : DK} {n : Nat} {xs : List D} {lo hi : Option Int} {d : D} {i : Int}
theorem go_sl_tup : slD (.tup xs) lo hi S post ↔ post (.tup (cutD xs lo hi)) S := by
  constructor
  · rintro (⟨ys, h, p⟩ | ⟨ys, h, hx, p⟩)
    · cases h
      exact p
    · exact absurd rfl (hx xs)
  · exact fun p => .inl ⟨xs, rfl, p⟩
theorem go_sl_lr : slD (.lr n) lo hi S post ↔ ∃ xs, S[n]? = some (.lst xs) ∧ post (.lr S.length) (S ++ [.lst (cutD xs lo hi)]) := by
  constructor
  · rintro (⟨ys, h, p⟩ | ⟨ys, h, hx, p⟩)
    · cases h
    · exact ⟨ys, seqOf_lr.mp h, p⟩
  · exact fun ⟨xs, h, p⟩ => .inr ⟨xs, seqOf_lr.mpr h, (fun ys q => nomatch q), p⟩
theorem cut_from {α : Type} {xs : List α} {i : Int} (h : 0 ≤ i) : cutD xs (some i) none = xs.drop i.toNat := by
  unfold cutD HT.sIx
  dsimp only
  rw [if_neg (by omega)]
  by_cases c : i.toNat ≤ xs.length
  · rw [Nat.min_eq_left c]
    refine List.take_of_length_le ?_
    rw [List.length_drop]
    exact Nat.le_refl _
  · rw [Nat.min_eq_right (by omega), List.drop_of_length_le (by omega), List.drop_of_length_le (by omega)]
    simp
theorem cut_to {α : Type} {xs : List α} {i : Int} (h : 0 ≤ i) : cutD xs none (some i) = xs.take i.toNat := by
  unfold cutD HT.sIx
  dsimp only
  rw [if_neg (by omega), List.drop_zero, Nat.sub_zero]
  by_cases c : i.toNat ≤ xs.length
  · rw [Nat.min_eq_left c]
  · rw [Nat.min_eq_right (by omega), List.take_of_length_le (Nat.le_refl _), List.take_of_length_le (by omega)]
/-! ### pop, extend, += -/
theorem go_pop : dPop to te ρ S post ↔ to ρ S fun o S1 => (∃ (n : Nat) (ds : List D), o = .lr n ∧ S1[n]? = some (.lst ds)) ∧ te ρ S1 (popK o post) := Iff.rfl
theorem go_popK : popK (.lr n) post (.int i) S ↔ ∃ ds, S[n]? = some (.lst ds) ∧ (-1000000 ≤ i ∧ i ≤ 1000000) ∧ ∃ k, ixN ds.length i = some k ∧ ∃ y, ds[k]? = some y ∧ post y (S.set n (.lst (ds.eraseIdx k))) := by
  constructor
  · rintro ⟨m, ds, j, k, y, e1, h, e2, a, b, c, d, p⟩
    cases e1
    cases e2
    exact ⟨ds, h, ⟨a, b⟩, k, c, y, d, p⟩
  · rintro ⟨ds, h, ⟨a, b⟩, k, c, y, d, p⟩
    exact ⟨n, ds, i, k, y, rfl, h, rfl, a, b, c, d, p⟩
theorem go_ext : dExt to te ρ S post ↔ to ρ S fun o S1 => (∃ (n : Nat) (ds : List D), o = .lr n ∧ S1[n]? = some (.lst ds)) ∧ te ρ S1 (extK o post) := Iff.rfl
theorem go_extK {m : Nat} : extK (.lr n) post (.lr m) S ↔ ∃ ds, S[n]? = some (.lst ds) ∧ ∃ es, S[m]? = some (.lst es) ∧ ds.length + es.length ≤ 100000 ∧ post .non (S.set n (.lst (ds ++ es))) := by
  constructor
  · rintro ⟨a, b, ds, es, e1, h1, e2, h2, hl, p⟩
    cases e1
    cases e2
    exact ⟨ds, h1, es, h2, hl, p⟩
  · rintro ⟨ds, h1, es, h2, hl, p⟩
    exact ⟨n, m, ds, es, rfl, h1, rfl, h2, hl, p⟩
theorem go_augK {f : Int → Int → Int} {o j : D} {x z : Int} {p : Store → Prop} : augK f o j x p (.int z) S ↔ setSeq o j (.int (f x z)) S p := by
  constructor
  · rintro ⟨w, e, h⟩
    cases e
    exact h
  · exact fun h => ⟨z, rfl, h⟩
theorem go_add_tup {xs ys : List D} : oAdd2 (.tup xs) (.tup ys) S post ↔ xs.length + ys.length ≤ 100000 ∧ post (.tup (xs ++ ys)) S := by
  constructor
  · rintro (h | ⟨a, b, e1, e2, h⟩)
    · exact h.elim
    · cases e1
      cases e2
      exact h
  · exact fun h => .inr ⟨xs, ys, rfl, rfl, h⟩
theorem go_add2_int {i j : Int} : oAdd2 (.int i) (.int j) S post ↔ post (.int (i + j)) S := by
  constructor
  · rintro (h | ⟨a, b, e1, e2, h⟩)
    · exact h
    · cases e1
  · exact fun h => .inl h
theorem go_add2_lr {n m : Nat} : oAdd2 (.lr n) (.lr m) S post ↔ ∃ xs, S[n]? = some (.lst xs) ∧ ∃ ys, S[m]? = some (.lst ys) ∧ xs.length + ys.length ≤ 100000 ∧ post (.lr S.length) (S ++ [.lst (xs ++ ys)]) := by
  constructor
  · rintro (h | ⟨a, b, e1, e2, h⟩)
    · exact go_add_lr.mp h
    · cases e1
  · exact fun h => .inl (go_add_lr.mpr h)
theorem go_istup {xs : List D} {k : Bool} : truD S (.tup xs) k ↔ k = !xs.isEmpty := Iff.rfl
theorem go_islr {k : Bool} : truD S (.lr n) k ↔ (∃ ds, S[n]? = some (.lst ds) ∧ k = !ds.isEmpty) ∨ ∃ kvs, S[n]? = some (.dct kvs) ∧ k = !kvs.isEmpty := Iff.rfl
/-! ### loops over two -/
def zip2K (p : List D → (Store → Prop) → Store → Prop) (ds : List D) (S1 : Store) : Prop := ∃ x y xs ys, ds = [x, y] ∧ seqOf S1 x xs ∧ seqOf S1 y ys ∧ p (zip2D xs ys) (fun S2 => seqOf S2 x xs ∧ seqOf S2 y ys) S1
variable {p : List D → (Store → Prop) → Store → Prop} {x y : D} {t : DA} {ρ : DEnv}
theorem go_zip2 : wZip2 t ρ S p = t ρ S (zip2K p) := rfl
theorem go_zip2K : zip2K p [x, y] S ↔ ∃ xs, seqOf S x xs ∧ ∃ ys, seqOf S y ys ∧ p (zip2D xs ys) (fun S2 => seqOf S2 x xs ∧ seqOf S2 y ys) S := by
  constructor
  · rintro ⟨a, b, xs, ys, h, q, r, c⟩
    cases h
    exact ⟨xs, q, ys, r, c⟩
  · exact fun ⟨xs, q, ys, r, c⟩ => ⟨x, y, xs, ys, rfl, q, r, c⟩
def enum1K (p : List D → (Store → Prop) → Store → Prop) (ds : List D) (S1 : Store) : Prop := ∃ x xs, ds = [x] ∧ seqOf S1 x xs ∧ xs.length ≤ 100000 ∧ p (enum1D xs) (fun S2 => seqOf S2 x xs) S1
theorem go_enum1 : wEnum1 t ρ S p = t ρ S (enum1K p) := rfl
theorem go_enum1K : enum1K p [x] S ↔ ∃ xs, seqOf S x xs ∧ xs.length ≤ 100000 ∧ p (enum1D xs) (fun S2 => seqOf S2 x xs) S := by
  constructor
  · rintro ⟨a, xs, h, q, r, c⟩
    cases h
    exact ⟨xs, q, r, c⟩
  · exact fun ⟨xs, q, r, c⟩ => ⟨x, xs, rfl, q, r, c⟩
theorem go_tupA {gs : DGs} {k : Nat} {p : DEnv → Store → Prop} : gTupA k gs (.lr n) ρ S p ↔ ∃ ds, S[n]? = some (.lst ds) ∧ ds.length = k ∧ gs ds ρ S p := by
  constructor
  · rintro (⟨ds, h | h, _⟩ | ⟨ds, h | ⟨m, h, hm⟩, a, b⟩)
    · cases h
    · cases h
    · cases h
    · cases h
      exact ⟨ds, hm, a, b⟩
  · exact fun ⟨ds, a, b, c⟩ => .inr ⟨ds, .inr ⟨n, rfl, a⟩, b, c⟩
end
theorem fine_str {x : Str} (h : (PyData.showable (.str x) && (!PyData.hasDict (.str x)) && PyData.leavesShort 100 (.str x) && PyData.canLay0 (.str x) && decide (PyData.weight (.str x) ≤ 64) && decide (PyData.depth (.str x) ≤ 0)) = true) : Fine 64 0 (.str x) := by
  simp only [Bool.and_eq_true, decide_eq_true_eq, Bool.not_eq_true'] at h
  obtain ⟨⟨⟨⟨⟨h1, h2⟩, h3⟩, h4⟩, h5⟩, h6⟩ := h
  exact ⟨rfl, h1, h2, h3, h4, h5, h6⟩
end DL
/-! ZT: a lambda without parameters handed to a def. -/
namespace DL
open PySem PySem.Spec PyProof.Rows L2
variable [HasT]

/-! ### a step in which tables may grow -/
section
variable {K : PySem.W.Frag} {H H1 : Hp} {A : List Addr} {S : Store}
theorem Ext.grow (e : LamX.ExtN H H1) : Ext H A H1 A := by
  refine ⟨⟨[], by simp, by simp⟩, fun a o q => ?_⟩
  by_cases t : TblO o
  · exact .inr (.inr t)
  · exact .inl (e a o q fun ps z => t ⟨ps, z⟩)
theorem RelS.grow (s : RelS K H A S) (e : LamX.ExtN H H1) (t : TabsT H1) : RelS K H1 A S := by
  have stay : ∀ a ∈ A, ∀ o, H a = some o → H1 a = some o := fun a ha o q => e a o q fun ps z => ld_tbl (s.ld ha q) ⟨ps, z⟩
  refine ⟨s.len, s.nd, fun n en hn => ?_, t⟩
  obtain ⟨a, ha, r⟩ := s.ent n en hn
  exact ⟨a, ha, r.ext (Ext.grow e) (stay a (List.mem_iff_getElem?.mpr ⟨n, ha⟩))⟩
end

/-! ### what a lambda captures: things that hang on no list of the store -/
def capt (ρ : DEnv) : DEnv := ρ.map fun od => od.bind fun d => if below 0 d = true then some d else none
def wipeAll (ρ : DEnv) : DEnv := ρ.map fun _ => none
theorem capt_get {ρ : DEnv} {i : Nat} {d : D} (h : (capt ρ)[i]? = some (some d)) : ρ[i]? = some (some d) ∧ below 0 d = true := by
  unfold capt at h
  rw [List.getElem?_map] at h
  cases q : ρ[i]? with
  | none =>
    rw [q] at h
    cases h
  | some od =>
    rw [q] at h
    cases od with
    | none => cases h
    | some d' =>
      have h' : (if below 0 d' = true then some d' else none) = some d := Option.some.inj h
      by_cases c : below 0 d' = true
      · rw [if_pos c] at h'
        cases h'
        exact ⟨rfl, c⟩
      · rw [if_neg c] at h'
        cases h'
theorem relN_wipe {K : PySem.W.Frag} {H : Hp} {A : List Addr} {ρ : DEnv} {σ : L2.St} (h : σ.length = ρ.length) : RelN K H A (wipeAll ρ) σ := by
  refine ⟨by rw [h, wipeAll, List.length_map], fun i d q => ?_⟩
  unfold wipeAll at q
  rw [List.getElem?_map] at q
  cases c : ρ[i]? <;> rw [c] at q <;> cases q
/-- the lambda at f, its code object at c', the names that it captured -/
def lamF (f c' : Addr) (q : Str) (ρ : DEnv) (σ : L2.St) : PySem.W.Frag → Hp → Addr → Prop := fun K H a => a = f ∧ H c' = some (LamX.CodeO c' q) ∧ ∀ (i : Nat) (d : D), (capt ρ)[i]? = some (some d) → ∃ v : V, σ[i]? = some (some v) ∧ RelD K H [] d v
theorem nmut_code {c : Addr} {q : Str} : ¬ MutO (LamX.CodeO c q) := by
  unfold LamX.CodeO
  rintro ((⟨_, h⟩ | ⟨_, h⟩ | ⟨_, _, h⟩) | ⟨_, h⟩) <;> cases h
theorem lamF_stab {f c' : Addr} {q : Str} {ρ : DEnv} {σ : L2.St} {K : PySem.W.Frag} : StabP (lamF f c' q ρ σ K) := fun H H' a k ⟨h1, h2, h3⟩ =>
  ⟨h1, k _ _ h2 nmut_code, fun i d hd => let ⟨v, g1, g2⟩ := h3 i d hd; ⟨v, g1, g2.keep (B := []) k⟩⟩
/-- call(): the lambda's body over what it captured; an exception forgets the names of the def that calls -/
def dAct (φ : PySem.W.Frag → Hp → Addr → Prop) (te : DEX) (ρ : DEnv) : DEX := fun ρZ SZ post ex => ρZ[0]? = some (some (.opq φ)) ∧ te (capt ρ) SZ post fun cls w _ S' => ex cls w (wipeAll ρZ) S'
def dLam (Ng : List Str) (b : DEX → DS) (te : DEX) : DE := fun ρ S post => ∀ φ, b (dAct φ te ρ) ⟨fun _ S' => post .non S', post, fun _ _ => False, fun _ _ => False, fun _ _ _ _ => False⟩ (startD Ng [.opq φ]) S
/-- the context of the def that calls what it got, entered at s -/
abbrev hCx (X : Cx) (Ng : List Str) (x : Str) (sg : Scope) (g : Addr) (cdg : Value) (s : Shared) (H : Hp) : Cx := cxOf C8.CX0 X.prog X.w X.K X.mg X.base Ng x sg g cdg X.A X.stack s H C8.E0
def WXof (E : XK) : WX := fun cls d _ H' => E cls d H'
def TTd (K : PySem.W.Frag) (Ng : List Str) (b : DEX → DS) (te : DEX) : (XK → Hp → VK → Prop) → Hp → VK → Prop := fun tl H Q => ∃ σ A ρ S post, tl = (fun E H' Q' => liftEX K (WXof E) te σ H' Q') ∧ RelN K H A ρ σ ∧ RelS K H A S ∧ KontE K H A post Q ∧ dLam Ng b te ρ S post
theorem takes_len {X : Cx} {W : WX} (tk : Takes X W) : Takes X fun cls d σ H => σ.length = X.N.length → W cls d σ H := fun u s' ⟨a, B, sI, pins, σ, H, cls, d, e, I, nb, up, sky, na, os, ag, w⟩ =>
  tk u s' ⟨a, B, sI, pins, σ, H, cls, d, e, I, nb, up, sky, na, os, ag, w I.len⟩
theorem lam_gives {X : Cx} {Ng : List Str} {x a q : Str} {sg : Scope} {g : Addr} {cdg : Value} {bg : List Stmt} {b : DEX → DS} {te : DEX} (hN : 1 ≤ Ng.length)
    (ok : ∀ (s : Shared) (H : Hp) (act : DEX), (∀ (W : WX) (pn : List (Addr × Obj)) (xe : Value → Shared → Prop) (p1 p2 : Pos), Takes ((hCx X Ng x sg g cdg s H).tr pn xe) W → PE ((hCx X Ng x sg g cdg s H).tr pn xe) (.Call (.Name a p1) [] [] p2) (liftEX X.K W act)) →
      PSs (hCx X Ng x sg g cdg s H).nox bg (liftS X.K W0 (b act))) :
    LamX.GivesTo X Ng x sg g cdg bg a q (TTd X.K Ng b te) := by
  intro f c' s H Q tl act hc ⟨σ, A, ρ, S, post, etl, n, sS, k, h⟩
  subst etl
  have hφ : lamF f c' q ρ σ X.K H f := ⟨rfl, hc, fun i d hd => by
    obtain ⟨h1, h2⟩ := capt_get hd
    obtain ⟨v, g1, g2⟩ := n.at_ i d h1
    refine ⟨v, g1, ?_⟩
    have := g2.take h2
    rwa [List.take_zero] at this⟩
  refine ⟨_, ok s H (dAct (lamF f c' q ρ σ) te ρ) fun W pn xe p1 p2 tk => ⟨fun pins sZ σZ HZ Q' I ⟨A', ρZ, SZ, post', ex, nZ, sZ', ⟨hρ, hte⟩, kZ, kx⟩ => ?_⟩, ?_⟩
  · obtain ⟨v, hv, av, rfl, ⟨ef, hcZ, hcap⟩, _⟩ := nZ.at_ 0 _ hρ
    subst ef
    have hlen : ρZ.length = ((hCx X Ng x sg g cdg s H).tr pn xe).N.length := nZ.len.trans I.len
    refine (act _ pn xe (fun cls d H' => ∀ σ' : L2.St, σ'.length = ρZ.length → W cls d σ' H') p1 p2 (takes_len tk) fun cls d σ' H' hE hl => hE σ' (hl.trans hlen.symm)).run pins sZ σZ HZ Q' I ⟨hv, hcZ, ?_⟩
    refine ⟨A', capt ρ, SZ, post', _, ⟨by rw [capt, List.length_map]; exact n.len, fun i d hd => ?_⟩, sZ', hte, kZ, ?_⟩
    · obtain ⟨v, g1, g2⟩ := hcap i d hd
      exact ⟨v, g1, g2.keep (A := []) (B := A') fun _ _ q _ => q⟩
    · intro cls d σ' H' A'' w u ρ' S' e n' s' hd' rw' p σ1 hl1
      exact kx cls d σ1 H' A'' w u (wipeAll ρZ) S' e (relN_wipe hl1) s' hd' rw' p
  · refine ⟨A, startD Ng [.opq (lamF f c' q ρ σ)], S, _, RelN.start ⟨.ref f, [], rfl, ⟨f, rfl, hφ, lamF_stab⟩, rfl⟩, sS, h _, ?_, k, fun _ _ _ _ _ _ _ _ p => p.elim, ⟨fun _ _ _ _ _ _ _ _ p => p.elim, kontX0⟩⟩
    exact fun σ' H' A' ρ' S' e n' s' p => k .non H' A' .non S' e s' rfl p
theorem takes_lam {X : Cx} {A : Around} {outer : List Env} {s : Shared} {H : Hp} {E : XK} {scope : Scope} {f c' : Addr} : Takes (LamX.lamCx X A outer s H E scope f c') (WXof E) := takes_of rfl rfl rfl rfl
/-- the def that calls, in a context of its own: the name at i holds the lambda made in X at s; no repr runs -/
theorem act_gd {X : Cx} {pins : List (Addr × Obj)} {σ : L2.St} {H : Hp} {s : Shared} {cx : CXT} {eg : XK} {Ng : List Str} {qg a : Str} {sg scope : Scope} {g f c' : Addr} {cdg pm ctv : Value} {params : Arguments} {body : Expr} {k i : Nat} {pn : List (Addr × Obj)} {xe : Value → Shared → Prop} {W : WX} {E : XK} {tb : TE} {p1 p2 : Pos}
    (inv : Inv X pins σ H s) (lam : LamX.LamS X.env.scope scope) (at_f : s.heap.get? f = some (PySem.W.kla_obj "<lambda>" (X.env.qual ++ "<lambda>") params body scope (cloFrom X.env.cells scope.names []) pm c' ctv)) (nf : H f = none) (ff : f ∉ frs X.stack) (gd : X.A.guards = some [])
    (bind0 : bindArgs (PySem.W.kla_fn "<lambda>" (X.env.qual ++ "<lambda>") params body scope (cloFrom X.env.cells scope.names []) pm (.ref c') ctv) ⟨[], []⟩ = pure [])
    (tk : Takes ((cxOf cx X.prog X.w X.K X.mg X.base Ng qg sg g cdg X.A X.stack s H eg).tr pn xe) W) (sub : ∀ cls d σ' H', E cls d H' → W cls d σ' H') (room : Room (k + 1) (X.A.deeper (envOfC qg sg s.heap.objs.size g cdg)))
    (hb : ∀ (A : Around) (outer : List Env) (s : Shared) (H : Hp), A.guards = some [] → Room k (A.deeper (LamX.lamEnv X scope s.heap.objs.size f c')) → PE (LamX.lamCx X A outer s H E scope f c') body tb)
    (slot : Ng[i]? = some a) (vis : Vis sg a) (d1 : (a == ("__debug__" : Str)) = false := by decide) (d2 : (a == ("__classdict__" : Str)) = false := by decide) :
    PE ((cxOf cx X.prog X.w X.K X.mg X.base Ng qg sg g cdg X.A X.stack s H eg).tr pn xe) (.Call (.Name a p1) [] [] p2) (fun τ HZ Q => τ[i]? = some (some (.ref f)) ∧ HZ c' = some (LamX.CodeO c' (X.env.qual ++ "<lambda>")) ∧ tb σ HZ Q) := by
  constructor
  rintro pz s0 τ HZ Q iz ⟨hi, hcode, ht⟩
  have name := (pe_var (pos := p1) (i := i) slot vis d1 d2).run pz s0 τ HZ (fun v H' => v = .ref f ∧ H' = HZ) iz ⟨.ref f, hi, rfl, rfl⟩
  refine wpAny_Call_Name_kw (thn name ?_)
  rintro u s1 ⟨v, H', i1, rv, rfl, rfl⟩
  cases (show u = Value.ref f from rv)
  have here := i1.base.keep f _ at_f nf ff (fun z => nomatch (show f ∈ ([] : List Addr) from z))
  obtain ⟨⟨oc, vs, t, oc1, oc2, oc3⟩, -, -⟩ := i1.hok c' _ hcode
  refine PySem.W.callWith_F0 ⟨_, _, _, _, here⟩ (wpAny_call (codeAny_mono (R := CR (L2.CX X.prog X.w) (envOfC qg sg s.heap.objs.size g cdg :: X.stack) X.prog X.w H' s1 Q E) ?run ?out))
  case out =>
    rintro (e | fl) s2 hq
    · exact passes_call tk sub pz τ H' s1 e s2 i1 hq
    · cases fl <;> first | exact i1.after hq | exact hq.elim
  case run =>
    refine PySem.W.kla_callFunE room.depth here rfl lam.co lam.gen rfl ⟨c', oc, vs, t, rfl, oc1, oc2, oc3⟩ ?_
    rw [List.append_nil, bind0]
    refine wpAny_pure (wpAny_newFunctionEnv (fun y hy => (lam.own y hy).2) (fun y hy => nomatch hy) (fun h₁ fresh grown => ⟨i1.nolimit.fresh _ grown, ?_⟩) lam.kind)
    have old : ∀ b o, s1.heap.get? b = some o → h₁.get? b = some o := fun b o e => grown.extBut b o (Nat.ne_of_lt (Heap.lt_size e)) (Heap.get?_push_of_some _ e)
    have start := LamX.lam_start2 (tk := s1.toks + ([] : List (Str × Value)).length) (E := E) (scope := scope) (f := f) (c' := c') inv lam i1.env0 room.hd i1.base fresh old
    refine PySem.W.kla_codeExpr (wpAny_mono ((hb (X.A.deeper (envOfC qg sg s.heap.objs.size g cdg)) (envOfC qg sg s.heap.objs.size g cdg :: X.stack) s1 H' (show X.A.guards = some [] from gd) (room.deeper _)).run [] _ _ H' Q start ht) ?_ fun _ _ h => h)
    rintro v s2 ⟨w', H2, i2, r2, q2⟩
    exact ⟨w', H2, i2.os, i2.bare, i2.base, i2.hok, r2, q2⟩
/-- x(lambda: body), x a def of one parameter that calls what it got -/
theorem de_lam {X : Cx} {x a : Str} {g c P : Addr} {k : Nat} {pg params : Arguments} {bg : List Stmt} {sg scope : Scope} {dV kV doc pm cdv ct oc : Value} {an od : Option Addr} {osl : Array (Option Value)} {Ng : List Str} {b : DEX → DS} {te : DEX} {body : Expr} {p lpos pos : Pos}
    (hg : Gl X x) (hm : X.mg x = some (.ref g)) (hk : PySem.W.keepIn X.K (.ref g) = true) (gd : X.A.guards = some [])
    (lk : X.K.lookup g = some ⟨oc, od, .func (PySem.W.fnOf x x pg bg sg dV kV doc pm an cdv ct), osl⟩) (hcg : PySem.W.codeIn X.K cdv x = true) (hb : L2.Binds X.K (PySem.W.fnOf x x pg bg sg dV kV doc pm an cdv ct) [a] []) (Sg : FnScope Ng [a] sg) (slot : Ng[0]? = some a) (vis : Vis sg a)
    (ok : ∀ (s : Shared) (H : Hp) (act : DEX), Room (k + 1) (X.A.deeper (envOfC x sg s.heap.objs.size g cdv)) → (∀ (W : WX) (pn : List (Addr × Obj)) (xe : Value → Shared → Prop) (p1 p2 : Pos), Takes ((hCx X Ng x sg g cdv s H).tr pn xe) W → PE ((hCx X Ng x sg g cdv s H).tr pn xe) (.Call (.Name a p1) [] [] p2) (liftEX X.K W act)) →
      PSs (hCx X Ng x sg g cdv s H).nox bg (liftS X.K W0 (b act)))
    (tab : LamX.TabB X.base X.mg c P) (hcode : X.env.code = .ref c) (hmT : (P, X.env.qual ++ "<lambda>") ∈ HasT.T) (hu : ∀ p ∈ HasT.T, p.1 = P → p.2 = X.env.qual ++ "<lambda>") (hr : Room (k + 2) X.A) (lam : LamX.LamS X.env.scope scope) (nodef : defaultsOf params X.env = ([], []))
    (bind0 : ∀ (q : Str) (cl : List (Str × Addr)) (pm cv ctv : Value), bindArgs (PySem.W.kla_fn "<lambda>" q params body scope cl pm cv ctv) ⟨[], []⟩ = pure [])
    (hbody : ∀ (A : Around) (outer : List Env) (s : Shared) (H : Hp) (E : XK) (f c' : Addr), A.guards = some [] → Room k (A.deeper (LamX.lamEnv X scope s.heap.objs.size f c')) → PE (LamX.lamCx X A outer s H E scope f c') body (liftEX X.K (WXof E) te))
    (d0 : (x == ("__debug__" : Str)) = false := by decide) (d1 : (a == ("__debug__" : Str)) = false := by decide) (d2 : (a == ("__classdict__" : Str)) = false := by decide) :
    PE X (.Call (.Name x p) [.Lambda params body scope lpos] [] pos) (liftE X.K (dLam Ng b te)) := by
  have hN : 1 ≤ Ng.length := by
    have := (List.getElem?_eq_some_iff.mp slot).1
    omega
  constructor
  rintro pins s σ H Q inv ⟨A, ρ, S, post, n, sS, h, kk⟩
  have made := fun Q' h' => LamX.lam_make2 (T := HasT.T) (E := X.xe) (Q := Q') (params := params) (body := body) (scope := scope) (pos := lpos) inv tab hcode hmT hu sS.tabs nodef (lam.has inv.ok) h'
  refine wpAny_Call_Name_kw (ld_glob inv hg hm (PySem.W.callWith_K (h₀ := X.base) inv.ok.mod.kin hk ?_ (by rfl) (by rfl)) d0)
  refine Calls.spliced_cons (made _ ?_)
  intro f c' pm' ctv H1 s1 i1 eN t1 hf nf ff hco
  refine Calls.spliced_nil ⟨i1.kIn, wpAny_call (codeAny_mono (R := CR C8.CX0 X.stack X.prog X.w H1 s1 Q C8.E0) ?run ?out)⟩
  case out =>
    rintro (e | fl) s2 hq
    · exact hq.elim
    · cases fl <;> first | exact i1.after hq | exact hq.elim
  case run =>
    refine LamX.run_ofS (N := Ng) (ps := [a]) (us := [.ref f]) (vs := [.ref f]) lk hcg Sg hr i1.env0 (hb s1 [.ref f] i1.kIn rfl) (.cons rfl .nil) rfl fun room => ?_
    obtain ⟨t', ht, hq⟩ := lam_gives (q := X.env.qual ++ "<lambda>") hN (fun s H act => ok s H act (hr.deeper _)) f c' s1 H1 Q (fun E H' Q' => liftEX X.K (WXof E) te σ H' Q')
      (fun W pn xe E p1 p2 tk sub => act_gd i1 lam hf nf ff gd (bind0 _ _ _ _ _) tk sub room (fun A outer s H hA hR => hbody A outer s H E f c' hA hR) slot vis d1 d2) hco ⟨σ, A, ρ, S, post, rfl, n.ext (Ext.grow eN), sS.grow eN t1, kk.go (Ext.grow eN), h⟩
    exact ⟨t', ht.nox, hq⟩
end DL
/-! ZU: the law's own end where lambdas are made: it starts with empty tables of code objects. -/
namespace DL
open PySem PySem.Spec PyProof.Rows L2
variable [HasT]

/-- nothing else is tracked at the start: the script, and the tables -/
def Start (T : List Addr) (sc : Addr) (H : Hp) : Prop := ∀ b u, H b = some u → (b ∈ T ∧ u = .tbl #[]) ∨ (b = sc ∧ ∃ o xs, u = .frz o (.lst xs))
theorem endGT {P : Program} {w : World} {K : PySem.W.Frag} {mg mb : Str → Option Value} {k : Nat} {fa sc : Addr} {fd : FuncData} {x : Str} {sp : Sp} {s0 : Shared} {us : List Value} {ks : List Int} {cs : List (Addr × Addr)}
    (KX : K.In s0.heap) (nG : s0.heap.Ns mainGlobals mg) (nB : s0.heap.Ns builtinsNs mb) (bb : ∀ z : Str, z ≠ "__name__" → mb z = bootBuiltins z) (lim : s0.heap.NoLimit) (gn : s0.gens = #[])
    (t0 : ∀ p ∈ cs, s0.heap.get? p.2 = some { cls := .none, data := .fields #[] }) (tK : ∀ p ∈ cs, K.lookup p.2 = none) (tC : ∀ p ∈ cs, PySem.W.CodeHd s0.heap p.1 p.2)
    (bm : ∃ (m : Addr) (o : Obj), mg "__builtins__" = some (.ref m) ∧ m ≠ builtinsNs ∧ s0.heap.get? m = some o ∧ o.cls = .type "module" ∧ o.dict = some builtinsNs ∧ o.data = .plain)
    (hsc : s0.heap.get? sc = some { cls := .type "list", data := .seq us.toArray }) (ii : IntsAre us ks) (kl : ks.length ≤ sizeLine) (rm : Room k callerA)
    (F : ∀ base : Heap, K.In base → base.Ns mainGlobals mg → (∀ p ∈ cs, LamX.TabB base mg p.1 p.2) → FnG P w K mg base CX0 k fa fd [x] sp) (bd : ∀ (s : Shared) (u : Value), BindsTo s fd ⟨[u], []⟩ [(x, u)])
    (spk : ∀ H : Hp, Start (cs.map (·.2)) sc H → (∀ p ∈ cs, H p.2 = some (.tbl #[])) → SqL K H sc (ks.map V.int) → sp [.ref sc] H (fun v _ => v = .bl true) fun _ _ _ => False) :
    codeAny (model P w) callerA (.call (.ref fa) ⟨[.ref sc], []⟩) (fun r s' => r = .ok (.ret (.bool true)) ∧ OldK s0.heap s'.heap ∧ s'.os = s0.os ∧ AllBare s'.gens) s0 := by
  have rv := intVals ii
  have lU := ii.length
  have tabAt : ∀ {b : Addr}, b ∈ cs.map (·.2) → s0.heap.get? b = some { cls := .none, data := .fields #[] } := by
    intro b hb
    obtain ⟨p, hp, rfl⟩ := List.mem_map.mp hb
    exact t0 p hp
  have scT : sc ∉ cs.map (·.2) := fun z => by
    have q := (tabAt z).symm.trans hsc
    cases congrArg Obj.data (Option.some.inj q)
  have core : ∀ H : Hp, Start (cs.map (·.2)) sc H → (∀ b ∈ cs.map (·.2), H b = some (.tbl #[])) → SqL K H sc (ks.map V.int) → HOk P w H s0.heap → (H sc ≠ none → K.lookup sc = none) →
      codeAny (model P w) callerA (.call (.ref fa) ⟨[.ref sc], []⟩) (fun r s' => r = .ok (.ret (.bool true)) ∧ OldK s0.heap s'.heap ∧ s'.os = s0.os ∧ AllBare s'.gens) s0 := by
    intro H hO hT hS ok1 free1
    have untr : ∀ {b : Addr} {o : Obj}, s0.heap.get? b = some o → (∀ vs n, o.data ≠ .seq vs n) → o.data ≠ .fields #[] → H b = none := by
      intro b o e h1 h2
      cases q : H b with
      | none => rfl
      | some u =>
        rcases hO b u q with ⟨hb, _⟩ | ⟨rfl, _⟩
        · exact absurd (congrArg Obj.data (Option.some.inj (e.symm.trans (tabAt hb)))) h2
        · exact absurd (congrArg Obj.data (Option.some.inj (e.symm.trans hsc))) (h1 _ _)
    have ns1 : ∀ {b : Addr} {m : Str → Option Value}, s0.heap.Ns b m → (hidT s0.heap H).Ns b m := by
      rintro b m ⟨o, es, ep, e, d, r⟩
      exact ⟨o, es, ep, hidT_get e (untr e (fun _ _ z => by rw [d] at z; cases z) fun z => by rw [d] at z; cases z), d, r⟩
    have kin1 : K.In (hidT s0.heap H) := by
      intro b o e
      refine hidT_get (KX b o e) ?_
      cases q : H b with
      | none => rfl
      | some u =>
        rcases hO b u q with ⟨hb, _⟩ | ⟨rfl, _⟩
        · obtain ⟨p, hp, rfl⟩ := List.mem_map.mp hb
          cases (tK p hp).symm.trans e
        · cases (free1 (by rw [q]; simp)).symm.trans e
    have md : Mod K mg (hidT s0.heap H) := ⟨kin1, ns1 nG, ⟨mb, ns1 nB, bb⟩, by
      obtain ⟨mc, h1, h2⟩ := lim
      exact ⟨mc, ns1 h1, h2⟩⟩
    have tabs : ∀ p ∈ cs, LamX.TabB (hidT s0.heap H) mg p.1 p.2 := by
      intro p hp
      have notG : mainGlobals ≠ p.2 := fun z => by
        obtain ⟨o, es, ep, e, d, _⟩ := nG
        rw [z] at e
        have q := congrArg Obj.data (Option.some.inj (e.symm.trans (t0 p hp)))
        rw [d] at q
        cases q
      refine ⟨?_, ?_, notG⟩
      · obtain ⟨o, vs, file, tf, flags, tg, inF, text, tt, e, r1, r2, r3, rest⟩ := tC p hp
        exact ⟨o, vs, file, tf, flags, tg, inF, text, tt, hidT_get e (untr e (fun _ _ z => by rw [r2] at z; cases z) fun z => by
          rw [r2] at z
          cases z
          simp at r3), r1, r2, r3, rest⟩
      · obtain ⟨m, o, b1, b2, b3, b4, b5, b6⟩ := bm
        refine ⟨m, o, b1, b2, fun q => ?_, fun q => ?_, hidT_get b3 (untr b3 (fun _ _ z => by rw [b6] at z; cases z) fun z => by rw [b6] at z; cases z), b4, b5, b6⟩
        · obtain ⟨o', es, ep, e, d, _⟩ := nG
          rw [q] at b3
          have z := congrArg Obj.data (Option.some.inj (b3.symm.trans e))
          rw [b6, d] at z
          cases z
        · rw [q] at b3
          have z := congrArg Obj.data (Option.some.inj (b3.symm.trans (t0 p hp)))
          rw [b6] at z
          cases z
    have nothing : ∀ b : Addr, b ∉ ([] : List Addr) := fun b => by simp
    have env1 : Env0 P w K mg (hidT s0.heap H) callerA [] s0 H := ⟨rfl, md, fun b o e => of_hidT e, Nat.le_of_eq (hidT_size _ _), trivial, fun b hb => absurd (show b ∈ ([] : List Addr) from hb) (nothing b), ok1, .of_eq gn⟩
    have run1 := (F _ kin1 (ns1 nG) tabs).run callerA [] s0 H ⟨[.ref sc], []⟩ [.ref sc] [.ref sc] _ _ rfl rm env1 (bd s0 (.ref sc)) (.cons rfl .nil) (spk H hO (fun p hp => hT _ (List.mem_map.mpr ⟨p, hp, rfl⟩)) hS)
    refine codeAny_mono run1 fun r s' h => ?_
    match r, h with
    | .error e, h => exact h.elim
    | .ok .next, h => exact h.elim
    | .ok .brk, h => exact h.elim
    | .ok .cont, h => exact h.elim
    | .ok (.ret u), h =>
      obtain ⟨v, H', os, bare, un, ok2, rr, q⟩ := h
      cases (show v = .bl true from q)
      obtain rfl : u = Value.bool true := rr
      have same : ∀ b o, b ∉ cs.map (·.2) → s0.heap.get? b = some o → s'.heap.get? b = some o := by
        intro b o nb e
        cases q : H b with
        | none => exact un.keep b o e q (fun z => absurd (show b ∈ ([] : List Addr) from z) (nothing b)) (nothing b)
        | some u =>
          rcases hO b u q with ⟨hb, _⟩ | ⟨_, ob, xs, rfl⟩
          · exact absurd hb nb
          · obtain ⟨e1, _⟩ := ok1 b _ q
            obtain ⟨e2, _⟩ := ok2 b _ (un.frzs b ob _ q)
            rw [e] at e1
            cases e1
            exact e2
      have grown : ∀ p ∈ cs, ∃ more : Array Value, s'.heap.get? p.2 = some { cls := .none, data := .fields more } := by
        intro p hp
        obtain ⟨more, z⟩ := un.tbls p.2 #[] (hT _ (List.mem_map.mpr ⟨p, hp, rfl⟩))
        exact ⟨_, ok2 p.2 _ z⟩
      refine ⟨rfl, ⟨fun b o e => ?_, fun b o e => ?_⟩, os, bare⟩ <;> by_cases hb : b ∈ cs.map (·.2)
      · obtain ⟨p, hp, rfl⟩ := List.mem_map.mp hb
        obtain ⟨more, hm⟩ := grown p hp
        cases (t0 p hp).symm.trans e
        exact .inr (.inl ⟨((tC p hp).tab (t0 p hp)).isCodeTable, rfl, #[], more, rfl, by rw [Array.empty_append]; exact hm⟩)
      · exact .inl (same b o hb e)
      · obtain ⟨p, hp, rfl⟩ := List.mem_map.mp hb
        obtain ⟨more, hm⟩ := grown p hp
        exact ⟨_, hm⟩
      · exact ⟨o, same b o hb e⟩
  let fz : HO := .frz { cls := .type "list", data := .seq us.toArray } (.lst (ks.map V.int))
  let H0 : Hp := fun b => if b ∈ cs.map (·.2) then some (.tbl #[]) else if b = sc ∧ K.lookup sc = none then some fz else none
  have kind : ∀ b u, H0 b = some u → (b ∈ cs.map (·.2) ∧ u = .tbl #[]) ∨ (b = sc ∧ K.lookup sc = none ∧ u = fz) := by
    intro b u q
    by_cases hb : b ∈ cs.map (·.2)
    · have q' : some (HO.tbl #[]) = some u := (if_pos hb).symm.trans q
      exact .inl ⟨hb, (Option.some.inj q').symm⟩
    · have q' : (if b = sc ∧ K.lookup sc = none then some fz else none) = some u := (if_neg hb).symm.trans q
      by_cases c : b = sc ∧ K.lookup sc = none
      · rw [if_pos c] at q'
        exact .inr ⟨c.1, c.2, (Option.some.inj q').symm⟩
      · rw [if_neg c] at q'
        cases q'
  refine core H0 (fun b u q => (kind b u q).imp id fun ⟨h1, _, h3⟩ => ⟨h1, _, _, h3⟩) (fun b hb => if_pos hb) ?_ (fun b u q => ?_) fun z => ?_
  · cases hk : K.lookup sc with
    | some o =>
      have e := KX sc o hk
      rw [hsc] at e
      cases e
      exact .inr ⟨_, us.toArray, _, hk, rfl, rfl, rfl, by rw [List.size_toArray, lU]; exact kl, by simpa using rv⟩
    | none => exact .inl (.inr ⟨_, (if_neg scT).trans (if_pos ⟨rfl, hk⟩)⟩)
  · rcases kind b u q with ⟨hb, rfl⟩ | ⟨rfl, _, rfl⟩
    · exact tabAt hb
    · exact ⟨hsc, by rw [List.length_map]; exact kl, us, _, rv, hsc⟩
  · cases q : H0 sc with
    | none => exact absurd q z
    | some u =>
      rcases kind sc u q with ⟨hb, _⟩ | ⟨_, hk, _⟩
      · exact absurd hb scT
      · exact hk
omit [HasT] in
/-- what the end wants of a law whose defs make lambdas, at the head's heap h: T, the tables and the names that their code objects bear; cs, the code objects that own them -/
structure TabsAt (K : PySem.W.Frag) (h : Heap) (T : HasT) (cs : List (Addr × Addr)) : Prop where
  empty : ∀ p ∈ cs, h.get? p.2 = some { cls := .none, data := .fields #[] }
  out : ∀ p ∈ cs, K.lookup p.2 = none
  code : ∀ p ∈ cs, PySem.W.CodeHd h p.1 p.2
  all : ∀ p ∈ T.T, p.1 ∈ cs.map (·.2)
omit [HasT] in
/-- the def at fa, its code object and that one's table, as they stand in K -/
structure OwnAt (K : PySem.W.Frag) (fa c P : Addr) : Prop where
  hd : PySem.W.codeHdIn K c P = true
  out : K.lookup P = none
  fn : ∃ (o : Obj) (fd : FuncData), K.lookup fa = some o ∧ o.data = .func fd ∧ fd.code = .ref c
  cd : ∃ (e : Value) (dd : Option Addr) (vs : Array Value) (sl : Array (Option Value)), K.lookup c = some ⟨e, dd, .fields vs, sl⟩ ∧ vs[11]? = some (.ref P)
omit [HasT] in
theorem TabsAt.of {K : PySem.W.Frag} {h : Heap} {q : Program} {mg : Str → Option Value} {T : HasT} {cs : List (Addr × Addr)} (KX : K.In h) (own : ∀ r ∈ recsOf q, ∀ fb, mg r.name = some (.ref fb) → LamX.OwnTab K fb h)
    (hc : ∀ p ∈ cs, ∃ r ∈ recsOf q, ∃ fb, mg r.name = some (.ref fb) ∧ OwnAt K fb p.1 p.2) (all : ∀ p ∈ T.T, p.1 ∈ cs.map (·.2)) : TabsAt K h T cs := by
  refine ⟨fun p hp => ?_, fun p hp => ?_, fun p hp => ?_, all⟩ <;> obtain ⟨r, hr, fb, hfb, O⟩ := hc p hp
  · obtain ⟨o, fd, f1, f2, f3⟩ := O.fn
    obtain ⟨e, dd, vs, sl, c1, c2⟩ := O.cd
    exact own r hr fb hfb _ _ o fd e dd vs sl f1 f2 f3 c1 c2
  · exact O.out
  · exact PySem.W.codeHd_of_K KX O.hd
omit [HasT] in
theorem walkGT {l : PySem.W.OpenLaw} {n k : Nat} {q : Program} {loose : List Str} {XP : (Str → Option Value) → Heap → Prop} {YP : World → Heap → Prop} {d : DefRec} {K : Params → PySem.W.Frag} {sp : DSp} {x : Str}
    (hn : l.most = some n) (hn2 : n ≤ sizeLine) (nodef : d.params.defaults = []) (rm : Room k callerA) (hY : ∀ (w : World) (h : Heap), YP w h → (K w.params).In h)
    (F : ∀ (w : World) (mg : Str → Option Value) (fa : Addr) (h : Heap), YP w h → (K w.params).In h → h.Ns mainGlobals mg → mg d.name = some (.ref fa) → (∀ r ∈ recsOf q, ∀ fb, mg r.name = some (.ref fb) → LamX.OwnTab (K w.params) fb h) →
      ∃ (T : HasT) (cs : List (Addr × Addr)) (fd : FuncData), TabsAt (K w.params) h T cs ∧ (∀ (s : Shared) (u : Value), BindsTo s fd ⟨[u], []⟩ [(x, u)]) ∧
        ∀ base : Heap, (K w.params).In base → base.Ns mainGlobals mg → (∀ p ∈ cs, LamX.TabB base mg p.1 p.2) → FnG l.prog w (K w.params) mg base CX0 k fa fd [x] (spL (K w.params) sp))
    (hsp : ∀ (ns : List Int), ns.length ≤ n → sp [.rl (ns.map D.int)] [] fun d _ => d = .bl true) :
    PySem.W.WalkO q loose XP YP l.row.toRowW d [] (fun f vs => PySem.call f vs) := by
  refine Att.attach_call hn nodef fun w s₀ s₁ mg mb fa o pm cd doc a us ks G Y ho hd hcd hmg hobj hints hlen hg => ?_
  have KX := hY w _ Y
  have own : ∀ r ∈ recsOf q, ∀ fb, mg r.name = some (.ref fb) → LamX.OwnTab (K w.params) fb s₁.heap := by
    intro r hr fb hfb c P o1 fd1 e dd vs sl k1 k2 k3 k4 k5
    obtain ⟨a', o', fd', c', P', h1, h2, h3, h4, _, ⟨oc, vc, e1, _, e3, e4⟩, hP⟩ := G.T.tab r hr
    cases hfb.symm.trans h1
    cases (KX _ _ k1).symm.trans h2
    cases k2.symm.trans h3
    cases k3.symm.trans h4
    cases (KX _ _ k4).symm.trans e1
    cases e3
    cases k5.symm.trans e4
    exact hP
  obtain ⟨T, cs, fd, ta, hb, hF⟩ := F w mg fa _ Y KX G.T.g hmg own
  refine endGT KX G.T.g G.T.b G.T.builtins G.T.nolimit hg ta.empty ta.out ta.code G.T.bmain hobj hints (Nat.le_trans hlen hn2) rm hF hb fun H hO hT hS => ?_
  have toFix : FixL (K w.params) H a (ks.map V.int) := by
    rcases hS with (h | ⟨ob, h⟩) | h
    · exfalso
      rcases hO a _ h with ⟨_, z⟩ | ⟨_, _, _, z⟩ <;> cases z
    · exact .inl ⟨ob, h⟩
    · exact .inr (.inr h)
  have rel : ∀ {ks : List Int}, RelDs (K w.params) H [] (ks.map D.int) (ks.map V.int) := by
    intro ks
    induction ks with
    | nil => rfl
    | cons i ks ih => exact ⟨.int i, ks.map V.int, rfl, rfl, ih⟩
  have tabs : TabsT H := fun p hp => by
    obtain ⟨c, hc, e⟩ := List.mem_map.mp (ta.all p hp)
    exact LamX.TabS.nil (by rw [← e]; exact hT c hc)
  refine ⟨[], [.rl (ks.map D.int)], [], _, ⟨rfl, List.nodup_nil, fun n e h => by simp at h, tabs⟩, ⟨.ref a, [], rfl, ⟨a, ks.map V.int, rfl, toFix, rel⟩, rfl⟩, hsp ks hlen, fun v H' A' d S' e s' r p => ?_⟩
  subst p
  exact r
end DL
/-! ZV: beside the lambdas: tuples of what may raise, calls by keywords of what may raise, a def whose code object is known. -/
namespace DL
open PySem PySem.Spec PyProof.Rows L2
variable [HasT]

def dTupX (t : DAX) : DEX := fun ρ S post ex => t ρ S (fun ds S1 => ds.length ≤ 100000 ∧ post (.tup ds) S1) ex
theorem de_tupX {X : Cx} {W : WX} {es : List Expr} {pos : Pos} {t : DAX} {x1} (h : PA X es (liftAX X.K W t)) : PE X (.Tuple es x1 pos) (liftEX X.K W (dTupX t)) :=
  pe_mono (pe_tupP h) fun σ H Q ⟨A, ρ, S, post, ex, n, s, p, k, kx⟩ => ⟨A, ρ, S, _, ex, n, s, p, fun vs H1 A1 ds S1 e1 s1 r1 ⟨hl, p1⟩ => ⟨by rw [r1.len]; exact le_line hl, fun a o ha ho =>
    let ⟨e2, s2⟩ := relS_tup (o := .frz o (.tup vs)) s1 ha
    k (.ref a) (upd H1 a (.frz o (.tup vs))) A1 (.tup ds) S1 (e1.trans e2) s2 ⟨a, vs, rfl, .inl ⟨o, upd_same, ho⟩, r1.ext e2⟩ p1⟩, kx⟩
/-- a def that may raise, called by keywords alone -/
structure CalKX (P : Program) (w : World) (K : PySem.W.Frag) (mg : Str → Option Value) (base : Heap) (k : Nat) (x : Str) (sp : DSpX) (ks : List Str) (g : {α : Type} → List α → List α) : Prop where
  ex : ∃ (f : Addr) (fd : FuncData) (ps : List Str), FnG P w K mg base (L2.CX P w) k f fd ps (spLX K sp) ∧ mg x = some (.ref f) ∧ PySem.W.keepIn K (.ref f) = true ∧ KwB K fd ps ks g
  sub : ∀ {α : Type} (l : List α) (a : α), a ∈ g l → a ∈ l
def dCallKX (sp : DSpX) (n : Nat) (g : {α : Type} → List α → List α) (t : DA) : DEX := fun ρ S post ex => t ρ S fun ds S1 => ds.length = n ∧ callDX sp (g ds) S1 post fun c w S' => ex c w ρ S'
section
variable {X : Cx} {W : WX} {k j : Nat} {sp : DSpX} {x : Str} {p pos : Pos} {kws : List Keyword} {ks : List Str} {g : {α : Type} → List α → List α} {t : DA}
theorem de_calKX {n : Nat} (C : CalKX X.prog X.w X.K X.mg X.base j x sp ks g) (hgd : X.A.guards = some []) (hr : Room k X.A) (hj : j ≤ k) (hg : Gl X x) (tk : Takes X W) (hkw : PK X kws (liftA X.K t)) (hn : ks.length = n := by rfl) (hdb : (x == ("__debug__" : Str)) = false := by decide)
    (hall : (backToKw pos (keywordEach kws X.env)).all (·.1.isSome) = true := by rfl) (hks : (backToKw pos (keywordEach kws X.env)).filterMap (·.1) = ks := by rfl)
    (hpl : ((backTo pos (starEach [] X.env)).any (·.1) || (backToKw pos (keywordEach kws X.env)).any (·.1.isNone)) = false := by rfl) : PE X (.Call (.Name x p) [] kws pos) (liftEX X.K W (dCallKX sp n (fun l => g l) t)) := by
  subst hn
  obtain ⟨f, fd, ps, F, hm, hk, hb⟩ := C.ex
  have hsub := @C.sub
  refine ⟨fun pins s σ H Q I ⟨A, ρ, S, post, ex, n, sS, h, kk, kx⟩ => ?_⟩
  refine wpAny_Call_Name_kw (ld_glob I hg hm ?_ hdb)
  refine PySem.W.callWith_KW0 (h₀ := X.base) I.ok.mod.kin hk hall (thn (hkw.run pos pins s σ H (fun zs H1 => zs.length = ks.length ∧ spLX X.K sp (g zs) H1 Q (WE W σ)) I ⟨A, ρ, S, _, n, sS, h, fun vs H' A' ds S' e' s' r p1 => ?_⟩) fun ws s2 ⟨zs, H2, I2, rz, l2, q2⟩ => ⟨I2.kIn, ?_⟩) hpl
  · refine ⟨by rw [r.len]; exact p1.1, ?_⟩
    obtain ⟨prs, rfl, rfl, hp⟩ := r.getEl
    have rr : RelDs X.K H' A' (g (prs.map (·.1))) (g (prs.map (·.2))) := by
      rw [hb.mp, hb.mp]
      exact relDs_of fun q hq => hp q (hsub _ _ hq)
    exact lift_callDX s' rr p1.2 (kk.go e') fun c u H2 A2 w S2 e2 s2 r2 p2 d hd => kx c d σ H2 A2 w u ρ S2 (e'.trans e2) ((n.ext e').ext e2) s2 hd r2 p2
  · rw [hks]
    have lw : ws.length = ks.length := rz.length.symm.trans l2
    have rz2 : Vals (g zs) (g ws) := by
      obtain ⟨prs, rfl, rfl, hp⟩ := valsPair rz
      rw [hb.mp, hb.mp]
      exact pairVals fun q hq => hp q (hsub _ _ hq)
    refine wpAny_call (codeAny_mono (F.run X.A X.stack s2 H2 ⟨[], ks.zip ws⟩ (g ws) (g zs) Q (WE W σ) hgd (hr.mono hj) I2.env0 (hb.to s2 ws I2.kIn lw) rz2 q2) fun r s' hq => ?_)
    cases r with
    | error ex => exact passAt tk σ pins H2 s2 ex s' I2 hq
    | ok fl =>
      cases fl with
      | ret u => exact I2.after hq
      | next => exact hq.elim
      | brk => exact hq.elim
      | cont => exact hq.elim
end
/-- as fn_okG, for a def whose code object stands at c: it may make lambdas -/
theorem fn_okGC {P : Program} {w : World} {K : PySem.W.Frag} {mg : Str → Option Value} {base : Heap} {x qual : Str} {st : Stmt} {f c : Addr} {fd : FuncData} {N ps : List Str} {k : Nat} {sp : DSp} {tb : DS} (F : Fun K x qual st f fd) (hc : fd.code = .ref c) (Sc : FnScope N ps (defScope st))
    (hl : ∀ ds S post, sp ds S post → ds.length = ps.length)
    (hb : ∀ (A : Around) (outer : List Env) (s : Shared) (H : Hp) (E : XK), (A.deeper (envOfC qual (defScope st) s.heap.objs.size f (.ref c))).guards = some [] → Room k (A.deeper (envOfC qual (defScope st) s.heap.objs.size f (.ref c))) →
      PSs (cxOf CX0 P w K mg base N qual (defScope st) f (.ref c) A outer s H E).nox (defBody st) (liftS K W0 tb))
    (hd : ∀ ds S post, sp ds S post → tb ⟨fun _ S' => fnEnd S post .non S', fnEnd S post, fun _ _ => False, fun _ _ => False, fun _ _ _ _ => False⟩ (startD N ds) S) : FnG P w K mg base CX0 (k + 1) f fd ps (spL K sp) := by
  refine fnG_ofC F Sc (fun vs H Q E ⟨A, ds, S, post, s, r, h, kk⟩ => by rw [r.len]; exact hl ds S post h) (fun cdv e A0 outer s0 H vs Q E hgd hr ⟨A, ds, S, post, s, r, h, kk⟩ => ?_)
  cases hc.symm.trans e
  exact ⟨_, (hb A0 outer s0 H E hgd hr).nox, fnBody s r (hd ds S post h) kk⟩
/-- a module's number -/
theorem de_gint {X : Cx} {x : Str} {i : Int} {pos : Pos} (hg : Gl X x) (hm : ∃ t, X.mg x = some (.int i t)) (hdb : (x == ("__debug__" : Str)) = false := by decide) : PE X (.Name x pos) (liftE X.K (dC (.int i))) := by
  obtain ⟨t, hm⟩ := hm
  exact de_c (pe_glob (v := .int i) hg hm ⟨t, rfl⟩ hdb) fun _ _ _ => rfl
/-- how a call by place and then by name binds, the names in the parameters' order -/
structure MixB (K : PySem.W.Frag) (fd : FuncData) (ps ks : List Str) (n : Nat) : Prop where
  to : ∀ (s : Shared) (us ws : List Value), K.In s.heap → us.length = n → ws.length = ks.length → BindsTo s fd ⟨us, ks.zip ws⟩ (ps.zip (us ++ ws))
theorem mixB_of {K : PySem.W.Frag} {x qual : Str} {st : Stmt} {f : Addr} {fd : FuncData} {ps ks : List Str} {n : Nat} (F : Fun K x qual st f fd)
    (h : ∀ (kV doc pm : Value) (an : Option Addr) (cdv ct : Value) (us ws : List Value), us.length = n → ws.length = ks.length → bindArgs (PySem.W.fnOf x qual (defArgs st) (defBody st) (defScope st) .none kV doc pm an cdv ct) ⟨us, ks.zip ws⟩ = pure (ps.zip (us ++ ws))) : MixB K fd ps ks n := by
  obtain ⟨oc, od, kV, doc, pm, an, cdv, ct, osl, rfl, lk, hcd⟩ := F.ex
  exact ⟨fun s us ws _ h1 h2 => .of_eq (h kV doc pm an cdv ct us ws h1 h2)⟩
theorem vals_app : ∀ {vs : List V} {us : List Value} {zs : List V} {ws : List Value}, Vals vs us → Vals zs ws → Vals (vs ++ zs) (us ++ ws)
  | _, _, _, _, .nil, r => r
  | _, _, _, _, .cons a b, r => .cons a (vals_app b r)
structure CalM (P : Program) (w : World) (K : PySem.W.Frag) (mg : Str → Option Value) (base : Heap) (k : Nat) (x : Str) (sp : DSp) (ks : List Str) (n : Nat) : Prop where
  ex : ∃ (f : Addr) (fd : FuncData) (ps : List Str), FnG P w K mg base CX0 k f fd ps (spL K sp) ∧ mg x = some (.ref f) ∧ PySem.W.keepIn K (.ref f) = true ∧ MixB K fd ps ks n
def dCallM (sp : DSp) (n m : Nat) (t u : DA) : DE := fun ρ S post => t ρ S fun ds S1 => ds.length = n ∧ u ρ S1 fun es S2 => es.length = m ∧ callD sp (ds ++ es) S2 post
section
variable {X : Cx} {k j : Nat} {sp : DSp} {x : Str} {p pos : Pos} {e : Expr} {es : List Expr} {kws : List Keyword} {ks : List Str} {t u : DA}
theorem de_calM {n m : Nat} (C : CalM X.prog X.w X.K X.mg X.base j x sp ks n) (hgd : X.A.guards = some []) (hr : Room k X.A) (hj : j ≤ k) (hg : Gl X x) (ha : PA X (e :: es) (liftA X.K t)) (hkw : PK X kws (liftA X.K u)) (hm : ks.length = m := by rfl) (hdb : (x == ("__debug__" : Str)) = false := by decide)
    (hall : (backToKw pos (keywordEach kws X.env)).all (·.1.isSome) = true := by rfl) (hks : (backToKw pos (keywordEach kws X.env)).filterMap (·.1) = ks := by rfl) (he : starEach (e :: es) X.env = (false, eval e X.env) :: starEach es X.env := by rfl)
    (hpl : ((backTo pos (starEach (e :: es) X.env)).any (·.1) || (backToKw pos (keywordEach kws X.env)).any (·.1.isNone)) = false := by rfl) : PE X (.Call (.Name x p) (e :: es) kws pos) (liftE X.K (dCallM sp n m t u)) := by
  subst hm
  obtain ⟨f, fd, ps, F, hmg, hk, hb⟩ := C.ex
  refine ⟨fun pins s σ H Q I ⟨A, ρ, S, post, nN, sS, h, kk⟩ => wpAny_Call_Name_kw (ld_glob I hg hmg ?_ hdb)⟩
  refine PySem.W.callWith_KW (h₀ := X.base) I.ok.mod.kin hk hall (thn (ha.run pos pins s σ H (fun vs H1 => vs.length = n ∧ liftA X.K u σ H1 fun zs H2 => zs.length = ks.length ∧ spL X.K sp (vs ++ zs) H2 Q E0) I ⟨A, ρ, S, _, nN, sS, h, fun vs H1 A1 ds S1 e1 s1 r1 ⟨l1, p1⟩ => ⟨by rw [r1.len, l1], A1, ρ, S1, _, nN.ext e1, s1, p1, fun zs H2 A2 es S2 e2 s2 r2 ⟨l2, p2⟩ => ⟨by rw [r2.len, l2], ?_⟩⟩⟩) fun us s1 ⟨vs, H1, I1, r, l1, q⟩ => ?_) hpl he
  · exact lift_callD s2 ((RelDs.ext e2 r1).append r2) p2 ((kk.go e1).go e2)
  refine thn (hkw.run pos pins s1 σ H1 _ I1 q) fun ws s2 ⟨zs, H2, I2, rz, l2, q2⟩ => ⟨I2.kIn, ?_⟩
  rw [hks]
  have r2 := vals_app r rz
  refine wpAny_call (codeAny_mono (F.run X.A X.stack s2 H2 ⟨us, ks.zip ws⟩ (us ++ ws) (vs ++ zs) Q E0 hgd (hr.mono hj) I2.env0 (hb.to s2 us ws I2.kIn (r.length.symm.trans l1) (rz.length.symm.trans l2)) r2 q2) fun r s' hq => ?_)
  cases r with
  | error ex => exact hq.elim
  | ok fl =>
    cases fl with
    | ret u => exact I2.after hq
    | next => exact hq.elim
    | brk => exact hq.elim
    | cont => exact hq.elim
end
end DL
/-! ZW: x[::-1] of a tuple or a list. -/
namespace DL
open PySem PySem.Spec PyProof.Rows L2

section
variable {prog : Program} {w : World} {A : Around} {E : Value → Shared → Prop} {s : Shared}
theorem rev_applied {sl : Addr} {vl vu vs : Value} {n : Nat} {Q : Int × Int × Nat → Shared → Prop} (hs : s.heap.IsSliceOf sl vl vu vs) (pl : IsPart vl none) (pu : IsPart vu none) (ps : IsPart vs (some (-1)))
    (h : Q ((n : Int) - 1, -1, n) s) : wpAny (model prog w) A (Builtin.Slice.sliceApplied (.ref sl) (pure (n : Int))) Q E s := by
  obtain ⟨os, hos, hcs, hds⟩ := id hs
  unfold Builtin.Slice.sliceApplied Builtin.Slice.sliceFields
  refine wpAny_bind (wpAny_bind (wpAny_field hos hds (x := vl) rfl (wpAny_bind (wpAny_field hos hds (x := vu) rfl (wpAny_bind (wpAny_field hos hds (x := vs) rfl (wpAny_pure ?_)))))))
  refine wpAny_bind (HT.slicePart_ ps ?_)
  show wpAny _ _ (if ((-1 : Int) == 0) = true then _ else _) _ _ s
  rw [if_neg (by decide)]
  refine wpAny_bind (HT.slicePart_ pl (wpAny_bind (HT.slicePart_ pu (wpAny_bind (wpAny_pure ?_)))))
  have e1 : Builtin.Slice.sliceAdjust none none (-1) (n : Int) = ((n : Int) - 1, -1) := rfl
  show wpAny _ _ (match Builtin.Slice.sliceAdjust none none (-1) (n : Int) with | (lo, hi) => pure (lo, (-1 : Int), Builtin.Slice.slicePlaces lo hi (-1))) _ _ s
  rw [e1]
  have e2 : Builtin.Slice.slicePlaces ((n : Int) - 1) (-1) (-1) = n := by
    unfold Builtin.Slice.slicePlaces
    have h1 : ¬ ((-1 : Int) > 0) := by decide
    simp only [h1, if_false]
    split
    · rw [show (- -1 : Int) = 1 by decide, Int.ediv_one]
      omega
    · omega
  show wpAny _ _ (pure ((n : Int) - 1, (-1 : Int), Builtin.Slice.slicePlaces ((n : Int) - 1) (-1) (-1))) _ _ s
  rw [e2]
  exact wpAny_pure h
theorem fm_congr {α β : Type} {f g : α → Option β} : ∀ {l : List α}, (∀ a ∈ l, f a = g a) → l.filterMap f = l.filterMap g
  | [], _ => rfl
  | a :: l, h => by
    rw [List.filterMap_cons, List.filterMap_cons, h a List.mem_cons_self, fm_congr fun b hb => h b (List.mem_cons_of_mem _ hb)]
theorem rev_pick (xs : Array Value) : ((List.range xs.size).filterMap fun (m : Nat) => xs[((xs.size : Int) - 1 + (m : Int) * (-1)).toNat]?).toArray = xs.toList.reverse.toArray := by
  have e : ∀ m ∈ List.range xs.size, xs[((xs.size : Int) - 1 + (m : Int) * (-1)).toNat]? = xs[xs.size - 1 - m]? := fun m hm => by
    rw [List.mem_range] at hm
    congr 1
    omega
  rw [fm_congr e]
  have e3 : (List.range xs.size).filterMap (fun m => xs[xs.size - 1 - m]?) = ((List.range xs.size).map fun k => xs.size - 1 - k).filterMap (xs[·]?) := by
    rw [List.filterMap_map]
    rfl
  rw [e3, PySem.W.krv_range, List.filterMap_reverse, PySem.W.krv_all]
theorem getItem_tuple_rev {t sl : Addr} {items : Array Value} {vl vu vs : Value} {Q : Value → Shared → Prop} (ht : IsTup s.heap t items) (hs : s.heap.IsSliceOf sl vl vu vs) (pl : IsPart vl none) (pu : IsPart vu none) (ps : IsPart vs (some (-1)))
    (h : Q (.ref s.heap.objs.size) { s with heap := s.heap.push { cls := .type "tuple", data := .seq items.toList.reverse.toArray } }) (hsz : items.size ≤ sizeLine) : wpAny (model prog w) A (getItem (.ref t) (.ref sl)) Q E s := by
  have htake : sizeOk (.seq items.toList.reverse.toArray) := by
    show items.toList.reverse.toArray.size ≤ sizeLine
    rw [List.size_toArray, List.length_reverse, Array.length_toList]
    exact hsz
  obtain ⟨os, hos, hcs, hds⟩ := id hs
  have hTs : s.TypeIs (.ref sl) "slice" := ⟨os, hos, hcs⟩
  unfold getItem
  try with_reducible refine wpAny_holding ?_
  first | refine wpAny_bind (wpAny_pure ?_) | skip
  refine wpAny_bind (wpAny_sequenceKey ht.typeIs (by decide) ?_)
  refine wpAny_bind (wpAny_callSpecial?_slot (name := Str.ofString "__getitem__") ht.typeIs PyProof.Rows.slot_tuple_getitem
    (wpAny_call_entry PyProof.Rows.slot_tuple_getitem ht.typeIs entry_tuple_getitem ?_ (args_tuple_getitem _ _)))
  show wpAny _ _ (Builtin.Tuple.tupleItemsOf (.ref t) >>= _) _ _ s
  refine wpAny_bind (tupleItemsOf_ ht ?_)
  refine wpAny_bind (wpAny_typeOf hTs ?_)
  rw [if_pos (by decide)]
  refine wpAny_bind (rev_applied hs pl pu ps ?_)
  have hno : ¬ ((((items.size : Int) - 1) == 0 && (-1 : Int) == 1 && items.size == items.size) = true) := by
    intro q
    rw [Bool.and_eq_true, Bool.and_eq_true] at q
    exact absurd q.1.2 (by decide)
  show wpAny _ _ (if (((items.size : Int) - 1) == 0 && (-1 : Int) == 1 && items.size == items.size) = true then _ else _) _ _ s
  rw [if_neg hno, rev_pick]
  first
    | exact wpAny_bind (m := Builtin.Tuple.tupleExact _) (wpAny_newObj_type (wpAny_pure ⟨_, rfl, wpAny_pure h⟩) htake)
    | exact wpAny_bind (m := Builtin.Tuple.tupleExact _) (wpAny_newObj_type (wpAny_bind (wpAny_pure (wpAny_pure ⟨_, rfl, wpAny_pure h⟩))) htake)
    | exact wpAny_bind (wpAny_bind (m := Builtin.Tuple.tupleExact _) (wpAny_newObj_type (wpAny_pure (wpAny_pure ⟨_, rfl, wpAny_pure h⟩)) htake))
    | exact wpAny_bind (wpAny_bind (m := Builtin.Tuple.tupleExact _) (wpAny_newObj_type (wpAny_pure ⟨_, rfl, wpAny_pure h⟩) htake))
end
variable [HasT]
def tRevT (K : PySem.W.Frag) (te : TE) : TE := fun σ H Q => te σ H fun x H1 => ∃ a xs, x = .ref a ∧ SqT K H1 a xs ∧ ∀ (p : Addr) (o : Obj), H1 p = none → o.dict = none → Q (.ref p) (upd H1 p (.frz o (.tup xs.reverse)))
theorem pe_revT {X : Cx} {e : Expr} {te : TE} {k : Nat} {p1 p2 p3 pos : Pos} (he : PE X e te) : PE X (.Subscript e (.Slice none none (some (.UnaryOp .USub (.Constant (.int 1) k p1) p2)) p3) pos) (tRevT X.K te) := by
  refine ⟨fun pins s σ H Q I h => ?_⟩
  refine Subscript_ (thn (he.run pins s σ H _ I h) fun v s1 ⟨x, H1, I1, r1, q1⟩ => ?_)
  obtain ⟨a, xs, ex, hx, q⟩ := q1
  subst ex
  cases r1
  have hst : PO X (some (.UnaryOp .USub (.Constant (.int 1) k p1) p2)) (tPart (tUn (rU fun i => .int (-i)) (tC (.int 1)))) := po_some (pe_un un_neg pe_int)
  refine wpAny_Slice (thn (po_none.run pins s1 σ H1 (fun o H2 => o = none ∧ H2 = H1) I1 ⟨rfl, rfl⟩) fun vl s2 ⟨l, H2, I2, pl, el, e2⟩ => ?_)
  subst el e2
  refine thn (po_none.run pins s2 σ H2 (fun o H3 => o = none ∧ H3 = H2) I2 ⟨rfl, rfl⟩) fun vu s3 ⟨u, H3, I3, pu, eu, e3⟩ => ?_
  subst eu e3
  refine thn (hst.run pins s3 σ H3 (fun o H4 => o = some (-1) ∧ H4 = H3) I3 ⟨1, rfl, -1, rfl, rfl, rfl⟩) fun vs s4 ⟨o, H4, I4, ps, eo, e4⟩ => ?_
  subst eo e4
  have I5 : Inv X pins σ H4 { s4 with heap := s4.heap.push { cls := .type "slice", data := .fields #[vl, vu, vs] } } := I4.kept (t' := s4.toks) fun b ob q => Heap.get?_push_of_some _ q
  obtain ⟨its, r, ht, hz⟩ := I5.tuple hx
  have hlen := r.length
  show wpAny (model X.prog X.w) X.A (subscriptTail e (.Slice none none (some (.UnaryOp .USub (.Constant (.int 1) k p1) p2)) p3) (.ref a) (.ref s4.heap.objs.size)) (EP X pins σ Q) X.xe { s4 with heap := s4.heap.push { cls := .type "slice", data := .fields #[vl, vu, vs] } }
  refine tail_any (ops := [.ref a, .ref s4.heap.objs.size]) ht.typeIs (PyProof.Rows.slot_tuple_getitem.lookup) ?_ (by with_unfolding_all rfl)
  refine getItem_tuple_rev ht (Heap.IsSliceOf.new _ vl vu vs) pl pu ps ?_ (by rw [List.size_toArray]; omega)
  refine ⟨.ref _, _, laidP (tk := s4.toks) I5 (fun b ob q => Heap.get?_push_of_some _ q) (Nat.le_refl _) (Heap.get?_push_size _ rfl) r.reverse (by rw [List.length_reverse]; exact hz), rfl, q _ _ (I5.hok.fresh (Nat.le_refl _)) rfl⟩
def dRevT (te : DE) : DE := fun ρ S post => te ρ S fun x S1 => ∃ xs, x = .tup xs ∧ post (.tup xs.reverse) S1
theorem RelDs.rev {K : PySem.W.Frag} {H : Hp} {A : List Addr} : ∀ {ds : List D} {vs : List V}, RelDs K H A ds vs → RelDs K H A ds.reverse vs.reverse
  | [], _, h => by
    rw [show _ = [] from h]
    exact rfl
  | d :: ds, _, ⟨v, r, h1, h2, h3⟩ => by
    rw [h1, List.reverse_cons, List.reverse_cons]
    exact (RelDs.rev h3).append (RelDs.one h2)
theorem de_revT {X : Cx} {e : Expr} {te : DE} {k : Nat} {p1 p2 p3 pos : Pos} (he : PE X e (liftE X.K te)) : PE X (.Subscript e (.Slice none none (some (.UnaryOp .USub (.Constant (.int 1) k p1) p2)) p3) pos) (liftE X.K (dRevT te)) :=
  pe_mono (pe_revT he) fun σ H Q ⟨A, ρ, S, post, n, s, p, kk⟩ => ⟨A, ρ, S, _, n, s, p, fun v H1 A1 d S1 e1 s1 r1 ⟨xs, hd, p1⟩ => by
    subst hd
    obtain ⟨a, vs, rfl, ht, hv⟩ := r1
    exact ⟨a, vs, rfl, ht.sq, fun q o hq ho => fin_tup s1 (kk.go e1) hq ho hv.rev p1⟩⟩
end DL
/-! ZX: a tuple times a number; rises of ints. -/
namespace DL
open PySem PySem.Spec PyProof.Rows L2
variable [HasT]
/-- a tuple times an int from 2 to 1000, the new tuple known to have no dict -/
def rMulP (K : PySem.W.Frag) : R2 := fun x y H Q => ∃ (a : Addr) (j : Int) (zs : List V), x = .ref a ∧ y = .int j ∧ SqT K H a zs ∧ zs ≠ [] ∧ 2 ≤ j ∧ j ≤ 1000 ∧ zs.length ≤ 1000 ∧ ∀ (p : Addr) (o : Obj), H p = none → o.dict = none → Q (.ref p) (upd H p (.frz o (.tup (List.replicate j.toNat zs).flatten)))
theorem op_mulP {X : Cx} : OpR X (binaryOp .Mult) (rMulP X.K) := by
  intro pz sh τ HH x y vx ux QQ iz r1 r2 hh
  obtain ⟨a, j, zs, rfl, rfl, hT, h0, j1, j2, jz, qq⟩ := hh
  cases r1
  obtain ⟨tk, rfl⟩ := r2
  obtain ⟨vz, rv, ⟨⟨cz, dz, dat, sz⟩, at_, c1, n, d1⟩, big⟩ := iz.tuple hT
  simp only at c1 d1
  subst c1 d1
  have lz : vz.length = zs.length := rv.length.symm
  have some_ : vz.toArray.isEmpty = false := by
    cases vz with
    | nil => exact absurd (List.eq_nil_of_length_eq_zero lz.symm) h0
    | cons _ _ => rfl
  have sz0 : vz.toArray.size = zs.length := by
    rw [List.size_toArray]
    exact lz
  have prod : ((vz.toArray.size : Nat) : Int) * j ≤ 1000000 := by
    rw [sz0]
    have b1 : ((zs.length : Nat) : Int) * j ≤ 1000 * j := Int.mul_le_mul_of_nonneg_right (by omega) (by omega)
    omega
  have le2 : j.toNat * zs.length ≤ 1000 * 1000 := Nat.mul_le_mul (by omega) jz
  have fl : (List.replicate j.toNat vz).flatten.length ≤ sizeLine := by
    rw [PyProof.Rows.lm_len_rep_flat, lz, sizeLine_eq]
    omega
  have d0 : (decide (j < -(2 ^ 63)) || decide (j ≥ 2 ^ 63)) = false := by
    rw [Bool.or_eq_false_iff]
    exact ⟨decide_eq_false (by omega), decide_eq_false (by omega)⟩
  have d1' : (vz.toArray.isEmpty || j == 1) = false := by
    rw [Bool.or_eq_false_iff]
    exact ⟨some_, beq_eq_false_iff_ne.mpr (by omega)⟩
  have d2 : (decide (j ≤ 0) || vz.toArray.isEmpty) = false := by
    rw [Bool.or_eq_false_iff]
    exact ⟨decide_eq_false (by omega), some_⟩
  have d4 : Builtin.Tuple.tupleTooMany (((vz.toArray.size : Nat) : Int) * j) = false := by
    unfold Builtin.Tuple.tupleTooMany
    exact decide_eq_false (by rw [sizeLine_eq]; omega)
  have mul := tuple_mulW a vz.toArray n dz sz j tk d0 d1' d2 (by omega) d4 (by rw [size_rep, List.size_toArray]; exact fl)
  have call1 := int_rmul_tuple j tk a vz.toArray n dz sz
  refine wpAny_binaryOp_repeat_ref (T := "tuple") (U := "int")
    (by decide) ⟨_, at_, rfl⟩
    (fun s' => typeIs_int s' j tk) noFill_tuple_mul
    F.fills_int_mul F.slot_int_rmul
    repeat_tuple F.slot_int_index.lookup ?_
  refine call_meets F.slot_int_rmul (typeIs_int sh j tk)
    F.entry_int_rmul (F.args_int_rmul_2 _ _) call1 ⟨at_, rfl, ⟨_, at_, rfl⟩, ?_⟩
  refine call_meets F.slot_tuple_mul ⟨_, at_, rfl⟩
    F.entry_tuple_mul (F.args_tuple_mul_2 _ _) mul ⟨at_, ?_⟩
  rw [size_rep]
  exact ⟨.ref sh.heap.objs.size, _, laidP (tk := sh.toks) iz (fun _ _ q => Heap.get?_push_of_some _ q) (Nat.le_refl _) (Heap.get?_push_size _ rfl) (rv.rep j.toNat) (by rw [PyProof.Rows.lm_len_rep_flat, sizeLine_eq]; omega), rfl, qq _ _ (iz.hok.fresh (Nat.le_refl _)) rfl⟩
def oMul2 : D2 := fun x y S post => match x, y with
  | .tup xs, .int j => xs ≠ [] ∧ 2 ≤ j ∧ j ≤ 1000 ∧ xs.length ≤ 1000 ∧ post (.tup (List.replicate j.toNat xs).flatten) S
  | x, y => oMul x y S post
theorem op_mul2 {X : Cx} : OpR X (binaryOp .Mult) (fun x y H Q => rI CMul (fun i j => .int (i * j)) x y H Q ∨ rMulP X.K x y H Q) := OpR.or op_mul op_mulP
theorem RelDs.rep {K : PySem.W.Frag} {H : Hp} {A : List Addr} {ds : List D} {vs : List V} (r : RelDs K H A ds vs) : ∀ n : Nat, RelDs K H A (List.replicate n ds).flatten (List.replicate n vs).flatten
  | 0 => rfl
  | n + 1 => by
    rw [List.replicate_succ, List.replicate_succ, List.flatten_cons, List.flatten_cons]
    exact r.append (RelDs.rep r n)
theorem rul_mul2 {K : PySem.W.Frag} : Rul2 K oMul2 (fun x y H Q => rI CMul (fun i j => .int (i * j)) x y H Q ∨ rMulP K x y H Q) := by
  intro H A S d1 d2 v1 v2 post Q s r1 r2 h k
  by_cases c : ∃ xs j, d1 = .tup xs ∧ d2 = .int j
  · obtain ⟨xs, j, rfl, rfl⟩ := c
    obtain ⟨h0, h1, h2, h3, h4⟩ := h
    obtain ⟨a, vs, rfl, ht, hv⟩ := r1
    cases (show v2 = .int j from r2)
    refine .inr ⟨a, j, vs, rfl, rfl, ht.sq, fun e => h0 ?_, h1, h2, by rw [hv.len]; exact h3, fun p o hp ho => fin_tup s k hp ho (hv.rep _) h4⟩
    have := hv.len
    rw [e] at this
    exact List.eq_nil_of_length_eq_zero this.symm
  · have h' : oMul d1 d2 S post := by
      unfold oMul2 at h
      split at h
      · exact absurd ⟨_, _, rfl, rfl⟩ c
      · exact h
    exact .inl (rul_mul H A S d1 d2 v1 v2 post Q s r1 r2 h' k)
theorem go_mul2_int {i j : Int} {S : Store} {post : DK} : oMul2 (.int i) (.int j) S post ↔ CMul i j ∧ post (.int (i * j)) S := Iff.rfl
theorem go_mul2_tup {xs : List D} {j : Int} {S : Store} {post : DK} : oMul2 (.tup xs) (.int j) S post ↔ xs ≠ [] ∧ 2 ≤ j ∧ j ≤ 1000 ∧ xs.length ≤ 1000 ∧ post (.tup (List.replicate j.toNat xs).flatten) S := Iff.rfl
end DL
/-! ZY: {elt for target in iter if ..} of ints; how many such a set has. -/
namespace DL
open PySem PySem.Spec PyProof.Rows L2
variable [HasT]
/-- a finished set of n members, whatever they are -/
def NumO (a : Addr) (n : Nat) : HO := .ext fun h => ∃ o es ep t, h.get? a = some o ∧ o.ExactSet ∧ o.data = .set es ep t ∧ t.fits es.size = true ∧ es.size = n ∧ n < scanBound
theorem nmut_num {a : Addr} {n : Nat} : ¬ MutO (NumO a n) := by
  unfold NumO
  rintro ((⟨_, h⟩ | ⟨_, h⟩ | ⟨_, _, h⟩) | ⟨_, h⟩) <;> cases h
def numSet (n : Nat) : PySem.W.Frag → Hp → Addr → Prop := fun _ H a => H a = some (NumO a n)
theorem numSet_stab (n : Nat) (K : PySem.W.Frag) : StabP (numSet n K) := fun _ _ _ k h => k _ _ h nmut_num
/-- a set that grows: what it has is asked of S, how many of n -/
def tScI (wi : TI) (g : TG) (tt : TT) (te : TE) (vs : List Nat) : TE := fun σ H Q => wi σ H fun J H1 => ∀ D, H1 D = none → ∃ W : Nat → Nat → Hp → Prop, (∃ m, W 0 m (upd H1 D (.set (fun _ => false) 0))) ∧ ∀ i m H, W i m H →
  (J.stop i H ∧ ∃ S n, H D = some (.set S n) ∧ n < scanBound ∧ Q (.ref D) (upd H D (NumO D n))) ∨ (J.go i H ∧ ∃ Nx : Hp → Prop, (∀ H', Nx H' → ∃ m', m' < m ∧ W (i + 1) m' H') ∧ ∀ x H', J.yld i H x H' → g x (L2.wipe σ vs) H' fun σ2 H2 => L2.wipe σ2 vs = L2.wipe σ vs ∧ tt σ2 H2 fun b H3 =>
    if b = true then te σ2 H3 fun y H4 => ∃ (k : Int) (S : Int → Bool) (n : Nat), y = .int k ∧ H4 D = some (.set S n) ∧ n + 1 < scanBound ∧ Nx (upd H4 D (.set (fun j => S j || decide (j = k)) (if S k = true then n else n + 1))) else Nx H3)
section
variable {X : Cx}
theorem putI {pins : List (Addr × Obj)} {σ : L2.St} {H : Hp} {s : Shared} {E : Value → Shared → Prop} {D : Addr} {S : Int → Bool} {n : Nat} {k : Int} {y : Value} {Q : Value → Shared → Prop} (I : Inv X pins σ H s) (hD : H D = some (.set S n)) (room : n + 1 < scanBound) (ry : RelV (.int k) y)
    (h : ∀ s', Inv X pins σ (upd H D (.set (fun j => S j || decide (j = k)) (if S k = true then n else n + 1))) s' → Q .none s') : wpAny (model X.prog X.w) X.A (call (.builtin "set.add") [.ref D, y]) Q E s := by
  obtain ⟨tk, rfl⟩ := ry
  have R : s.heap.SetOf (intKind X.prog X.w) D S n := I.hok D _ hD
  refine call_set_add (intKind_is X.prog X.w k tk) rfl R room fun h' sb new => ?_
  have there : ∃ u, h'.get? D = some u := by
    have ⟨o, _, _, _, ho, _⟩ := new
    exact ⟨o, ho⟩
  exact h _ (I.write (e := D) (t' := s.toks + 1) (by rw [hD]; trivial) (.inl rfl) (fun b u hb hu => (sb.2 b hb).trans hu) there new)
theorem shutI {pins : List (Addr × Obj)} {σ : L2.St} {H : Hp} {s : Shared} {D : Addr} {S : Int → Bool} {n : Nat} (I : Inv X pins σ H s) (hD : H D = some (.set S n)) (hn : n < scanBound) : Inv X pins σ (upd H D (NumO D n)) s := by
  obtain ⟨o, es, ep, t, ho, hx, hd, _, _, _, hf, hs⟩ := (show s.heap.SetOf (intKind X.prog X.w) D S n from I.hok D _ hD)
  exact I.write (e := D) (h' := s.heap) (t' := s.toks) (by rw [hD]; trivial) (.inl rfl) (fun b u hb hu => hu) ⟨o, ho⟩ (show ObjOk X.prog X.w _ _ _ (.ext _) from ⟨⟨o, es, ep, t, ho, hx, hd, hf, hs, hn⟩, ⟨o, ho⟩, fun h1 h2 p q => let ⟨o, es, ep, t, g, r⟩ := p; ⟨o, es, ep, t, q o g, r⟩⟩)

/-- the comprehension, walked by what a turn is to reach -/
theorem pe_scI {elt tg iter : Expr} {ifs : List Expr} {scope : Scope} {own : List (Str × Nat)} {pos : Pos} {wi : TI} {g : TG} {tt : TT} {te : TE} (calm : X.calm = true) (uniq : X.N.Nodup) (walks : PI X tg iter wi) (blk : BlkOk X.N X.env.scope scope own)
    (goal : ∀ (s : Shared) (H : Hp) (C : Addr) (cl : List (Str × Addr)) (fp : List Addr), PG (X.blk s H scope (compEnvC scope cl C X.env) fp) tg g) (tests : ∀ (s : Shared) (H : Hp) (C : Addr) (cl : List (Str × Addr)) (fp : List Addr), PTs (X.blk s H scope (compEnvC scope cl C X.env) fp) ifs tt)
    (item : ∀ (s : Shared) (H : Hp) (C : Addr) (cl : List (Str × Addr)) (fp : List Addr), PE (X.blk s H scope (compEnvC scope cl C X.env) fp) elt te) (folds : ∀ x, foldedSetIterable iter X.env x = pure x := by intro _; rfl) :
    PE X (.SetComp elt [⟨tg, iter, ifs, 0⟩] scope pos) (tScI wi g tt te (own.map (·.2))) := by
  refine ⟨fun pins s σ H Q I h => ?_⟩
  rw [PpSet.eval_SetComp]
  have cells : ∀ y ∈ scope.names, y.2 = .free → ∃ c, X.env.cells.lookup y.1 = some c := fun y hy e => (blk.free y hy e).elim (fun k => I.ok.has _ (.inl k)) fun k => I.ok.has _ (.inr k)
  refine wpAny_comprehension_free (use := none) rfl folds (closure_ok cells) blk.kind (fun y hy e => by rw [blk.uniq y hy, e]) (thn (walks.run pins s σ H _ I h) fun _ s1 hx => thn hx fun _ s2 h2 => ?_)
  obtain ⟨it, fp, tn, J, H2, rfl, I2, T, st2, f2, q⟩ := h2
  refine PpSet.newSet_ok (newEnv_comp ?_)
  -- the new set at D, the block's names at C
  obtain ⟨D, hD⟩ : ∃ D, D = s2.heap.objs.size := ⟨_, rfl⟩
  obtain ⟨Z, hZ⟩ : ∃ Z : Shared, Z = { s2 with heap := s2.heap.push { cls := .type "set", dict := none, data := .set #[] 0 (.fresh 0 0 (!X.w.params.followText "set-order")) } } := ⟨_, rfl⟩
  obtain ⟨HD, hHD⟩ : ∃ HD, HD = upd H2 D (.set (fun _ => false) 0) := ⟨_, rfl⟩
  rw [← hD, ← hZ]
  have noD : H2 D = none := I2.hok.fresh (Nat.le_of_eq hD.symm)
  obtain ⟨W, ⟨m0, w0⟩, turn⟩ := q D noD
  rw [← hHD] at w0
  have zh : Z.heap = s2.heap.push { cls := .type "set", dict := none, data := .set #[] 0 (.fresh 0 0 (!X.w.params.followText "set-order")) } := by rw [hZ]
  have new : Z.heap.SetOf (intKind X.prog X.w) D (fun _ => false) 0 := by
    rw [zh, hD]
    exact (setR_fresh X.w).setOf
  have IZ : Inv X pins σ HD Z := by
    rw [hHD]
    have z := I2.laid (t' := s2.toks) (a := D) (o := .set (fun _ => false) 0) (h' := Z.heap) (fun b o e => by rw [zh]; exact Heap.get?_push_of_some _ e) (Nat.le_of_eq hD.symm) new
    have ez : ({ s2 with heap := Z.heap, toks := s2.toks } : Shared) = Z := by rw [hZ]
    rw [ez] at z
    exact z
  have under : ∀ b ∈ fp, b < s2.heap.objs.size := fun b hb => let ⟨_, e, _⟩ := T.obj _ _ st2 b hb; Heap.lt_size e
  have fZ : ∀ b ∈ fp, FpOk X pins HD b ∧ b < Z.heap.objs.size := fun b hb => ⟨⟨by rw [hHD, upd_ne (by rw [hD]; exact Nat.ne_of_lt (under b hb))]; exact (f2 b hb).1, (f2 b hb).2⟩, by rw [zh, Heap.size_push]; exact Nat.lt_succ_of_lt (under b hb)⟩
  have stZ : tn 0 Z.heap := T.keep _ _ _ st2 fun b _ o e => by rw [zh]; exact Heap.get?_push_of_some _ e
  have IB := block_start IZ blk uniq fZ
  have free0 : ∀ b ∈ fp, HD b = none := fun b hb => (fZ b hb).1.1
  obtain ⟨C, hC⟩ : ∃ C, C = Z.heap.objs.size := ⟨_, rfl⟩
  obtain ⟨ce, hce⟩ : ∃ ce, ce = compEnvC scope (cellsFrom (Z.heap.objs.size + 1) scope.names (cloFrom X.env.cells scope.names [])) Z.heap.objs.size X.env := ⟨_, rfl⟩
  have pg := goal Z HD Z.heap.objs.size (cellsFrom (Z.heap.objs.size + 1) scope.names (cloFrom X.env.cells scope.names [])) fp
  have pt := tests Z HD Z.heap.objs.size (cellsFrom (Z.heap.objs.size + 1) scope.names (cloFrom X.env.cells scope.names [])) fp
  have pe := item Z HD Z.heap.objs.size (cellsFrom (Z.heap.objs.size + 1) scope.names (cloFrom X.env.cells scope.names [])) fp
  rw [← hce] at pg pt pe IB
  obtain ⟨B, hB⟩ : ∃ B : Shared, B = { Z with heap := pushCells (Z.heap.push { cls := .type "dict", data := .dict #[] }) scope.names } := ⟨_, rfl⟩
  show codeAny _ _ (.compStart (.SetComp elt [⟨tg, iter, ifs, 0⟩] scope pos) 0 (.ref it) (.ref D) (compEnvC scope (cellsFrom (Z.heap.objs.size + 1) scope.names (cloFrom X.env.cells scope.names [])) Z.heap.objs.size X.env)) (compPost (model X.prog X.w) X.A X.xe none (EP X pins σ Q) (.ref D) Z.heap.objs.size) { Z with heap := pushCells (Z.heap.push { cls := .type "dict", data := .dict #[] }) scope.names }
  rw [← hce, ← hB]
  rw [← hB] at IB
  have at_ : ce.locals = Z.heap.objs.size := by subst hce; rfl
  have stB : tn 0 B.heap := T.keep _ _ _ stZ fun b _ o e => by rw [hB]; exact pushCells_keeps _ _ _ _ (Heap.get?_push_of_some _ e)
  have still : ∀ {σ' : L2.St} {H' : Hp} {s' : Shared}, Inv (X.blk Z HD scope ce fp) [] σ' H' s' → (∀ b ∈ fp, H' b = none) → ∀ b ∈ fp, FpOk (X.blk Z HD scope ce fp) [] H' b := fun {_ _ _} I' hn b hb =>
    ⟨hn b hb, (I'.ok.exf b hb).1, I'.ok.exfs b hb, .inl hb, fun x c e => (I'.ok.exf b hb).2 x c e, fun p hp => absurd (show p ∈ ([] : List (Addr × Obj)) ++ [] from hp) (by simp)⟩
  have loop : codeAny (model X.prog X.w) X.A (.compLoop (.SetComp elt [⟨tg, iter, ifs, 0⟩] scope pos) 0 (.ref it) (.ref D) ce) (compPost (model X.prog X.w) X.A X.xe none (EP X pins σ Q) (.ref D) Z.heap.objs.size) B := by
    refine PpSet.compLoopS_any (fun m s' => ∃ i H', Inv (X.blk Z HD scope ce fp) [] (L2.wipe σ (own.map (·.2))) H' s' ∧ tn i s'.heap ∧ (∀ b ∈ fp, H' b = none) ∧ W i m H') ?_ m0 ⟨0, HD, IB, stB, free0, w0⟩
    rintro m s5 ⟨i, H5, I5, st5, n5, w5⟩
    rcases turn i m H5 w5 with ⟨stop, S, n, hS, hn, qq⟩ | ⟨go, Nx, hNx, step⟩
    · refine thnF (T.done (X.blk Z HD scope ce fp) rfl rfl rfl calm i [] s5 _ H5 (fun _ _ => False) I5 (still I5 n5) st5 stop) fun r s6 ⟨hr, I6⟩ => ?_
      subst hr
      have out : Inv X pins σ H5 s6 := IZ.call' (ch := fp) I6.os I6.base I6.hok I6.bare fun b hb => ⟨(fZ b hb).1.2.2.2.1, (fZ b hb).1.2.1, (fZ b hb).1.2.2.2.2.1, (fZ b hb).1.2.2.2.2.2⟩
      have shut := shutI out hS hn
      have noC : upd H5 D (NumO D n) Z.heap.objs.size = none := by
        have ne : Z.heap.objs.size ≠ D := by rw [zh, Heap.size_push, hD]; exact Nat.succ_ne_self _
        rw [upd_ne ne]
        have z : H5 ce.locals = none := I6.free
        rw [at_] at z
        exact z
      obtain ⟨k, hk, _⟩ := I6.loc
      have hk : s6.heap.Ns ce.locals k := hk
      rw [at_] at hk
      obtain ⟨f0, f1, f2, f3, f4, f5⟩ := IZ.fpOk (Nat.le_refl _) noC
      exact ⟨k, hk, fun h'' sb => ⟨.ref D, _, shut.turned (t' := s6.toks) (fun b o hb e => (sb.2 b hb).trans e) f0 f1 f3 f4 f5, rfl, qq⟩⟩
    · refine thnF (T.item (X.blk Z HD scope ce fp) rfl rfl rfl calm i [] s5 _ H5 (fun _ _ => False) I5 (still I5 n5) st5 go) fun r s6 ⟨u, hr, h6⟩ => ?_
      subst hr
      refine thnF h6 fun _ s7 ⟨x, H7, I7, r7, y7, st7, n7⟩ => ?_
      refine thnF (pg.run _ s7 _ H7 x u _ (I7.pinned (still I7 n7) (T.obj _ _ st7)) r7 (step x H7 y7)) fun _ s8 ⟨σ8, H8, I8, hw8, q8⟩ => ?_
      refine thnF (pt.run _ s8 σ8 H8 _ I8 q8) fun b s9 ⟨H9, I9, q9⟩ => ?_
      have again : ∀ {s' : Shared} {H' : Hp}, Inv (X.blk Z HD scope ce fp) ([] ++ pinsAt fp s7.heap) σ8 H' s' → Nx H' → ∃ k, k < m ∧ ∃ i H', Inv (X.blk Z HD scope ce fp) [] (L2.wipe σ (own.map (·.2))) H' s' ∧ tn i s'.heap ∧ (∀ b ∈ fp, H' b = none) ∧ W i k H' := fun {s' H'} I' nx => by
        obtain ⟨k, hk, w'⟩ := hNx H' nx
        have keep : ∀ b ∈ fp, ∀ o, s7.heap.get? b = some o → s'.heap.get? b = some o ∧ H' b = none := fun b hb o e =>
          let z := I'.pin (b, o) (List.mem_append_right _ (List.mem_append_right _ (mem_pinsAt hb e)))
          ⟨z.1, z.2.1⟩
        refine ⟨k, hk, i + 1, H', (I'.unpinned (pins := [])).weak (by rw [← hw8, wipe_length]) (fun j v e => ?_), T.keep _ _ _ st7 fun b hb o e => (keep b hb o e).1, fun b hb => let ⟨o, e, _⟩ := T.obj _ _ st7 b hb; (keep b hb o e).2, w'⟩
        rw [← hw8] at e
        exact (wipe_some e).1
      cases b with
      | false => exact again I9 q9
      | true => exact thnF (pe.run _ s9 σ8 H9 _ I9 q9) fun z s10 ⟨_, H10, I10, r10, k, S, n, ey, hS, hn, nx⟩ => putI (X := X.blk Z HD scope ce fp) I10 hS hn (ey ▸ r10) fun s11 I11 => again I11 nx
  exact PpSet.codeAny_compStart_set loop (T.self X.A 0 _ _ _ stB loop)
end

/-! ### how many unlike ones -/
def unlikeF (s : List Int) : List Int → List Int
  | [] => s
  | k :: l => unlikeF (if k ∈ s then s else s ++ [k]) l
theorem unlikeF_snoc : ∀ (l s : List Int) (k : Int), unlikeF s (l ++ [k]) = if k ∈ unlikeF s l then unlikeF s l else unlikeF s l ++ [k]
  | [], s, k => rfl
  | x :: l, s, k => unlikeF_snoc l _ k
theorem mem_unlikeF : ∀ (l s : List Int) (x : Int), x ∈ unlikeF s l ↔ x ∈ s ∨ x ∈ l
  | [], s, x => by simp [unlikeF]
  | k :: l, s, x => by
    rw [unlikeF, mem_unlikeF l]
    by_cases h : k ∈ s
    · rw [if_pos h, List.mem_cons]
      exact ⟨fun z => z.imp id .inr, fun z => z.elim .inl fun z => z.elim (fun e => .inl (e ▸ h)) .inr⟩
    · rw [if_neg h, List.mem_append, List.mem_singleton, List.mem_cons, or_assoc]
theorem unlikeF_len : ∀ (l s : List Int), (unlikeF s l).length ≤ s.length + l.length
  | [], s => Nat.le_refl _
  | k :: l, s => by
    have := unlikeF_len l (if k ∈ s then s else s ++ [k])
    rw [unlikeF, List.length_cons]
    split at this
    · rw [if_pos (by assumption)]
      omega
    · rw [if_neg (by assumption)]
      rw [List.length_append, List.length_singleton] at this
      omega
theorem unlikeF_all : ∀ (l s : List Int), (unlikeF s l).length = s.length + l.length ↔ l.Nodup ∧ ∀ x ∈ l, x ∉ s
  | [], s => by simp [unlikeF]
  | k :: l, s => by
    rw [unlikeF, List.length_cons, List.nodup_cons]
    by_cases h : k ∈ s
    · rw [if_pos h]
      have := unlikeF_len l s
      exact ⟨fun e => absurd e (by omega), fun e => absurd h (e.2 k List.mem_cons_self)⟩
    · rw [if_neg h]
      have ih := unlikeF_all l (s ++ [k])
      rw [List.length_append, List.length_singleton] at ih
      rw [show s.length + (l.length + 1) = s.length + 1 + l.length by omega, ih]
      constructor
      · rintro ⟨h1, h2⟩
        refine ⟨⟨fun hk => h2 k hk (by simp), h1⟩, fun x hx hs => ?_⟩
        rcases List.mem_cons.mp hx with rfl | hx
        · exact h hs
        · exact h2 x hx (by simp [hs])
      · rintro ⟨⟨h1, h2⟩, h3⟩
        refine ⟨h2, fun x hx hs => ?_⟩
        rcases List.mem_append.mp hs with hs | hs
        · exact h3 x (List.mem_cons_of_mem _ hx) hs
        · rw [List.mem_singleton.mp hs] at hx
          exact h1 hx
/-- how many unlike ones -/
def unlike (l : List Int) : Nat := (unlikeF [] l).length
theorem unlike_all {l : List Int} : unlike l = l.length ↔ l.Nodup := by
  have := unlikeF_all l []
  unfold unlike
  simpa using this
theorem unlike_snoc (l : List Int) (k : Int) : unlike (l ++ [k]) = if k ∈ l then unlike l else unlike l + 1 := by
  unfold unlike
  rw [unlikeF_snoc]
  have : k ∈ unlikeF [] l ↔ k ∈ l := by rw [mem_unlikeF]; simp
  by_cases h : k ∈ l
  · rw [if_pos (this.mpr h), if_pos h]
  · rw [if_neg (fun z => h (this.mp z)), if_neg h, List.length_append, List.length_singleton]
theorem unlike_le (l : List Int) : unlike l ≤ l.length := by
  have := unlikeF_len l []
  simpa [unlike] using this
def growS (l : List Int) : Int → Bool := fun j => decide (j ∈ l)
theorem grow_snoc (l : List Int) (k : Int) : (fun j => growS l j || decide (j = k)) = growS (l ++ [k]) := by
  funext j
  unfold growS
  by_cases h1 : j ∈ l <;> by_cases h2 : j = k <;> simp [h1, h2]

/-! ### over data -/
def dScI (w : DIt) (g : DG) (tt : DT) (te : DE) (vs : List Nat) : DE := fun ρ S post => w ρ S fun xs C S1 => ∃ I : Nat → List Int → Store → Prop, I 0 [] S1 ∧ (∀ i acc S, i ≤ xs.length → I i acc S → C S) ∧
  (∀ (i : Nat) (d : D) (acc : List Int) (S : Store), xs[i]? = some d → I i acc S → g d (wipeD ρ vs) S fun ρ2 S2 => tt ρ2 S2 fun b S3 => if b = true then te ρ2 S3 fun y S4 => ∃ k : Int, y = .int k ∧ acc.length ≤ 1000 ∧ I (i + 1) (acc ++ [k]) S4 else I (i + 1) acc S3) ∧
  ∀ acc S, I xs.length acc S → acc.length ≤ 1001 ∧ post (.opq (numSet (unlike acc))) S
theorem lift_scI {K : PySem.W.Frag} {w : DIt} {g : DG} {tt : DT} {te : DE} {vs ws : List Nat} (hws : ∀ i ∈ ws, i ∈ vs) {σ : L2.St} {H : Hp} {Q : VK} : liftE K (dScI w g tt te vs) σ H Q → tScI (liftI K w) (liftW K ws g) (liftT K tt) (liftE K te) vs σ H Q := by
  rintro ⟨A, ρ, S, post, n, s, h, k⟩
  refine ⟨A, ρ, S, _, n, s, h, fun J H' A' xs C S' e s' ok ⟨I, i0, iC, step, done⟩ => ?_⟩
  intro Dl hDl
  refine ⟨fun i m H2 => m = xs.length - i ∧ i ≤ xs.length ∧ ∃ A2 S2 acc, Ext H' A' H2 A2 ∧ RelS K H2 A2 S2 ∧ Dl ∉ A2 ∧ H2 Dl = some (.set (growS acc) (unlike acc)) ∧ I i acc S2, ⟨xs.length, by simp, Nat.zero_le _, A', S', [], Ext.same (same_upd hDl), s'.same (same_upd hDl), s'.notin hDl, upd_same, i0⟩, ?_⟩
  rintro i m H2 ⟨rfl, hi, A2, S2, acc, e2, s2, hn2, hd2, p2⟩
  obtain ⟨st, go⟩ := ok H2 A2 S2 e2 s2 (iC i acc S2 hi p2)
  by_cases hlt : i < xs.length
  · have hx : xs[i]? = some xs[i] := List.getElem?_eq_getElem hlt
    obtain ⟨g1, g2⟩ := go i _ hx
    refine .inr ⟨g1, fun H3 => ∃ A3 S3 acc3, Ext H' A' H3 A3 ∧ RelS K H3 A3 S3 ∧ Dl ∉ A3 ∧ H3 Dl = some (.set (growS acc3) (unlike acc3)) ∧ I (i + 1) acc3 S3, fun H3 ⟨A3, S3, acc3, q⟩ => ⟨xs.length - (i + 1), by omega, rfl, hlt, A3, S3, acc3, q⟩, fun x H3 hy => ?_⟩
    obtain ⟨same, rx⟩ := g2 x H3 hy
    have e3 : Ext H2 A2 H3 A2 := Ext.same same
    have n3 : RelN K H3 A2 (wipeD ρ vs) (L2.wipe σ vs) := ((n.ext e).ext e2).ext e3 |>.wipe vs
    refine ⟨A2, wipeD ρ vs, S2, xs[i], _, n3, s2.same same, rx, step i _ acc S2 hx p2, fun σ4 H4 A4 ρ4 S4 e4 n4 s4 hw p4 => ?_⟩
    have hww : L2.wipe σ4 vs = L2.wipe σ vs := by
      rw [hw vs hws]
      have idem : ∀ (us : List Nat) (τ : L2.St), (∀ i ∈ us, i ∈ vs) → L2.wipe (L2.wipe τ us) vs = L2.wipe τ vs := by
        intro us
        induction us with
        | nil => intro τ _; rfl
        | cons u us ih =>
          intro τ hu
          show L2.wipe ((L2.wipe τ us).set u none) vs = _
          rw [wipe_set _ u none vs (hu u List.mem_cons_self)]
          exact ih τ fun i hi => hu i (List.mem_cons_of_mem _ hi)
      exact idem vs σ fun _ h => h
    refine ⟨hww, A4, ρ4, S4, _, n4, s4, p4, fun b H5 A5 S5 e5 s5 p5 => ?_⟩
    have stay : ∀ {H6 : Hp} {A6 : List Addr}, Ext H2 A2 H6 A6 → H6 Dl = some (.set (growS acc) (unlike acc)) ∧ Dl ∉ A6 := fun {H6 A6} e6 => by
      refine ⟨?_, fun hm => ?_⟩
      · rcases e6.keep _ _ hd2 with q | ⟨q, _⟩ | ⟨_, q⟩
        · exact q
        · exact absurd q hn2
        · cases q
      · obtain ⟨B, rfl, f⟩ := e6.pre
        rcases List.mem_append.mp hm with hm | hm
        · exact hn2 hm
        · obtain ⟨_, q⟩ := f _ hm _ hd2
          cases q
    cases b with
    | true =>
      refine ⟨A5, ρ4, S5, _, n4.ext e5, s5, p5, fun y H6 A6 d6 S6 e6 s6 r6 ⟨k, ek, hl, p6⟩ => ?_⟩
      subst ek
      have e26 : Ext H2 A2 H6 A6 := ((e3.trans e4).trans e5).trans e6
      obtain ⟨q1, q2⟩ := stay e26
      have mu : LdO (.set (growS acc) (unlike acc)) := .inr (.inr ⟨_, _, rfl⟩)
      have ex : Ext H' A' H6 A6 := e2.trans e26
      have le := unlike_le acc
      refine ⟨k, growS acc, unlike acc, r6, q1, by show _ < 4096; omega, A6, S6, acc ++ [k], ex.out hDl, s6.out q2 q1 mu, q2, ?_, p6⟩
      rw [upd_same, grow_snoc, unlike_snoc]
      unfold growS
      simp only [decide_eq_true_eq]
    | false =>
      have e25 : Ext H2 A2 H5 A5 := (e3.trans e4).trans e5
      obtain ⟨q1, q2⟩ := stay e25
      exact ⟨A5, S5, acc, e2.trans e25, s5, q2, q1, p5⟩
  · have ei : i = xs.length := by omega
    subst ei
    obtain ⟨small, p3⟩ := done acc S2 p2
    have le := unlike_le acc
    refine .inl ⟨st, _, _, hd2, by show _ < 4096; omega, ?_⟩
    have ex := e.trans e2
    have mu : LdO (.set (growS acc) (unlike acc)) := .inr (.inr ⟨_, _, rfl⟩)
    exact k (.ref Dl) _ A2 (.opq (numSet (unlike acc))) S2 (e.trans (e2.out hDl)) (s2.out hn2 hd2 mu) ⟨Dl, rfl, upd_same, numSet_stab _ K⟩ p3
section
variable {X : Cx} {pos : Pos}
theorem de_scI {elt tg iter : Expr} {ifs : List Expr} {scope : Scope} {own : List (Str × Nat)} {w : DIt} {g : DG} {tt : DT} {te : DE} {ws : List Nat} (hws : ∀ i ∈ ws, i ∈ own.map (·.2)) (hc : X.calm = true) (hN : X.N.Nodup) (hi : PI X tg iter (liftI X.K w)) (ok : BlkOk X.N X.env.scope scope own)
    (hg : ∀ (s : Shared) (H : Hp) (C : Addr) (cl : List (Str × Addr)) (fp : List Addr), PG (X.blk s H scope (compEnvC scope cl C X.env) fp) tg (liftW X.K ws g)) (ht : ∀ (s : Shared) (H : Hp) (C : Addr) (cl : List (Str × Addr)) (fp : List Addr), PTs (X.blk s H scope (compEnvC scope cl C X.env) fp) ifs (liftT X.K tt))
    (he : ∀ (s : Shared) (H : Hp) (C : Addr) (cl : List (Str × Addr)) (fp : List Addr), PE (X.blk s H scope (compEnvC scope cl C X.env) fp) elt (liftE X.K te)) (hs : ∀ x, foldedSetIterable iter X.env x = pure x := by intro _; rfl) :
    PE X (.SetComp elt [⟨tg, iter, ifs, 0⟩] scope pos) (liftE X.K (dScI w g tt te (own.map (·.2)))) :=
  pe_mono (pe_scI hc hN hi ok hg ht he hs) fun _ _ _ => lift_scI hws
end
/-! ### len of it -/
def cLenS : DC := fun ds S post => ∃ n : Nat, ds = [.opq (numSet n)] ∧ post (.int n) S
def rLenS : List V → Hp → VK → Prop := fun xs H Q => ∃ (a : Addr) (n : Nat), xs = [.ref a] ∧ H a = some (NumO a n) ∧ Q (.int n) H
theorem call_lenSet {X : Cx} : CallR X (.builtin "len") rLenS := by
  intro pins s σ H xs us Q I r ⟨a, n, ex, ha, q⟩
  subst ex
  obtain ⟨u, rfl, ru⟩ := vals1 r
  obtain rfl : u = Value.ref a := ru
  obtain ⟨⟨o, es, ep, t, ho, hx, hd, hf, hn, hb⟩, _⟩ := (show ObjOk X.prog X.w H s.heap a (.ext _) from I.hok a _ ha)
  have hb' : n < 4096 := hb
  exact call_len_set ho hx hd hf (by rw [hn]; omega) ⟨.int n, H, I.tok _, ⟨_, by rw [hn]⟩, q⟩
theorem rul_lenS {K : PySem.W.Frag} : RulC K cLenS rLenS := by
  intro H A S ds vs post Q s r ⟨n, e, h⟩ k
  subst e
  obtain ⟨v, rfl, rv⟩ := rels1 r
  obtain ⟨a, rfl, ha, _⟩ := rv
  exact ⟨a, n, rfl, ha, k.now (d := .int n) s rfl h⟩
theorem go_lenS {n : Nat} {S : Store} {post : DK} (h : post (.int n) S) : cLenS [.opq (numSet n)] S post := ⟨n, rfl, h⟩
end DL
/-! ZZ: a tuple times 1; == of tuples that hold lists. -/
namespace DL
open PySem PySem.Spec PyProof.Rows L2
variable [HasT]
theorem mul_one_same (l : Addr) (items : Array Value) (n : Nat) (dd : Option Addr) (sl : Array (Option Value)) (u : Tok) :
    Meets (Builtin.«tuple.__mul__» ⟨[.ref l, .int 1 u], []⟩) (fun _ R s => s.heap.get? l = some { cls := .type "tuple", dict := dd, data := .seq items n, slots := sl } ∧ R (.ok (.ret (Value.ref l))) s) :=
  .of_wp fun prog w A R s h => by
    obtain ⟨hp, g, d, tk, os⟩ := s
    obtain ⟨hl, h⟩ := h
    have f1 := AutoSeq1.idx_int
    have c1 : (items.isEmpty || (1 : Int) == 1) = true := by simp
    wp_walk using wpAny_loadPart' hl
    repeat (first
      | (refine wpAny_ite_false (decide_eq_false (by decide)) ?_; wp_walk using wpAny_loadPart' hl)
      | (refine wpAny_ite_true (decide_eq_true c1) ?_; wp_walk using wpAny_loadPart' hl))
    exact ⟨_, rfl, h⟩
def rMul1 (K : PySem.W.Frag) : R2 := fun x y H Q => ∃ (a : Addr) (zs : List V), x = .ref a ∧ y = .int 1 ∧ SqT K H a zs ∧ Q (.ref a) H
theorem op_mul1 {X : Cx} : OpR X (binaryOp .Mult) (rMul1 X.K) := by
  intro pz sh τ HH x y vx ux QQ iz r1 r2 hh
  obtain ⟨a, zs, rfl, rfl, hT, qq⟩ := hh
  cases r1
  obtain ⟨tk, rfl⟩ := r2
  obtain ⟨vz, rv, ⟨⟨cz, dz, dat, sz⟩, at_, c1, n, d1⟩, big⟩ := iz.tuple hT
  simp only at c1 d1
  subst c1 d1
  have mul := mul_one_same a vz.toArray n dz sz tk
  have call1 := int_rmul_tuple 1 tk a vz.toArray n dz sz
  refine wpAny_binaryOp_repeat_ref (T := "tuple") (U := "int")
    (by decide) ⟨_, at_, rfl⟩
    (fun s' => typeIs_int s' 1 tk) noFill_tuple_mul
    F.fills_int_mul F.slot_int_rmul
    repeat_tuple F.slot_int_index.lookup ?_
  refine call_meets F.slot_int_rmul (typeIs_int sh 1 tk)
    F.entry_int_rmul (F.args_int_rmul_2 _ _) call1 ⟨at_, rfl, ⟨_, at_, rfl⟩, ?_⟩
  refine call_meets F.slot_tuple_mul ⟨_, at_, rfl⟩
    F.entry_tuple_mul (F.args_tuple_mul_2 _ _) mul ⟨at_, ?_⟩
  exact ⟨.ref a, HH, iz, rfl, qq⟩
def oMul3 : D2 := fun x y S post => match x, y with
  | .tup xs, .int j => xs ≠ [] ∧ 1 ≤ j ∧ j ≤ 1000 ∧ xs.length ≤ 1000 ∧ post (.tup (List.replicate j.toNat xs).flatten) S
  | x, y => oMul x y S post
theorem op_mul3 {X : Cx} : OpR X (binaryOp .Mult) (fun x y H Q => (rI CMul (fun i j => .int (i * j)) x y H Q ∨ rMulP X.K x y H Q) ∨ rMul1 X.K x y H Q) := OpR.or op_mul2 op_mul1
theorem rul_mul3 {K : PySem.W.Frag} : Rul2 K oMul3 (fun x y H Q => (rI CMul (fun i j => .int (i * j)) x y H Q ∨ rMulP K x y H Q) ∨ rMul1 K x y H Q) := by
  intro H A S d1 d2 v1 v2 post Q s r1 r2 h k
  by_cases c : ∃ xs j, d1 = .tup xs ∧ d2 = .int j
  · obtain ⟨xs, j, rfl, rfl⟩ := c
    obtain ⟨h0, h1, h2, h3, h4⟩ := h
    by_cases e : j = 1
    · subst e
      obtain ⟨a, vs, rfl, ht, hv⟩ := r1
      cases (show v2 = .int 1 from r2)
      refine .inr ⟨a, vs, rfl, rfl, ht.sq, ?_⟩
      have ex : (List.replicate (1 : Int).toNat xs).flatten = xs := by simp
      rw [ex] at h4
      exact k.now (d := .tup xs) s ⟨a, vs, rfl, ht, hv⟩ h4
    · exact .inl (rul_mul2 H A S (.tup xs) (.int j) v1 v2 post Q s r1 r2 (show oMul2 _ _ S post from ⟨h0, by omega, h2, h3, h4⟩) k)
  · have h' : oMul2 d1 d2 S post := by
      unfold oMul2
      split
      · exact absurd ⟨_, _, rfl, rfl⟩ c
      · unfold oMul3 at h
        split at h
        · exact absurd ⟨_, _, rfl, rfl⟩ c
        · exact h
    exact .inl (rul_mul2 H A S d1 d2 v1 v2 post Q s r1 r2 h' k)
theorem go_mul3_int {i j : Int} {S : Store} {post : DK} : oMul3 (.int i) (.int j) S post ↔ CMul i j ∧ post (.int (i * j)) S := Iff.rfl
theorem go_mul3_tup {xs : List D} {j : Int} {S : Store} {post : DK} : oMul3 (.tup xs) (.int j) S post ↔ xs ≠ [] ∧ 1 ≤ j ∧ j ≤ 1000 ∧ xs.length ≤ 1000 ∧ post (.tup (List.replicate j.toNat xs).flatten) S := Iff.rfl

/-! ### == of tuples whose parts are plain or lists of plain things -/
def datasOf (S : Store) : List D → List PyData → Prop
  | [], ps => ps = []
  | d :: ds, ps => ∃ p qs, ps = p :: qs ∧ dataOf S d p ∧ datasOf S ds qs
def dataT (S : Store) (x : D) (p : PyData) : Prop := dataOf S x p ∨ ∃ ds ps, x = .tup ds ∧ p = .tuple ps ∧ datasOf S ds ps
theorem datasOf.rel {K : PySem.W.Frag} {H : Hp} {A : List Addr} {S : Store} (s : RelS K H A S) : ∀ {ds : List D} {ps : List PyData} {vs : List V}, datasOf S ds ps → RelDs K H A ds vs → DpAll K H vs ps
  | [], ps, vs, q, r => by
    rw [show ps = [] from q, show vs = [] from r]
    exact .nil
  | d :: ds, ps, vs, ⟨p, qs, e1, h1, h2⟩, ⟨v, us, e2, r1, r2⟩ => by
    rw [e1, e2]
    exact .cons (h1.rel s r1) (datasOf.rel s h2 r2)
theorem dataT.rel {K : PySem.W.Frag} {H : Hp} {A : List Addr} {S : Store} {x : D} {p : PyData} {v : V} (s : RelS K H A S) (q : dataT S x p) (r : RelD K H A x v) : Dp K H v p := by
  rcases q with q | ⟨ds, ps, rfl, rfl, h⟩
  · exact q.rel s r
  · obtain ⟨a, vs, rfl, h1, h2⟩ := r
    exact .tup h1.sq (h.rel s h2)
def oEqT (neg : Bool) : D2 := fun x y S post => match x, y with
  | .int i, .int j => post (.bl (neg ^^ decide (i = j))) S
  | .str i, .str j => post (.bl (neg ^^ decide (i = j))) S
  | .bl i, .bl j => post (.bl (neg ^^ decide (i = j))) S
  | x, y => ∃ p q, dataT S x p ∧ dataT S y q ∧ SeqAt.shaped p = true ∧ SeqAt.shaped q = true ∧ post (.bl (neg ^^ PyData.eqv p q)) S
theorem rul_eqT {K : PySem.W.Frag} : Rul2 K (oEqT false) (rEq2 K) := by
  intro H A S d1 d2 v1 v2 post Q s r1 r2 h k
  unfold oEqT at h
  split at h
  · exact rul_eq H A S _ _ v1 v2 post Q s r1 r2 h k
  · exact rul_eq H A S _ _ v1 v2 post Q s r1 r2 h k
  · exact rul_eq H A S _ _ v1 v2 post Q s r1 r2 h k
  · obtain ⟨p, q, h1, h2, g1, g2, hp⟩ := h
    exact .inr ⟨p, q, h1.rel s r1, h2.rel s r2, g1, g2, fin_bool s k hp (by simp)⟩
theorem rul_neT {K : PySem.W.Frag} : Rul2 K (oEqT true) (rNe2 K) := by
  intro H A S d1 d2 v1 v2 post Q s r1 r2 h k
  unfold oEqT at h
  split at h
  · exact rul_ne H A S _ _ v1 v2 post Q s r1 r2 h k
  · exact rul_ne H A S _ _ v1 v2 post Q s r1 r2 h k
  · exact rul_ne H A S _ _ v1 v2 post Q s r1 r2 h k
  · obtain ⟨p, q, h1, h2, g1, g2, hp⟩ := h
    exact .inr ⟨p, q, h1.rel s r1, h2.rel s r2, g1, g2, fin_bool s k hp (by simp)⟩
end DL
namespace DL
open PySem PySem.Spec PyProof.Rows L2
variable [HasT]
def scK (g : DG) (tt : DT) (te : DE) (vs : List Nat) (ρ : DEnv) (post : DK) (xs : List D) (C : Store → Prop) (S1 : Store) : Prop := ∃ I : Nat → List Int → Store → Prop, I 0 [] S1 ∧ (∀ i acc S, i ≤ xs.length → I i acc S → C S) ∧
  (∀ (i : Nat) (d : D) (acc : List Int) (S : Store), xs[i]? = some d → I i acc S → g d (wipeD ρ vs) S fun ρ2 S2 => tt ρ2 S2 fun b S3 => if b = true then te ρ2 S3 fun y S4 => ∃ k : Int, y = .int k ∧ acc.length ≤ 1000 ∧ I (i + 1) (acc ++ [k]) S4 else I (i + 1) acc S3) ∧
  ∀ acc S, I xs.length acc S → acc.length ≤ 1001 ∧ post (.opq (numSet (unlike acc))) S
theorem go_sc {w : DIt} {g : DG} {tt : DT} {te : DE} {vs : List Nat} {ρ : DEnv} {S : Store} {post : DK} : dScI w g tt te vs ρ S post = w ρ S (scK g tt te vs ρ post) := rfl
theorem sc_map {g : DG} {tt : DT} {te : DE} {vs : List Nat} {ρ : DEnv} {post : DK} {C : Store → Prop} {S1 : Store} {xs : List D} (v : D → Int) (hC : C S1) (hl : xs.length ≤ 1000)
    (step : ∀ (a : D) (acc : List Int) (J : List Int → Store → Prop), a ∈ xs → acc.length ≤ 1000 → J (acc ++ [v a]) S1 →
      g a (wipeD ρ vs) S1 fun ρ2 S2 => tt ρ2 S2 fun b S3 => if b = true then te ρ2 S3 fun y S4 => ∃ k : Int, y = .int k ∧ acc.length ≤ 1000 ∧ J (acc ++ [k]) S4 else J acc S3)
    (fin : post (.opq (numSet (unlike (xs.map v)))) S1) : scK g tt te vs ρ post xs C S1 := by
  refine ⟨fun i acc S => S = S1 ∧ acc = (xs.take i).map v, ⟨rfl, rfl⟩, fun i acc S _ h => by rw [h.1]; exact hC, fun i d acc S hd h => ?_, fun acc S h => ?_⟩
  · obtain ⟨rfl, rfl⟩ := h
    have lt := (List.getElem?_eq_some_iff.mp hd).1
    refine step d _ (fun acc S' => S' = S ∧ acc = (xs.take (i + 1)).map v) (List.mem_of_getElem? hd) ?_ ⟨rfl, ?_⟩
    · rw [List.length_map, List.length_take]
      omega
    · rw [List.take_add_one, hd, List.map_append]
      rfl
  · obtain ⟨rfl, rfl⟩ := h
    rw [List.take_length]
    exact ⟨by rw [List.length_map]; omega, fin⟩
theorem lc_map {g : DG} {tt : DT} {te : DE} {vs : List Nat} {ρ : DEnv} {post : DK} {C : Store → Prop} {S1 : Store} {xs : List D} (v : D → D) (hC : C S1) (hl : xs.length ≤ 100000)
    (step : ∀ (a : D) (acc : List D) (J : List D → Store → Prop), a ∈ xs → acc.length ≤ 100000 → J (acc ++ [v a]) S1 →
      g a (wipeD ρ vs) S1 fun ρ2 S2 => tt ρ2 S2 fun b S3 => if b = true then te ρ2 S3 fun y S4 => acc.length ≤ 100000 ∧ J (acc ++ [y]) S4 else J acc S3)
    (fin : post (.lr S1.length) (S1 ++ [.lst (xs.map v)])) : lcK g tt te vs ρ post xs C S1 := by
  refine lc_inv (fun i acc S => S = S1 ∧ acc = (xs.take i).map v) ⟨rfl, rfl⟩ (fun i acc S _ h => by rw [h.1]; exact hC) (fun i d acc S hd h => ?_) fun acc S h => ?_
  · obtain ⟨rfl, rfl⟩ := h
    have lt := (List.getElem?_eq_some_iff.mp hd).1
    refine step d _ (fun acc S' => S' = S ∧ acc = (xs.take (i + 1)).map v) (List.mem_of_getElem? hd) ?_ ⟨rfl, ?_⟩
    · rw [List.length_map, List.length_take]
      omega
    · rw [List.take_add_one, hd, List.map_append]
      rfl
  · obtain ⟨rfl, rfl⟩ := h
    rw [List.take_length]
    exact fin
end DL
/-! YA: type(x) is int, and the like. -/
namespace DL
open PySem PySem.Spec PyProof.Rows L2
variable [HasT]

theorem tyD_B {K : PySem.W.Frag} {H : Hp} {A : List Addr} {S : Store} {t : String} (s : RelS K H A S) : ∀ {d : D} {v : V}, RelD K H A d v → tyD S d = some t → TyB K H v t
  | .non, v, r, h => by cases h; cases (show v = .non from r); constructor
  | .bl _, v, r, h => by cases h; cases (show v = .bl _ from r); constructor
  | .int _, v, r, h => by cases h; cases (show v = .int _ from r); constructor
  | .str _, v, r, h => by cases h; cases (show v = .str _ from r); constructor
  | .tup _, v, ⟨a, vs, e, p, _⟩, h => by
    cases h
    subst e
    exact .tup p.sq
  | .ztup _, v, ⟨a, vs, e, p, _⟩, h => by
    cases h
    subst e
    exact .tup p
  | .lr n, v, ⟨a, e, ha⟩, h => by
    subst e
    simp only [tyD] at h
    cases q : S[n]? with
    | none => rw [q] at h; cases h
    | some en =>
      rw [q] at h
      have r := s.get q ha
      cases en with
      | lst ds => cases h; obtain ⟨vs, h1, _⟩ := r; exact .lst (.inl (.inl h1))
      | dct kvs => cases h; obtain ⟨vs, h1, _⟩ := r; exact .dK h1
  | .rl _, _, _, h => by cases h
  | .exc _ _ _ _, _, _, h => by cases h
  | .opq _, _, _, h => by cases h
def dTyIs (n : String) (te : DE) : DE := fun ρ S post => te ρ S fun d S1 => ∃ t, tyD S1 d = some t ∧ post (.bl (decide (t = n))) S1
section
variable {X : Cx} {e : Expr} {te : DE} {x : Str} {n : String} {p p2 p3 pos : Pos}
theorem de_tyIs (he : PE X e (liftE X.K te)) (hg : Gl X "type") (hm : X.mg "type" = none) (hg2 : Gl X x) (hm2 : X.mg x = none) (hv : bootBuiltins x = some (.type n))
    (hn : x ≠ "__name__" := by decide) (hd : (x == ("__debug__" : Str)) = false := by decide)
    (h1 : starEach [e] X.env = (false, eval e X.env) :: starEach [] X.env := by rfl) (hpl : (backTo p3 (starEach [] X.env)).any (·.1) = false := by rfl) (hmk : behindInMarks .Is (.Name x p2) = false := by rfl) :
    PE X (.Compare (.Call (.Name "type" p) [e] [] p3) [.Is] [.Name x p2] pos) (liftE X.K (dTyIs n te)) := by
  refine pe_mono (pe_cmpR op_isTyB (pe_callTy call_type1 hg hm (by rfl) (pa_cons he pa_nil h1) (by decide) (by decide) h1 hpl) (pe_bltn (v := .ty n) hg2 hm2 hv rfl hn hd) hmk) fun σ H Q ⟨A, ρ, S, post, nn, s, h, k⟩ =>
    ⟨A, ρ, S, _, nn, s, h, fun v H1 A1 d S1 e1 s1 r1 ⟨t, ht, p⟩ => ⟨v, t, rfl, tyD_B s1 r1 ht, t, n, rfl, rfl, k (.bl _) H1 A1 (.bl _) S1 e1 s1 rfl p⟩⟩
end
end DL
/-! YB: <= and >= of tuples of ints. -/
namespace DL
open PySem PySem.Spec PyProof.Rows L2
variable [HasT]

theorem lexAt_shift {e r : Nat → Bool} {z : Bool} : ∀ (k i : Nat), Ob.lexAt e r z (i + 1) k = Ob.lexAt (fun j => e (j + 1)) (fun j => r (j + 1)) z i k
  | 0, i => by rw [Ob.lexAt_zero, Ob.lexAt_zero]
  | k + 1, i => by rw [Ob.lexAt_succ, Ob.lexAt_succ, lexAt_shift k (i + 1)]
theorem lexAt_le : ∀ ns ms : List Int, Ob.lexAt (fun j => decide (ns.getD j 0 = ms.getD j 0)) (fun j => decide (ns.getD j 0 ≤ ms.getD j 0)) (decide (ns.length ≤ ms.length)) 0 (min ns.length ms.length) = !HT.lexLt ms ns
  | [], [] => rfl
  | [], _ :: _ => by simp [Ob.lexAt_zero, HT.lexLt]
  | _ :: _, [] => by simp [Ob.lexAt_zero, HT.lexLt]
  | x :: xs, y :: ys => by
    have e : min (x :: xs).length (y :: ys).length = min xs.length ys.length + 1 := by simp only [List.length_cons]; omega
    rw [e, Ob.lexAt_succ, lexAt_shift]
    have ih := lexAt_le xs ys
    simp only [List.length_cons, Nat.add_le_add_iff_right] at ih ⊢
    have c1 : (fun j => decide ((x :: xs).getD (j + 1) 0 = (y :: ys).getD (j + 1) 0)) = fun j => decide (xs.getD j 0 = ys.getD j 0) := rfl
    have c2 : (fun j => decide ((x :: xs).getD (j + 1) 0 ≤ (y :: ys).getD (j + 1) 0)) = fun j => decide (xs.getD j 0 ≤ ys.getD j 0) := rfl
    rw [c1, c2, ih]
    show (if decide (x = y) = true then _ else decide (x ≤ y)) = !(if y = x then _ else decide (y < x))
    by_cases h : x = y
    · subst h
      simp
    · have h' : ¬ y = x := fun q => h q.symm
      rw [if_neg (by simpa using h), if_neg h']
      by_cases g : x ≤ y
      · rw [decide_eq_true g, decide_eq_false (by omega)]; rfl
      · rw [decide_eq_false g, decide_eq_true (by omega)]; rfl
theorem lexAt_ge : ∀ ns ms : List Int, Ob.lexAt (fun j => decide (ns.getD j 0 = ms.getD j 0)) (fun j => decide (ms.getD j 0 ≤ ns.getD j 0)) (decide (ns.length ≥ ms.length)) 0 (min ns.length ms.length) = !HT.lexLt ns ms
  | [], [] => rfl
  | [], _ :: _ => by simp [Ob.lexAt_zero, HT.lexLt]
  | _ :: _, [] => by simp [Ob.lexAt_zero, HT.lexLt]
  | x :: xs, y :: ys => by
    have e : min (x :: xs).length (y :: ys).length = min xs.length ys.length + 1 := by simp only [List.length_cons]; omega
    rw [e, Ob.lexAt_succ, lexAt_shift]
    have ih := lexAt_ge xs ys
    simp only [List.length_cons, ge_iff_le, Nat.add_le_add_iff_right] at ih ⊢
    have c1 : (fun j => decide ((x :: xs).getD (j + 1) 0 = (y :: ys).getD (j + 1) 0)) = fun j => decide (xs.getD j 0 = ys.getD j 0) := rfl
    have c2 : (fun j => decide ((y :: ys).getD (j + 1) 0 ≤ (x :: xs).getD (j + 1) 0)) = fun j => decide (ys.getD j 0 ≤ xs.getD j 0) := rfl
    rw [c1, c2, ih]
    show (if decide (x = y) = true then _ else decide (y ≤ x)) = !(if x = y then _ else decide (x < y))
    by_cases h : x = y
    · subst h
      simp
    · rw [if_neg (by simpa using h), if_neg h]
      by_cases g : y ≤ x
      · rw [decide_eq_true g, decide_eq_false (by omega)]; rfl
      · rw [decide_eq_false g, decide_eq_true (by omega)]; rfl
def rGeT (K : PySem.W.Frag) : R2 := fun x y H Q => ∃ a b ns ms, x = .ref a ∧ y = .ref b ∧ SqT K H a (ns.map V.int) ∧ SqT K H b (ms.map V.int) ∧ Q (.bl (!HT.lexLt ns ms)) H
theorem op_geT {X : Cx} (hu : X.A.units < cLine) : OpR X (compareOp .GtE) (rGeT X.K) := by
  intro pins s σ H x y v u Q I rx ry h
  obtain ⟨a, b, ns, ms, rfl, rfl, ha, hb, q⟩ := h
  cases rx
  cases ry
  obtain ⟨its, r1, p1, _⟩ := I.tuple ha
  obtain ⟨its2, r2, p2, _⟩ := I.tuple hb
  have i1 : IntsAre its ns := Vals.ints r1
  have i2 : IntsAre its2 ms := Vals.ints r2
  have e1 : its.toArray.size = ns.length := by rw [List.size_toArray]; exact i1.length
  have e2 : its2.toArray.size = ms.length := by rw [List.size_toArray]; exact i2.length
  have at1 : ∀ j (h1 : j < its.toArray.size), ∃ t, its.toArray[j] = .int (ns.getD j 0) t := fun j h1 => PyProof.Rows.IntsAre.int_at i1 _ _ (by simp at h1; simp [h1])
  have at2 : ∀ j (h1 : j < its2.toArray.size), ∃ t, its2.toArray[j] = .int (ms.getD j 0) t := fun j h1 => PyProof.Rows.IntsAre.int_at i2 _ _ (by simp at h1; simp [h1])
  have R := Ob.RcOp.tuples_ge (A := X.A) (s := s) (e := fun j => decide (ns.getD j 0 = ms.getD j 0)) (r := fun j => decide (ms.getD j 0 ≤ ns.getD j 0)) p1 p2 hu (fun j h1 h2 => by
    obtain ⟨t, et⟩ := at1 j h1
    obtain ⟨t', et'⟩ := at2 j h2
    rw [et, et']
    have z : (ns.getD j 0 == ms.getD j 0) = decide (ns.getD j 0 = ms.getD j 0) := by
      by_cases q : ns.getD j 0 = ms.getD j 0
      · rw [decide_eq_true q]; exact beq_iff_eq.mpr q
      · rw [decide_eq_false q]; exact beq_eq_false_iff_ne.mpr q
    rw [← z]
    exact SeqAt.EqAt.int_int _ _ _ _) (fun j h1 h2 _ => by
    obtain ⟨t, et⟩ := at1 j h1
    obtain ⟨t', et'⟩ := at2 j h2
    rw [et, et']
    exact Ob.RcOp.ge_int _ _ _ _)
  rw [e1, e2, lexAt_ge] at R
  have z : wpAny (model X.prog X.w) X.A (compareOp .GtE (.ref a) (.ref b)) (EP X pins σ Q) X.xe s := R X.prog X.w X.xe (EP X pins σ Q) ⟨.bl _, H, I, rfl, q⟩
  exact z
/-- int or tuple compared; `f` of ints, `g` of tuples -/
def oCmp2 (f : Int → Int → Bool) (g : List Int → List Int → Bool) : D2 := fun x y S post => (match x, y with
  | .int i, .int j => post (.bl (f i j)) S
  | _, _ => False) ∨ ∃ ns ms : List Int, x = .tup (ns.map .int) ∧ y = .tup (ms.map .int) ∧ post (.bl (g ns ms)) S
def oLe2 : D2 := oCmp2 (fun i j => decide (i ≤ j)) fun ns ms => !HT.lexLt ms ns
def oGe2 : D2 := oCmp2 (fun i j => decide (j ≤ i)) fun ns ms => !HT.lexLt ns ms
def rLe2 (K : PySem.W.Frag) : R2 := fun x y H Q => rI0 (fun i j => .bl (decide (i ≤ j))) x y H Q ∨ rLeT K x y H Q
def rGe2 (K : PySem.W.Frag) : R2 := fun x y H Q => rI0 (fun i j => .bl (decide (j ≤ i))) x y H Q ∨ rGeT K x y H Q
theorem op_le2 {X : Cx} (hu : X.A.units + 64 < cLine) : OpR X (compareOp .LtE) (rLe2 X.K) := OpR.or op_le (op_leT (by omega))
theorem op_ge2 {X : Cx} (hu : X.A.units + 64 < cLine) : OpR X (compareOp .GtE) (rGe2 X.K) := OpR.or op_ge (op_geT (by omega))
theorem rul_le2 {K : PySem.W.Frag} : Rul2 K oLe2 (rLe2 K) := by
  intro H A S d1 d2 v1 v2 post Q s r1 r2 h k
  rcases h with h | ⟨ns, ms, rfl, rfl, p⟩
  · cases d1 <;> cases d2 <;> try exact False.elim h
    rename_i i j
    cases (show v1 = .int i from r1)
    cases (show v2 = .int j from r2)
    exact .inl ⟨i, j, rfl, rfl, k.now (d := .bl _) s rfl h⟩
  · obtain ⟨a, us, e1, h1, w1⟩ := r1
    obtain ⟨b, ws, e2, h2, w2⟩ := r2
    have q1 := rels_int w1
    have q2 := rels_int w2
    subst q1 q2
    exact .inr ⟨a, b, ns, ms, e1, e2, h1.sq, h2.sq, by rw [lexAt_le]; exact k.now (d := .bl _) s rfl p⟩
theorem rul_ge2 {K : PySem.W.Frag} : Rul2 K oGe2 (rGe2 K) := by
  intro H A S d1 d2 v1 v2 post Q s r1 r2 h k
  rcases h with h | ⟨ns, ms, rfl, rfl, p⟩
  · cases d1 <;> cases d2 <;> try exact False.elim h
    rename_i i j
    cases (show v1 = .int i from r1)
    cases (show v2 = .int j from r2)
    exact .inl ⟨i, j, rfl, rfl, k.now (d := .bl _) s rfl h⟩
  · obtain ⟨a, us, e1, h1, w1⟩ := r1
    obtain ⟨b, ws, e2, h2, w2⟩ := r2
    have q1 := rels_int w1
    have q2 := rels_int w2
    subst q1 q2
    exact .inr ⟨a, b, ns, ms, e1, e2, h1.sq, h2.sq, k.now (d := .bl _) s rfl p⟩
theorem go_leI {i j : Int} {S : Store} {post : DK} (h : post (.bl (decide (i ≤ j))) S) : oLe2 (.int i) (.int j) S post := .inl h
theorem go_geI {i j : Int} {S : Store} {post : DK} (h : post (.bl (decide (j ≤ i))) S) : oGe2 (.int i) (.int j) S post := .inl h
theorem go_leT {ns ms : List Int} {S : Store} {post : DK} (h : post (.bl (!HT.lexLt ms ns)) S) : oLe2 (.tup (ns.map .int)) (.tup (ms.map .int)) S post := .inr ⟨ns, ms, rfl, rfl, h⟩
theorem go_geT {ns ms : List Int} {S : Store} {post : DK} (h : post (.bl (!HT.lexLt ns ms)) S) : oGe2 (.tup (ns.map .int)) (.tup (ms.map .int)) S post := .inr ⟨ns, ms, rfl, rfl, h⟩
end DL
namespace KA
open PySem PySem.Spec PyProof.Rows L2 DL
instance noT : HasT := ⟨[]⟩
def topS (i : Nat) : Stmt := PySem.Challenge.pw_onlyforced_k04_sorts_of_pairs.main.body.getD i (.Pass ⟨0, 0, 0, 0⟩)
abbrev s_ltake : Stmt := topS 16
theorem sc_ltake : FnScope ["jar", "top", "drawn"] ["jar", "top"] (defScope s_ltake) := ⟨rfl, rfl, rfl, by decide +kernel, rfl, by decide +kernel, by decide +kernel⟩
abbrev s_lone : Stmt := topS 17
theorem sc_lone : FnScope ["jar", "things"] ["jar", "things"] (defScope s_lone) := ⟨rfl, rfl, rfl, by decide +kernel, rfl, by decide +kernel, by decide +kernel⟩
abbrev s_lbent_pairs : Stmt := topS 30
theorem sc_lbent_pairs : FnScope ["jar", "pairs", "at", "way", "x", "y", "odd"] ["jar", "pairs"] (defScope s_lbent_pairs) := ⟨rfl, rfl, rfl, by decide +kernel, rfl, by decide +kernel, by decide +kernel⟩
abbrev s_counted : Stmt := topS 11
theorem sc_counted : FnScope ["counts", "many", "number", "count"] ["counts", "many"] (defScope s_counted) := ⟨rfl, rfl, rfl, by decide +kernel, rfl, by decide +kernel, by decide +kernel⟩
abbrev s_either : Stmt := topS 12
theorem sc_either : FnScope ["firsts", "seconds", "a", "b"] ["firsts", "seconds"] (defScope s_either) := ⟨rfl, rfl, rfl, by decide +kernel, rfl, by decide +kernel, by decide +kernel⟩
abbrev s_counts : Stmt := topS 10
theorem sc_counts : FnScope ["numbers", "counts", "number"] ["numbers"] (defScope s_counts) := ⟨rfl, rfl, rfl, by decide +kernel, rfl, by decide +kernel, by decide +kernel⟩
abbrev s_plain_number : Stmt := topS 4
theorem sc_plain_number : FnScope ["thing"] ["thing"] (defScope s_plain_number) := ⟨rfl, rfl, rfl, by decide +kernel, rfl, by decide +kernel, by decide +kernel⟩
abbrev s_plain_pair : Stmt := topS 5
theorem sc_plain_pair : FnScope ["thing"] ["thing"] (defScope s_plain_pair) := ⟨rfl, rfl, rfl, by decide +kernel, rfl, by decide +kernel, by decide +kernel⟩
abbrev s_number_pair : Stmt := topS 8
theorem sc_number_pair : FnScope ["thing", "part"] ["thing"] (defScope s_number_pair) := ⟨rfl, rfl, rfl, by decide +kernel, rfl, by decide +kernel, by decide +kernel⟩
abbrev s_rises : Stmt := topS 6
theorem sc_rises : FnScope ["parts", "one", "two"] ["parts"] (defScope s_rises) := ⟨rfl, rfl, rfl, by decide +kernel, rfl, by decide +kernel, by decide +kernel⟩
abbrev s_are_pairs : Stmt := topS 9
theorem sc_are_pairs : FnScope ["thing", "part"] ["thing"] (defScope s_are_pairs) := ⟨rfl, rfl, rfl, by decide +kernel, rfl, by decide +kernel, by decide +kernel⟩
abbrev s_sort_of : Stmt := topS 13
theorem sc_sort_of : FnScope ["pairs", "firsts", "pair", "seconds", "many"] ["pairs"] (defScope s_sort_of) := ⟨rfl, rfl, rfl, by decide +kernel, rfl, by decide +kernel, by decide +kernel⟩
abbrev s_lis_refused : Stmt := topS 31
theorem sc_lis_refused : FnScope ["thing", "e"] ["thing"] (defScope s_lis_refused) := ⟨rfl, rfl, rfl, by decide +kernel, rfl, by decide +kernel, by decide +kernel⟩
abbrev s_lmixed : Stmt := topS 18
theorem sc_lmixed : FnScope ["jar", "things", "left_over", "found", "place"] ["jar", "things"] (defScope s_lmixed) := ⟨rfl, rfl, rfl, by decide +kernel, rfl, by decide +kernel, by decide +kernel⟩
abbrev s_lrenaming : Stmt := topS 29
theorem sc_lrenaming : FnScope ["jar", "numbers", "calls", "k"] ["jar", "numbers"] (defScope s_lrenaming) := ⟨rfl, rfl, rfl, by decide +kernel, rfl, by decide +kernel, by decide +kernel⟩
abbrev s_lmoved : Stmt := topS 20
theorem sc_lmoved : FnScope ["x", "y", "z", "i"] ["x", "y", "z"] (defScope s_lmoved) := ⟨rfl, rfl, rfl, by decide +kernel, rfl, by decide +kernel, by decide +kernel⟩
abbrev s_lfirst_three : Stmt := topS 21
theorem sc_lfirst_three : FnScope ["kept", "known", "page", "place", "x", "z"] ["kept"] (defScope s_lfirst_three) := ⟨rfl, rfl, rfl, by decide +kernel, rfl, by decide +kernel, by decide +kernel⟩
abbrev s_lis_writable : Stmt := topS 22
theorem sc_lis_writable : FnScope ["kept"] ["kept"] (defScope s_lis_writable) := ⟨rfl, rfl, rfl, by decide +kernel, rfl, by decide +kernel, by decide +kernel⟩
abbrev s_lhas_either : Stmt := topS 23
theorem sc_lhas_either : FnScope ["pairs", "a", "b", "pair"] ["pairs", "a", "b"] (defScope s_lhas_either) := ⟨rfl, rfl, rfl, by decide +kernel, rfl, by decide +kernel, by decide +kernel⟩
abbrev s_lsort : Stmt := topS 24
theorem sc_lsort : FnScope ["pairs", "firsts", "pair", "seconds", "a", "b"] ["pairs"] (defScope s_lsort) := ⟨rfl, rfl, rfl, by decide +kernel, rfl, by decide +kernel, by decide +kernel⟩
abbrev s_lproduct : Stmt := topS 26
theorem sc_lproduct : FnScope ["ones", "twos", "found", "x", "y"] ["ones", "twos"] (defScope s_lproduct) := ⟨rfl, rfl, rfl, by decide +kernel, rfl, by decide +kernel, by decide +kernel⟩
abbrev s_lsome : Stmt := topS 19
theorem sc_lsome : FnScope ["jar", "things", "thing"] ["jar", "things"] (defScope s_lsome) := ⟨rfl, rfl, rfl, by decide +kernel, rfl, by decide +kernel, by decide +kernel⟩
abbrev s_lformed_pairs : Stmt := topS 27
theorem sc_lformed_pairs : FnScope ["jar", "ones", "twos", "every", "way", "others", "k", "a", "b", "pair", "found"] ["jar", "ones", "twos"] (defScope s_lformed_pairs) := ⟨rfl, rfl, rfl, by decide +kernel, rfl, by decide +kernel, by decide +kernel⟩
abbrev s_ldrawn_numbers : Stmt := topS 25
theorem sc_ldrawn_numbers : FnScope ["jar", "most", "found", "at", "turn"] ["jar", "most"] (defScope s_ldrawn_numbers) := ⟨rfl, rfl, rfl, by decide +kernel, rfl, by decide +kernel, by decide +kernel⟩
abbrev s_ldrawn_pairs : Stmt := topS 28
theorem sc_ldrawn_pairs : FnScope ["jar", "ones", "twos", "way", "pairs", "gone", "pair", "others"] ["jar"] (defScope s_ldrawn_pairs) := ⟨rfl, rfl, rfl, by decide +kernel, rfl, by decide +kernel, by decide +kernel⟩
abbrev s_lpool : Stmt := topS 15
theorem sc_lpool : FnScope ["script", "k", "cell", "big", "mixed"] ["script", "k"] (defScope s_lpool) := ⟨rfl, rfl, rfl, by decide +kernel, rfl, by decide +kernel, by decide +kernel⟩
abbrev s_law : Stmt := topS 32
theorem sc_law : FnScope ["script", "first", "second", "pairs", "due", "turned_about", "x", "y", "ones", "pair", "twos", "renamed"] ["script"] (defScope s_law) := ⟨rfl, rfl, rfl, by decide +kernel, rfl, by decide +kernel, by decide +kernel⟩
/-- where the classes stand -/
structure CL where
  c_BadPairs : Addr
  c_Refused : Addr
structure Clm (mg : Str → Option Value) (cl : CL) : Prop where
  g_BadPairs : mg "BadPairs" = some (.ref cl.c_BadPairs)
  g_Refused : mg "Refused" = some (.ref cl.c_Refused)
structure Clf (K : PySem.W.Frag) (cl : CL) : Prop where
  t_BadPairs : CauC K cl.c_BadPairs
  h_Refused : HanC K cl.c_Refused
  h_BadPairs : HanC K cl.c_BadPairs
  s_BadPairs_Refused : PySem.W.subIn K (.ref cl.c_BadPairs) (.ref cl.c_Refused) = some true
  s_BadPairs_BadPairs : PySem.W.subIn K (.ref cl.c_BadPairs) (.ref cl.c_BadPairs) = some true
  v_BadPairs : PySem.W.subIn K (.ref cl.c_BadPairs) (.type "ValueError") = some true
abbrev s_init : Stmt := clsFirst (topS 1)
theorem sc_init : FnScope ["self", "what"] ["self", "what"] (defScope s_init) := ⟨rfl, rfl, rfl, by decide +kernel, rfl, by decide +kernel, by decide +kernel⟩
theorem ok_initC {P : Program} {w : World} {K : PySem.W.Frag} {mg : Str → Option Value} {base : Heap} {f : Addr} {fd : FuncData} (F : Fun K "__init__" "Refused.__init__" s_init f fd) : FnOk P w K mg base CX0 1 f fd ["self", "what"] (spInit K) :=
  ok_init F sc_init fun cdv A outer s H E => pss_one (ps_ost (pv 0) (pv 1))
structure Bl (mg : Str → Option Value) : Prop where
  int_ : mg "int" = none
  len_ : mg "len" = none
  sorted_ : mg "sorted" = none
  type_ : mg "type" = none
  isinstance_ : mg "isinstance" = none
  tuple_ : mg "tuple" = none
  all_ : mg "all" = none
  zip_ : mg "zip" = none
  repr_ : mg "repr" = none
  range_ : mg "range" = none
  list_ : mg "list" = none
  dict_ : mg "dict" = none
  min_ : mg "min" = none
  max_ : mg "max" = none
abbrev jar (x y : Int) : Ent := .lst [.int x, .int y]
def JOk (x y : Int) : Prop := 0 ≤ x ∧ 0 ≤ y ∧ y < 2147483647
theorem mod_in (a : Int) {m : Int} (h : 0 < m) : 0 ≤ a % m ∧ a % m < m := ⟨Int.emod_nonneg _ (by omega), Int.emod_lt_of_pos _ h⟩
abbrev endsD (S : Store) (post : DK) : DEnds := ⟨fun _ S' => fnEnd S post .non S', fnEnd S post, fun _ _ => False, fun _ _ => False, fun _ _ _ _ => False⟩
local macro_rules | `(tactic| walk_at "dgo") => `(tactic| simp only [dRevT, go_mul2_int, go_mul2_tup, go_mul3_int, go_mul3_tup, go_sc, dPar2, dTru, go_istup, go_islr, dSl, dPart, dNoPart, go_sl_tup, go_sl_lr, go_pop, go_popK, go_ext, go_extK, dAugS, go_augK, dChain, dIsTy, dTyIs, oDivW, go_add_tup, go_add2_int, go_add2_lr, go_zip2, go_zip2K, go_enum1, go_enum1K, go_tupA, dRaise, dTry, dRetX, dDropX, dAsgX, dToX, dToXs, dCallX, dConsX, dCallAX, dWhatS, dIsX, endsX, noX, D.lr.injEq, D.int.injEq, D.bl.injEq, D.str.injEq, D.tup.injEq, reduceCtorEq, false_and, and_false, exists_false, or_false, false_or, and_assoc, exists_and_left, exists_and_right, dSeq, dAsg, dRet, dRetN, dDrop, dIfS, dNext, dVar, dC, DL.gName, DL.gSub, dOp, dUn, dCons, dNil, dTup, dLst, dCB, dTest, dAnd, dOr, dNot, dAndV, dOrV, dNotV, dIf, dYes, dCall, dCallK, dGc0, dPar3, oSub, oMul, oMod, oDiv, oPow, oLt, oLe, oGt, oGe, oNeg, cMin, cMax, startD, jar, endsD, tI, dE, tE,
  go_lc, go_for, go_seq, go_rng1, go_rng1K, go_rng2, go_rng2K, go_ez, go_ezK, go_zip3, go_zip3K,
  go_ix_lr, go_ix_tup, go_ix_rl, go_at0, go_at1, go_at2, go_ix0, go_ix1, go_ix20, go_ix21, go_int_int, go_int_bl, go_2c, go_2I, go_2J, go_1J, go_add, go_add_lr, go_set, go_len, go_tuple, go_list, go_eq_int, go_eq_bl, go_eq_str, go_gtup, go_gztup, go_gcons, go_gnil, go_bl, go_app, go_app0, go_app1, seqOf_tup, seqOf_rl, seqOf_lr,
  List.getElem?_cons_zero, List.getElem?_cons_succ, List.map_cons, List.map_nil, List.length_cons, List.length_nil, List.cons_append, List.nil_append, List.replicate_succ, List.replicate_zero, Nat.reduceAdd, Nat.reduceSub, Nat.zero_add, Option.some.injEq, Ent.lst.injEq, exists_eq_left', exists_eq_left, exists_eq', List.set_cons_zero, List.set_cons_succ, true_and, and_true, Bool.false_xor, Bool.true_xor, decide_eq_true_eq, ite_true, ite_false, Bool.false_eq_true, List.length_map,
  wipeD, below, belows, belowE, belows_ints, List.take_zero, List.take_succ_cons, List.take_nil, List.all_nil, List.all_cons, Bool.and_true, Bool.and_self])
local macro_rules | `(tactic| walk_at "dgo1") => `(tactic| simp only [dRevT, go_mul2_int, go_mul2_tup, go_mul3_int, go_mul3_tup, go_sc, dPar2, dTru, go_istup, go_islr, dSl, dPart, dNoPart, go_sl_tup, go_sl_lr, go_pop, go_popK, go_ext, go_extK, dAugS, go_augK, dChain, dIsTy, dTyIs, oDivW, go_add_tup, go_add2_int, go_add2_lr, go_zip2, go_zip2K, go_enum1, go_enum1K, go_tupA, dRaise, dTry, dRetX, dDropX, dAsgX, dToX, dToXs, dCallX, dConsX, dCallAX, dWhatS, dIsX, endsX, noX, D.lr.injEq, D.int.injEq, D.bl.injEq, D.str.injEq, D.tup.injEq, reduceCtorEq, false_and, and_false, exists_false, or_false, false_or, and_assoc, exists_and_left, exists_and_right, dAsg, dRet, dRetN, dDrop, dIfS, dNext, dVar, dC, DL.gName, DL.gSub, dOp, dUn, dCons, dNil, dTup, dLst, dCB, dTest, dAnd, dOr, dNot, dAndV, dOrV, dNotV, dIf, dYes, dCall, dCallK, dGc0, dPar3, oSub, oMul, oMod, oDiv, oPow, oLt, oLe, oGt, oGe, oNeg, cMin, cMax, startD, jar, endsD, tI, dE, tE,
  go_lc, go_for, go_seq, go_rng1, go_rng1K, go_rng2, go_rng2K, go_ez, go_ezK, go_zip3, go_zip3K,
  go_ix_lr, go_ix_tup, go_ix_rl, go_at0, go_at1, go_at2, go_ix0, go_ix1, go_ix20, go_ix21, go_int_int, go_int_bl, go_2c, go_2I, go_2J, go_1J, go_add, go_add_lr, go_set, go_len, go_tuple, go_list, go_eq_int, go_eq_bl, go_eq_str, go_gtup, go_gztup, go_gcons, go_gnil, go_bl, go_app, go_app0, go_app1, seqOf_tup, seqOf_rl, seqOf_lr,
  List.getElem?_cons_zero, List.getElem?_cons_succ, List.map_cons, List.map_nil, List.length_cons, List.length_nil, List.cons_append, List.nil_append, List.replicate_succ, List.replicate_zero, Nat.reduceAdd, Nat.reduceSub, Nat.zero_add, Option.some.injEq, Ent.lst.injEq, exists_eq_left', exists_eq_left, exists_eq', List.set_cons_zero, List.set_cons_succ, true_and, and_true, Bool.false_xor, Bool.true_xor, decide_eq_true_eq, ite_true, ite_false, Bool.false_eq_true, List.length_map,
  wipeD, below, belows, belowE, belows_ints, List.take_zero, List.take_succ_cons, List.take_nil, List.all_nil, List.all_cons, Bool.and_true, Bool.and_self])
/-! _law_take -/
def b_ltake : DS :=
  (dSeq (dIfS (dTest (dOp oGt (dOp oIx (dVar 0) (dC (.int 0))) (dC (.int 0)))) (dSeq (dAsg (dOp oMod (dCB cInt (dCons (dOp oIx (dVar 0) (dC (.int 0))) dNil)) (dVar 1)) (gName 2))
    (dSeq (dAsg (dOp oDivW (dOp oIx (dVar 0) (dC (.int 0))) (dVar 1)) (gSub (dVar 0) (dC (.int 0)) setSeq))
    (dRet (dVar 2)))) dNext)
    (dSeq (dAsg (dOp oMod (dCB cInt (dCons (dOp oAdd2 (dOp oMul (dOp oIx (dVar 0) (dC (.int 1))) (dC (.int 39373))) (dC (.int 7))) dNil)) (dC (.int 2147483647))) (gSub (dVar 0) (dC (.int 1)) setSeq))
    (dRet (dOp oMod (dCB cInt (dCons (dOp oDivW (dOp oMod (dCB cInt (dCons (dOp oMul (dOp oIx (dVar 0) (dC (.int 1))) (dOp oIx (dVar 0) (dC (.int 1)))) dNil)) (dC (.int 2147483629))) (dC (.int 32))) dNil)) (dVar 1)))))
def sp_ltake : DSp := fun ds S post => ∃ top x y, ds = [.lr 0, .int top] ∧ S = [jar x y] ∧ JOk x y ∧ 1 ≤ top ∧ top < 4611686018427387904 ∧ ∀ r x' y', JOk x' y' → 0 ≤ r → r < top → post (.int r) [jar x' y']
theorem len_ltake : ∀ ds S post, sp_ltake ds S post → ds.length = 2 := by
  rintro _ _ _ ⟨_, _, _, rfl, _⟩
  rfl
theorem end_jar {x y x' y' : Int} {d : D} {post : DK} (hd : below 0 d = true) (h : post d [jar x' y']) : fnEnd [jar x y] post d [jar x' y'] := end_same rfl (below_mono (Nat.zero_le _) d hd) (by simp [belowE, belows, below]) h
theorem hd_ltake : ∀ ds S post, sp_ltake ds S post → b_ltake (endsD S post) (startD ["jar", "top", "drawn"] ds) S := by
  rintro ds S post ⟨top, x, y, rfl, rfl, ⟨hx, hy, hy2⟩, h1, h2, h⟩
  unfold b_ltake
  walk_at "dgo"
  split
  · exact ⟨by omega, ⟨by omega, by omega⟩, end_jar (by simp [below]) (h _ _ _ ⟨Int.ediv_nonneg hx (by omega), hy, hy2⟩ (mod_in _ (by omega)).1 (mod_in _ (by omega)).2)⟩
  · have q := mod_in (y * 39373 + 7) (m := 2147483647) (by decide)
    generalize (y * 39373 + 7) % 2147483647 = z at q ⊢
    refine ⟨.inl ⟨by omega, by omega⟩, by decide, .inl ⟨by omega, by omega⟩, by decide, ⟨by decide, by decide⟩, by omega, end_jar (by simp [below]) (h _ _ _ ⟨hx, q.1, q.2⟩ (mod_in _ (by omega)).1 (mod_in _ (by omega)).2)⟩
theorem call_take {S : Store} {j : Nat} {x y top : Int} {post : DK} (hj : S[j]? = some (jar x y)) (hk : JOk x y) (h1 : 1 ≤ top) (h2 : top < 4611686018427387904) (h : ∀ r x' y', JOk x' y' → 0 ≤ r → r < top → post (.int r) (S.set j (jar x' y'))) : callD sp_ltake [.lr j, .int top] S post :=
  call_one hj (by simp [belows, below]) (by simp [belowE, belows, below]) ⟨top, x, y, rfl, rfl, hk, h1, h2, fun r x' y' k a b => by simpa [ren, setAll, renE, rens] using h r x' y' k a b⟩
theorem ok_ltake {P : Program} {w : World} {K : PySem.W.Frag} {mg : Str → Option Value} {base : Heap} {f : Addr} {fd : FuncData} (F : Fun K "_law_take" "_law_take" s_ltake f fd) (W : Bl mg) :
    FnG P w K mg base CX0 1 f fd ["jar", "top"] (spL K sp_ltake) := by
  refine fn_okG (tb := b_ltake) F sc_ltake len_ltake (fun cdv A outer s H E hgd hr => ?_) hd_ltake
  have sc := sc_ltake
  have hu := hr.units
  have hu1 := Nat.lt_of_le_of_lt (Nat.add_le_add_left (show 1 ≤ 64 by decide) _) hu
  have hu65 := units65 hr
  exact (dss_cons (ds_if (dt_cmp op_gt rul_gt (de_ix ix_seq rul_ix (de_var 0) de_int) de_int (nomark _)) (dss_cons (ds_set 2 sc.nd (de_op op_mod rul_mod (de_callTy call_int1 rul_int (by rfl) W.int_ PyProof.Rows.boot_int (da_cons (de_ix ix_seq rul_ix (de_var 0) de_int) da_nil)) (de_var 1)))
      (dss_cons (ds_asg (de_op op_fdivW rul_divW (de_ix ix_seq rul_ix (de_var 0) de_int) (de_var 1)) (dg_sub (de_var 0) de_int set_list rul_set))
      (dss_one (ds_ret (de_var 2))))) dss_nil)
      (dss_cons (ds_asg (de_op op_mod rul_mod (de_callTy call_int1 rul_int (by rfl) W.int_ PyProof.Rows.boot_int (da_cons (de_op op_add4 rul_add4 (de_op op_mul rul_mul (de_ix ix_seq rul_ix (de_var 0) de_int) de_int) de_int) da_nil)) de_int) (dg_sub (de_var 0) de_int set_list rul_set))
      (dss_one (ds_ret (de_op op_mod rul_mod (de_callTy call_int1 rul_int (by rfl) W.int_ PyProof.Rows.boot_int (da_cons (de_op op_fdivW rul_divW (de_op op_mod rul_mod (de_callTy call_int1 rul_int (by rfl) W.int_ PyProof.Rows.boot_int (da_cons (de_op op_mul rul_mul (de_ix ix_seq rul_ix (de_var 0) de_int) (de_ix ix_seq rul_ix (de_var 0) de_int)) da_nil)) de_int) de_int) da_nil)) (de_var 1))))))
/-! _law_one -/
def b_lone : DS :=
  (dRet (dOp oIx (dVar 1) (dCall sp_ltake (dCons (dVar 0) (dCons (dCB cLen (dCons (dVar 1) dNil)) dNil)))))
def sp_lone : DSp := fun ds S post => ∃ x y xs, ds = [.lr 0, .lr 1] ∧ S = [jar x y, .lst xs] ∧ JOk x y ∧ xs ≠ [] ∧ xs.length ≤ 100000 ∧ belows 0 xs = true ∧ ∀ d ∈ xs, ∀ x' y', JOk x' y' → post d [jar x' y', .lst xs]
theorem len_lone : ∀ ds S post, sp_lone ds S post → ds.length = 2 := by
  rintro _ _ _ ⟨_, _, _, rfl, _⟩
  rfl
theorem hd_lone : ∀ ds S post, sp_lone ds S post → b_lone (endsD S post) (startD ["jar", "things"] ds) S := by
  rintro ds S post ⟨x, y, xs, rfl, rfl, hj, h0, h1, hb, h⟩
  unfold b_lone
  walk_at "dgo"
  have hp : 0 < xs.length := List.length_pos_iff.mpr h0
  refine call_take (j := 0) rfl hj (by omega) (by omega) fun r x' y' hj' a b => ?_
  walk_at "dgo"
  have hr : r.toNat < xs.length := by omega
  refine ⟨xs[r.toNat], atI_of a (List.getElem?_eq_getElem hr), ?_⟩
  have hm : xs[r.toNat] ∈ xs := List.getElem_mem hr
  exact end_same rfl (below_mono (Nat.zero_le _) _ (belows_iff.mp hb _ hm)) (by simp [belowE, belows, below, belows_mono (Nat.zero_le _) _ hb]) (h _ hm x' y' hj')
theorem call_lone {S : Store} {j k : Nat} {x y : Int} {xs : List D} {post : DK} (hjk : j ≠ k) (hj : S[j]? = some (jar x y)) (hk : S[k]? = some (.lst xs)) (ok : JOk x y) (h0 : xs ≠ []) (h1 : xs.length ≤ 100000) (hb : belows 0 xs = true) (h : ∀ d ∈ xs, ∀ x' y', JOk x' y' → post d (S.set j (jar x' y'))) : callD sp_lone [.lr j, .lr k] S post := by
  refine call_two hjk hj hk (by simp [belows]) (by simp [belowE, belows, below]) hb ⟨x, y, xs, rfl, rfl, ok, h0, h1, hb, fun d hd x' y' ok' => ?_⟩
  have e : (S.set j (jar x' y')).set k (.lst xs) = S.set j (jar x' y') := by
    have hkl := (List.getElem?_eq_some_iff.mp hk).1
    have : (S.set j (jar x' y'))[k]? = some (.lst xs) := by
      rw [List.getElem?_set_ne hjk]
      exact hk
    obtain ⟨hl, he⟩ := List.getElem?_eq_some_iff.mp this
    rw [← he]
    exact List.set_getElem_self hl
  simp only [List.take_succ_cons, List.take_zero, List.drop_succ_cons, List.drop_zero, List.map_cons, List.map_nil, setAll, List.append_nil]
  rw [ren_below _ d (belows_iff.mp hb d hd), renE_below _ (jar x' y') (by simp [belowE, belows, below]), renE_below _ (.lst xs) hb, e]
  exact h d hd x' y' ok'
theorem ok_lone {P : Program} {w : World} {K : PySem.W.Frag} {mg : Str → Option Value} {base : Heap} {f : Addr} {fd : FuncData} (F : Fun K "_law_one" "_law_one" s_lone f fd) (W : Bl mg) (C_ltake : CalG P w K mg base 1 "_law_take" sp_ltake) :
    FnG P w K mg base CX0 2 f fd ["jar", "things"] (spL K sp_lone) := by
  refine fn_okG (tb := b_lone) F sc_lone len_lone (fun cdv A outer s H E hgd hr => ?_) hd_lone
  have sc := sc_lone
  have hu := hr.units
  have hu1 := Nat.lt_of_le_of_lt (Nat.add_le_add_left (show 1 ≤ 64 by decide) _) hu
  have hu65 := units65 hr
  exact (dss_one (ds_ret (de_ix ix_seq rul_ix (de_var 1) (de_cal C_ltake hgd hr (by decide) (by rfl) (da_cons (de_var 0) (da_cons (de_callB call_len_seq rul_len (by rfl) W.len_ PySem.boot_len (da_cons (de_var 1) da_nil)) da_nil))))))
/-! _law_pool -/
def b_lpool : DS :=
  (dSeq (dAsg (dC (.int 0)) (gName 2))
    (dSeq (dIfS (dTest (dOp oLt (dVar 1) (dCB cLen (dCons (dVar 0) dNil)))) (dAsg (dOp oIx (dVar 0) (dVar 1)) (gName 2)) (dIfS (dTest (dOp (oEq true) (dVar 0) (dLst dNil))) (dAsg (dOp oIx (dVar 0) (dC (.int 0))) (gName 2)) dNext))
    (dSeq (dAsg (dCB cMax (dCons (dCB cInt (dCons (dVar 2) dNil)) (dCons (dCB cInt (dCons (dOp oSub (dUn oNeg (dC (.int 1))) (dVar 2)) dNil)) dNil))) (gName 3))
    (dSeq (dAsg (dOp oMod (dCB cInt (dCons (dOp oMul (dOp oAdd2 (dOp oAdd2 (dOp oAdd2 (dOp oMod (dCB cInt (dCons (dVar 3) dNil)) (dC (.int 2147483629))) (dOp oMul (dOp oMul (dC (.int 7919)) (dVar 1)) (dVar 1))) (dOp oMul (dC (.int 31)) (dVar 1))) (dC (.int 17))) (dC (.int 48271))) dNil)) (dC (.int 2147483647))) (gName 4))
    (dRet (dLst (dCons (dOp oMul (dVar 3) (dCB cInt (dCons (dAndV (dOp oGe (dVar 3) (dOp oPow (dC (.int 10)) (dC (.int 18)))) (dOp oLt (dVar 1) (dCB cLen (dCons (dVar 0) dNil)))) dNil))) (dCons (dVar 4) dNil))))))))
def sp_lpool : DSp := fun ds S post => ∃ (ns : List Int) (k : Int), ds = [.rl (ns.map .int), .int k] ∧ S = [] ∧ ns.length ≤ 1000 ∧ 0 ≤ k ∧ k ≤ 1000 ∧ ∀ x y, JOk x y → post (.lr 0) [jar x y]
theorem len_lpool : ∀ ds S post, sp_lpool ds S post → ds.length = 2 := by
  rintro _ _ _ ⟨_, _, rfl, _⟩
  rfl
theorem pool_jar {post : DK} (h : ∀ x y, JOk x y → post (.lr 0) [jar x y]) {S1 : Store} {a b c : Int} (ha : 0 ≤ a) (hc : c = 0 ∨ c = 1) : CMul a c ∧ 2 ≤ 100000 ∧ fnEnd [] post (.lr S1.length) (S1 ++ [.lst [.int (a * c), .int (b % 2147483647)]]) := by
  have q := mod_in b (m := 2147483647) (by decide)
  have e : 0 ≤ a * c := by
    rcases hc with rfl | rfl
    · rw [Int.mul_zero]; exact Int.le_refl _
    · rw [Int.mul_one]; exact ha
  refine ⟨.inr ?_, by decide, end_new0 (by simp [belowE, belows, below]) (h _ _ ⟨e, q.1, q.2⟩)⟩
  rcases hc with rfl | rfl <;> decide
theorem hd_lpool : ∀ ds S post, sp_lpool ds S post → b_lpool (endsD S post) (startD ["script", "k", "cell", "big", "mixed"] ds) S := by
  rintro ds S post ⟨ns, k, rfl, rfl, hn, h1, h2, h⟩
  have one : ∀ p : Prop, [Decidable p] → (if p then (1 : Int) else 0) = 0 ∨ (if p then (1 : Int) else 0) = 1 := fun p _ => by
    by_cases hp : p
    · exact .inr (if_pos hp)
    · exact .inl (if_neg hp)
  have c1 : CMul 7919 k := .inl ⟨by decide, by decide⟩
  have c2 : CMul (7919 * k) k := .inr ⟨by omega, by omega⟩
  have c3 : CMul 31 k := .inl ⟨by decide, by decide⟩
  have c4 : ∀ z : Int, CMul z 48271 := fun z => .inr ⟨by decide, by decide⟩
  have c5 : CPow 10 18 := ⟨by decide, by decide, by decide⟩
  unfold b_lpool
  walk_at "dgo"
  split
  · rename_i hk
    have hk' : k.toNat < ns.length := by omega
    refine ⟨.int ns[k.toNat], atI_of h1 (by rw [List.getElem?_map, List.getElem?_eq_getElem hk']; rfl), ?_⟩
    walk_at "dgo"
    refine ⟨by decide, c1, c2, c3, c4 _, by decide, c5, ?_⟩
    repeat' split
    all_goals first | exact pool_jar h (S1 := []) (by omega) (.inl rfl) | exact pool_jar h (S1 := []) (by omega) (.inr rfl) | exact pool_jar h (S1 := []) (by omega) (one _)
  · refine ⟨by decide, oEq_rl (ys := []) rfl ?_⟩
    walk_at "dgo"
    split
    · rename_i hns
      cases ns with
      | nil => simp at hns
      | cons c cs =>
        refine ⟨.int c, go_at0, ?_⟩
        walk_at "dgo"
        refine ⟨by decide, c1, c2, c3, c4 _, by decide, c5, ?_⟩
        repeat' split
        all_goals first | exact pool_jar h (S1 := [.lst []]) (by omega) (.inl rfl) | exact pool_jar h (S1 := [.lst []]) (by omega) (.inr rfl) | exact pool_jar h (S1 := [.lst []]) (by omega) (one _)
    · refine ⟨by decide, c1, c2, c3, c4 _, by decide, c5, ?_⟩
      repeat' split
      all_goals first | exact pool_jar h (S1 := [.lst []]) (by omega) (.inl rfl) | exact pool_jar h (S1 := [.lst []]) (by omega) (.inr rfl) | exact pool_jar h (S1 := [.lst []]) (by omega) (one _)
theorem call_pool {S : Store} {ns : List Int} {k : Int} {post : DK} (hn : ns.length ≤ 1000) (h1 : 0 ≤ k) (h2 : k ≤ 1000) (h : ∀ x y, JOk x y → post (.lr S.length) (S ++ [jar x y])) : callD sp_lpool [.rl (ns.map .int), .int k] S post :=
  call_pure (by simp [belows, below, belows_ints]) ⟨ns, k, rfl, rfl, hn, h1, h2, fun x y hj => by simpa [ren, renE, rens] using h x y hj⟩
theorem ok_lpool {P : Program} {w : World} {K : PySem.W.Frag} {mg : Str → Option Value} {base : Heap} {f : Addr} {fd : FuncData} (F : Fun K "_law_pool" "_law_pool" s_lpool f fd) (W : Bl mg) :
    FnG P w K mg base CX0 1 f fd ["script", "k"] (spL K sp_lpool) := by
  refine fn_okG (tb := b_lpool) F sc_lpool len_lpool (fun cdv A outer s H E hgd hr => ?_) hd_lpool
  have sc := sc_lpool
  have hu := hr.units
  have hu1 := Nat.lt_of_le_of_lt (Nat.add_le_add_left (show 1 ≤ 64 by decide) _) hu
  have hu65 := units65 hr
  exact (dss_cons (ds_set 2 sc.nd de_int)
      (dss_cons (ds_if (dt_cmp op_lt rul_lt (de_var 1) (de_callB call_len_seq rul_len (by rfl) W.len_ PySem.boot_len (da_cons (de_var 0) da_nil)) (nomark _)) (dss_one (ds_set 2 sc.nd (de_ix ix_seq rul_ix (de_var 0) (de_var 1)))) (dss_one (ds_if (dt_cmp (op_ne2 hu) rul_ne (de_var 0) (de_lst da_nil) (nomark _)) (dss_one (ds_set 2 sc.nd (de_ix ix_seq rul_ix (de_var 0) de_int))) dss_nil)))
      (dss_cons (ds_set 3 sc.nd (de_callB (DL.cr_max rfl) rul_max (by rfl) W.max_ PyProof.Rows.boot_max (da_cons (de_callTy call_int1 rul_int (by rfl) W.int_ PyProof.Rows.boot_int (da_cons (de_var 2) da_nil)) (da_cons (de_callTy call_int1 rul_int (by rfl) W.int_ PyProof.Rows.boot_int (da_cons (de_op op_sub rul_sub (de_un un_neg rul_neg de_int) (de_var 2)) da_nil)) da_nil))))
      (dss_cons (ds_set 4 sc.nd (de_op op_mod rul_mod (de_callTy call_int1 rul_int (by rfl) W.int_ PyProof.Rows.boot_int (da_cons (de_op op_mul rul_mul (de_op op_add4 rul_add4 (de_op op_add4 rul_add4 (de_op op_add4 rul_add4 (de_op op_mod rul_mod (de_callTy call_int1 rul_int (by rfl) W.int_ PyProof.Rows.boot_int (da_cons (de_var 3) da_nil)) de_int) (de_op op_mul rul_mul (de_op op_mul rul_mul de_int (de_var 1)) (de_var 1))) (de_op op_mul rul_mul de_int (de_var 1))) de_int) de_int) da_nil)) de_int))
      (dss_one (ds_ret (de_lst (da_cons (de_op op_mul rul_mul (de_var 3) (de_callTy call_int1 rul_int (by rfl) W.int_ PyProof.Rows.boot_int (da_cons (de_and (de_cmp op_ge rul_ge (de_var 3) (de_op op_pow rul_pow de_int de_int) (nomark _)) (de_one (de_cmp op_lt rul_lt (de_var 1) (de_callB call_len_seq rul_len (by rfl) W.len_ PySem.boot_len (da_cons (de_var 0) da_nil)) (nomark _)))) da_nil))) (da_cons (de_var 4) da_nil)))))))))

/-! plain data -/
mutual
def okT : D → Bool
  | .tup ds => okTs ds
  | .non => true
  | .bl _ => true
  | .int _ => true
  | .str _ => true
  | _ => false
def okTs : List D → Bool
  | [] => true
  | d :: ds => okT d && okTs ds
end
theorem okTs_iff : ∀ {ds : List D}, okTs ds = true ↔ ∀ d ∈ ds, okT d = true
  | [] => by simp [okTs]
  | d :: ds => by simp [okTs, okTs_iff (ds := ds)]
mutual
theorem okT_below (n : Nat) : ∀ d : D, okT d = true → below n d = true
  | .tup ds, h => by
    rw [okT] at h
    rw [below]
    exact okTs_below n ds h
  | .non, _ => by rw [below] <;> simp
  | .bl _, _ => by rw [below] <;> simp
  | .int _, _ => by rw [below] <;> simp
  | .str _, _ => by rw [below] <;> simp
  | .ztup _, h => by simp [okT] at h
  | .rl _, h => by simp [okT] at h
  | .lr _, h => by simp [okT] at h
  | .exc _ _ _ _, h => by simp [okT] at h
  | .opq _, h => by simp [okT] at h
theorem okTs_below (n : Nat) : ∀ ds : List D, okTs ds = true → belows n ds = true
  | [], _ => by rw [belows]
  | d :: ds, h => by
    rw [okTs, Bool.and_eq_true] at h
    rw [belows, okT_below n d h.1, okTs_below n ds h.2]
    rfl
end
def tyN : D → String
  | .tup _ => "tuple"
  | .bl _ => "bool"
  | .int _ => "int"
  | .str _ => "str"
  | _ => "NoneType"
theorem okT_ty {S : Store} : ∀ {d : D}, okT d = true → tyD S d = some (tyN d)
  | .tup ds, h => rfl
  | .non, _ => rfl
  | .bl _, _ => rfl
  | .int _, _ => rfl
  | .str _, _ => rfl
  | .ztup _, h => by simp [okT] at h
  | .rl _, h => by simp [okT] at h
  | .lr _, h => by simp [okT] at h
  | .exc _ _ _ _, h => by simp [okT] at h
  | .opq _, h => by simp [okT] at h
theorem okT_dE (p : Int × Int) : okT (dE p) = true := by simp [okT, okTs, dE]
theorem okT_tE (ps : List (Int × Int)) : okT (tE ps) = true := by
  unfold tE
  rw [okT, okTs_iff]
  intro d hd
  obtain ⟨p, _, rfl⟩ := List.mem_map.mp hd
  exact okT_dE p
theorem kNi : kitB "NoneType" "int" = some false := by decide +kernel
theorem kNb : kitB "NoneType" "bool" = some false := by decide +kernel
theorem kNt : kitB "NoneType" "tuple" = some false := by decide +kernel
theorem kBi : kitB "bool" "int" = some true := by decide +kernel
theorem kBb : kitB "bool" "bool" = some true := by decide +kernel
theorem kBt : kitB "bool" "tuple" = some false := by decide +kernel
theorem kIi : kitB "int" "int" = some true := by decide +kernel
theorem kIb : kitB "int" "bool" = some false := by decide +kernel
theorem kIt : kitB "int" "tuple" = some false := by decide +kernel
theorem kSi : kitB "str" "int" = some false := by decide +kernel
theorem kSb : kitB "str" "bool" = some false := by decide +kernel
theorem kSt : kitB "str" "tuple" = some false := by decide +kernel
theorem kTi : kitB "tuple" "int" = some false := by decide +kernel
theorem kTb : kitB "tuple" "bool" = some false := by decide +kernel
theorem kTt : kitB "tuple" "tuple" = some true := by decide +kernel
/-! plain_number -/
def isInt : D → Bool
  | .int _ => true
  | _ => false
theorem tyN_int (d : D) : decide (tyN d = "int") = isInt d := by cases d <;> simp [tyN, isInt]
theorem tyN_no {d : D} (h : isInt d = false) : ¬ tyN d = "int" := fun e => by
  have := tyN_int d
  rw [h, decide_eq_true e] at this
  cases this
def b_plain_number : DS :=
  (dRet (dTyIs "int" (dVar 0)))
def sp_plain_number : DSp := fun ds S post => ∃ d, ds = [d] ∧ S = [] ∧ okT d = true ∧ post (.bl (isInt d)) []
theorem len_plain_number : ∀ ds S post, sp_plain_number ds S post → ds.length = 1 := by
  rintro _ _ _ ⟨_, rfl, _⟩
  rfl
theorem hd_plain_number : ∀ ds S post, sp_plain_number ds S post → b_plain_number (endsD S post) (startD ["thing"] ds) S := by
  rintro ds S post ⟨d, rfl, rfl, hd, h⟩
  unfold b_plain_number
  walk_at "dgo"
  refine ⟨_, okT_ty hd, ?_⟩
  try rw [tyN_int]
  try simp only [tyN_int]
  exact end_none (by simp [below]) h
theorem call_number {S : Store} {d : D} {post : DK} (hd : okT d = true) (h : post (.bl (isInt d)) S) : callD sp_plain_number [d] S post :=
  call_pure (by simp [belows, okT_below 0 d hd]) ⟨d, rfl, rfl, hd, by simpa [ren] using h⟩
theorem ok_plain_number {P : Program} {w : World} {K : PySem.W.Frag} {mg : Str → Option Value} {base : Heap} {f : Addr} {fd : FuncData} (F : Fun K "plain_number" "plain_number" s_plain_number f fd) (W : Bl mg) :
    FnG P w K mg base CX0 1 f fd ["thing"] (spL K sp_plain_number) := by
  refine fn_okG (tb := b_plain_number) F sc_plain_number len_plain_number (fun cdv A outer s H E hgd hr => ?_) hd_plain_number
  have sc := sc_plain_number
  have hu := hr.units
  have hu1 := Nat.lt_of_le_of_lt (Nat.add_le_add_left (show 1 ≤ 64 by decide) _) hu
  have hu65 := units65 hr
  exact (dss_one (ds_ret (de_tyIs (de_var 0) (by rfl) W.type_ (by rfl) W.int_ (by rfl))))
/-! plain_pair -/
def isPr : D → Bool
  | .tup ds => decide (ds.length = 2)
  | _ => false
def b_plain_pair : DS :=
  (dRet (dAndV (dIsTy "tuple" (dVar 0)) (dOp (oEq false) (dCB cLen (dCons (dVar 0) dNil)) (dC (.int 2)))))
def sp_plain_pair : DSp := fun ds S post => ∃ d, ds = [d] ∧ S = [] ∧ okT d = true ∧ post (.bl (isPr d)) []
theorem len_plain_pair : ∀ ds S post, sp_plain_pair ds S post → ds.length = 1 := by
  rintro _ _ _ ⟨_, rfl, _⟩
  rfl
theorem two_int (n : Nat) : decide ((n : Int) = 2) = decide (n = 2) := by
  by_cases h : n = 2
  · subst h
    rfl
  · have : ¬ ((n : Int) = 2) := by omega
    simp [h, this]
theorem hd_plain_pair : ∀ ds S post, sp_plain_pair ds S post → b_plain_pair (endsD S post) (startD ["thing"] ds) S := by
  rintro ds S post ⟨d, rfl, rfl, hd, h⟩
  unfold b_plain_pair
  walk_at "dgo"
  refine ⟨_, okT_ty hd, ?_⟩
  cases d <;> simp [okT] at hd
  · exact ⟨false, kNt, end_none (by simp [below]) h⟩
  · exact ⟨false, kBt, end_none (by simp [below]) h⟩
  · exact ⟨false, kIt, end_none (by simp [below]) h⟩
  · exact ⟨false, kSt, end_none (by simp [below]) h⟩
  · refine ⟨true, kTt, ?_⟩
    rw [if_pos rfl]
    walk_at "dgo"
    rw [two_int]
    exact end_none (by simp [below]) h
theorem call_pair {S : Store} {d : D} {post : DK} (hd : okT d = true) (h : post (.bl (isPr d)) S) : callD sp_plain_pair [d] S post :=
  call_pure (by simp [belows, okT_below 0 d hd]) ⟨d, rfl, rfl, hd, by simpa [ren] using h⟩
theorem ok_plain_pair {P : Program} {w : World} {K : PySem.W.Frag} {mg : Str → Option Value} {base : Heap} {f : Addr} {fd : FuncData} (F : Fun K "plain_pair" "plain_pair" s_plain_pair f fd) (W : Bl mg) :
    FnG P w K mg base CX0 1 f fd ["thing"] (spL K sp_plain_pair) := by
  refine fn_okG (tb := b_plain_pair) F sc_plain_pair len_plain_pair (fun cdv A outer s H E hgd hr => ?_) hd_plain_pair
  have sc := sc_plain_pair
  have hu := hr.units
  have hu1 := Nat.lt_of_le_of_lt (Nat.add_le_add_left (show 1 ≤ 64 by decide) _) hu
  have hu65 := units65 hr
  exact (dss_one (ds_ret (de_and (de_isTy (de_var 0) (by rfl) W.isinstance_ (by rfl) W.tuple_ (by rfl)) (de_one (de_cmp (op_eq2 hu) rul_eq (de_callB call_len_seq rul_len (by rfl) W.len_ PySem.boot_len (da_cons (de_var 0) da_nil)) de_int (nomark _))))))

/-! _number_pair -/
def numD : D → Bool
  | .int i => decide (0 ≤ i)
  | _ => false
def partsD : D → List D
  | .tup xs => xs
  | _ => []
def npD (d : D) : Bool := isPr d && (partsD d).all numD
theorem range_all {α : Type} (f : α → Bool) (z : α) : ∀ xs : List α, (List.range xs.length).all (fun i => f (xs.getD i z)) = xs.all f := by
  intro xs
  have e : (List.range xs.length).map (fun i => xs.getD i z) = xs := by
    refine List.ext_getElem (by simp) fun i h1 h2 => ?_
    simp
    rw [List.getElem?_eq_getElem h2]
    rfl
  conv => rhs; rw [← e]
  rw [List.all_map]
  rfl
theorem all_id_map {n : Nat} {f : Nat → Bool} : ((List.range n).map f).all id = (List.range n).all f := by
  rw [List.all_map]
  rfl
theorem map_bl {n : Nat} {f : Nat → Bool} : ((List.range n).map f).map D.bl = (List.range n).map fun i => D.bl (f i) := by
  rw [List.map_map]
  rfl
/-- all([..]) of what a comprehension makes -/
theorem go_all {n : Nat} {f : Nat → Bool} {S : Store} {post : DK} (h : post (.bl ((List.range n).all f)) (S ++ [.lst ((List.range n).map fun i => D.bl (f i))])) : cAll [.lr S.length] (S ++ [.lst ((List.range n).map fun i => D.bl (f i))]) post :=
  ⟨_, (List.range n).map f, rfl, seqOf_lr.mpr (by rw [map_bl, List.getElem?_append_right (Nat.le_refl _), Nat.sub_self]; rfl), (fun _ q => nomatch q), by rw [all_id_map]; exact h⟩
theorem getD_some {α : Type} {xs : List α} {i : Nat} {d z : α} (h : xs[i]? = some d) : xs.getD i z = d := by rw [List.getD_eq_getElem?_getD, h]; rfl
def b_number_pair : DS :=
  (dSeq (dIfS (dNot (dTest (dCall sp_plain_pair (dCons (dVar 0) dNil)))) (dRet (dC (.bl false))) dNext)
    (dRet (dGc0 (dCB cAll (dCons (dLc (wSeq (dVar 0)) (gName 1) dYes (dAndV (dCall sp_plain_number (dCons (dVar 1) dNil)) (dOp oGe (dVar 1) (dC (.int 0)))) [1]) dNil)))))
def sp_number_pair : DSp := fun ds S post => ∃ d, ds = [d] ∧ S = [] ∧ okT d = true ∧ post (.bl (npD d)) []
theorem len_number_pair : ∀ ds S post, sp_number_pair ds S post → ds.length = 1 := by
  rintro _ _ _ ⟨_, rfl, _⟩
  rfl
theorem hd_number_pair : ∀ ds S post, sp_number_pair ds S post → b_number_pair (endsD S post) (startD ["thing", "part"] ds) S := by
  rintro ds S post ⟨d, rfl, rfl, hd, h⟩
  unfold b_number_pair
  walk_at "dgo"
  refine call_pair hd ?_
  walk_at "dgo"
  unfold npD at h
  cases hp : isPr d with
  | false =>
    rw [hp] at h
    rw [if_pos (by decide : (!false) = true)]
    exact end_none (by simp [below]) h
  | true =>
    rw [hp, Bool.true_and] at h
    rw [if_neg (by decide : ¬ (!true) = true)]
    cases d <;> simp [isPr] at hp
    rename_i xs
    rw [okT, okTs_iff] at hd
    refine ⟨xs, seqOf_tup.mpr rfl, lc_pure (fun _ => true) (fun i => .bl (numD (xs.getD i .non))) (seqOf_tup.mpr rfl) (by omega) (fun i d acc J hi ha g1 _ => ?_) ?_⟩
    · rw [getD_some hi] at g1
      walk_at "dgo"
      have hx := hd d (List.mem_iff_getElem?.mpr ⟨i, hi⟩)
      refine call_number hx ?_
      cases d <;> simp [isInt]
      all_goals exact ⟨ha, g1 rfl⟩
    · rw [flt_all]
      refine go_all ?_
      walk_at "dgo"
      rw [range_all numD]
      exact end_none (by simp [below]) h
theorem call_np {S : Store} {d : D} {post : DK} (hd : okT d = true) (h : post (.bl (npD d)) S) : callD sp_number_pair [d] S post :=
  call_pure (by simp [belows, okT_below 0 d hd]) ⟨d, rfl, rfl, hd, by simpa [ren] using h⟩
theorem ok_number_pair {P : Program} {w : World} {K : PySem.W.Frag} {mg : Str → Option Value} {base : Heap} {f : Addr} {fd : FuncData} (F : Fun K "_number_pair" "_number_pair" s_number_pair f fd) (W : Bl mg) (C_plain_number : CalG P w K mg base 1 "plain_number" sp_plain_number) (C_plain_pair : CalG P w K mg base 1 "plain_pair" sp_plain_pair) :
    FnG P w K mg base CX0 2 f fd ["thing"] (spL K sp_number_pair) := by
  refine fn_okG (tb := b_number_pair) F sc_number_pair len_number_pair (fun cdv A outer s H E hgd hr => ?_) hd_number_pair
  have sc := sc_number_pair
  have hu := hr.units
  have hu1 := Nat.lt_of_le_of_lt (Nat.add_le_add_left (show 1 ≤ 64 by decide) _) hu
  have hu65 := units65 hr
  exact (dss_cons (ds_if (dt_not (dt_val (de_cal C_plain_pair hgd hr (by decide) (by rfl) (da_cons (de_var 0) da_nil)))) (dss_one (ds_ret de_bl)) dss_nil)
      (dss_one (ds_ret (de_gc0 (de_callB (cr_all rfl) rul_all (by rfl) W.all_ PyProof.Rows.boot_all (da_cons (de_lc (own := [("part", 1)]) (ws := [1]) (by decide) rfl sc.nd (di_seq (de_var 0)) (blkOk_by (by rfl)) (fun _ _ _ _ _ => (dg_name 1 sc.nd)) (fun _ _ _ _ _ => dts_nil) (fun _ _ _ _ _ => (de_and (de_cal C_plain_number hgd hr (by decide) (by rfl) (da_cons (de_var 1) da_nil)) (de_one (de_cmp op_ge rul_ge (de_var 1) de_int (nomark _)))))) da_nil))))))
/-! rises -/
def ltP2 (p q : Int × Int) : Bool := HT.lexLt [p.1, p.2] [q.1, q.2]
def risesP (ps : List (Int × Int)) : Bool := (List.range (ps.length - 1)).all fun i => ltP2 (ps.getD i (0, 0)) (ps.getD (i + 1) (0, 0))
def b_rises : DS :=
  (dSeq (dFor (wZip2 (dCons (dVar 0) (dCons (dSl (dVar 0) (dPart (dC (.int 1))) dNoPart) dNil))) (gTup 2 (gCons (gName 1) (gCons (gName 2) gNil))) (dIfS (dTest (dOp oGe2 (dVar 1) (dVar 2))) (dRet (dC (.bl false))) dNext))
    (dRet (dC (.bl true))))
def sp_rises : DSp := fun ds S post => ∃ ps, ds = [tE ps] ∧ S = [] ∧ ps.length ≤ 1000 ∧ post (.bl (risesP ps)) []
theorem len_rises : ∀ ds S post, sp_rises ds S post → ds.length = 1 := by
  rintro _ _ _ ⟨_, rfl, _⟩
  rfl
theorem at_dE {ps : List (Int × Int)} {i : Nat} {d : D} (h : (ps.map dE)[i]? = some d) : ∃ p, ps[i]? = some p ∧ d = dE p := by
  rw [List.getElem?_map] at h
  cases hp : ps[i]? with
  | none =>
    rw [hp] at h
    cases h
  | some p =>
    rw [hp] at h
    exact ⟨p, rfl, (Option.some.inj h).symm⟩
theorem risesP_true {ps : List (Int × Int)} (h : ∀ j, j < ps.length - 1 → ltP2 (ps.getD j (0, 0)) (ps.getD (j + 1) (0, 0)) = true) : risesP ps = true := by
  unfold risesP
  rw [List.all_eq_true]
  intro i hi
  exact h i (List.mem_range.mp hi)
theorem risesP_false {ps : List (Int × Int)} {i : Nat} (hi : i < ps.length - 1) (h : ltP2 (ps.getD i (0, 0)) (ps.getD (i + 1) (0, 0)) = false) : risesP ps = false := by
  unfold risesP
  rw [List.all_eq_false]
  exact ⟨i, List.mem_range.mpr hi, by rw [h]; decide⟩
theorem hd_rises : ∀ ds S post, sp_rises ds S post → b_rises (endsD S post) (startD ["parts", "one", "two"] ds) S := by
  rintro ds S post ⟨ps, rfl, rfl, hl, h⟩
  unfold b_rises
  have hz : (zip2D (ps.map dE) (DL.cutD (ps.map dE) (some 1) none)).length = ps.length - 1 := by
    rw [zip2D_len, cut_from (by decide), List.length_drop, List.length_map]
    show min _ (ps.length - 1) = _
    omega
  have at2 : ∀ {i : Nat} {d : D}, (zip2D (ps.map dE) (DL.cutD (ps.map dE) (some 1) none))[i]? = some d → i < ps.length - 1 ∧ d = .ztup [dE (ps.getD i (0, 0)), dE (ps.getD (i + 1) (0, 0))] := fun {i d} hi => by
    have li := (List.getElem?_eq_some_iff.mp hi).1
    rw [hz] at li
    obtain ⟨a, b, h1, h2, rfl⟩ := zip2D_get hi
    rw [cut_from (by decide), ← List.map_drop] at h2
    obtain ⟨p, hp, rfl⟩ := at_dE h1
    obtain ⟨q, hq, rfl⟩ := at_dE h2
    rw [List.getElem?_drop] at hq
    have hq' : ps[i + 1]? = some q := by rw [← hq]; congr 1; show _ = 1 + i; omega
    rw [getD_some hp, getD_some hq']
    exact ⟨li, rfl⟩
  rw [go_seqS]
  try walk_at "dgo1"
  refine for_inv (fun i ρ S => ∃ a b, ρ = [some (tE ps), a, b] ∧ S = [] ∧ ∀ j, j < i → ltP2 (ps.getD j (0, 0)) (ps.getD (j + 1) (0, 0)) = true) ⟨none, none, rfl, rfl, fun j hj => by omega⟩ (fun _ _ _ _ _ => by first | exact trivial | exact ⟨seqOf_tup.mpr rfl, seqOf_tup.mpr rfl⟩) (fun i d ρ S hd hI => ?_) fun ρ S hI => ?_
  · obtain ⟨a, b, rfl, rfl, hI⟩ := hI
    obtain ⟨li, rfl⟩ := at2 hd
    try walk_at "dgo1"
    refine go_geT (ns := [(ps.getD i (0, 0)).1, (ps.getD i (0, 0)).2]) (ms := [(ps.getD (i + 1) (0, 0)).1, (ps.getD (i + 1) (0, 0)).2]) ?_
    cases hg : ltP2 (ps.getD i (0, 0)) (ps.getD (i + 1) (0, 0)) with
    | false =>
      rw [risesP_false li hg] at h
      unfold ltP2 at hg
      rw [hg]
      try walk_at "dgo1"
      exact end_none (by simp [below]) h
    | true =>
      have hg' := hg
      unfold ltP2 at hg'
      rw [hg']
      try walk_at "dgo1"
      refine ⟨⟨_, _, rfl⟩, fun j hj => ?_⟩
      by_cases e : j = i
      · subst e
        exact hg
      · exact hI j (by omega)
  · obtain ⟨a, b, rfl, rfl, hI⟩ := hI
    rw [hz] at hI
    rw [risesP_true hI] at h
    try walk_at "dgo1"
    exact end_none (by simp [below]) h
theorem call_rises {S : Store} {ps : List (Int × Int)} {post : DK} (hl : ps.length ≤ 1000) (h : post (.bl (risesP ps)) S) : callD sp_rises [tE ps] S post :=
  call_pure (by simp [belows, below_tE]) ⟨ps, rfl, rfl, hl, by simpa [ren] using h⟩
theorem ok_rises {P : Program} {w : World} {K : PySem.W.Frag} {mg : Str → Option Value} {base : Heap} {f : Addr} {fd : FuncData} (F : Fun K "rises" "rises" s_rises f fd) (W : Bl mg) :
    FnG P w K mg base CX0 1 f fd ["parts"] (spL K sp_rises) := by
  refine fn_okG (tb := b_rises) F sc_rises len_rises (fun cdv A outer s H E hgd hr => ?_) hd_rises
  have sc := sc_rises
  have hu := hr.units
  have hu1 := Nat.lt_of_le_of_lt (Nat.add_le_add_left (show 1 ≤ 64 by decide) _) hu
  have hu65 := units65 hr
  exact (dss_cons (ds_for PassesOwn.never rfl (di_zip2 (by rfl) W.zip_ (da_cons (de_var 0) (da_cons (de_sl (de_var 0) (do_some de_int) do_none) da_nil))) (dg_tup rfl (dgs_cons (dg_name 1 sc.nd) (dgs_cons (dg_name 2 sc.nd) dgs_nil))) (dss_one (ds_if (dt_cmp (op_ge2 hu) rul_ge2 (de_var 1) (de_var 2) (nomark _)) (dss_one (ds_ret de_bl)) dss_nil)))
      (dss_one (ds_ret de_bl)))
/-! _are_pairs -/
def unp : D → Int × Int
  | .tup [.int i, .int j] => (i, j)
  | _ => (0, 0)
def areD (d : D) : Bool := isTup d && (!(partsD d).isEmpty && ((partsD d).all npD && risesP ((partsD d).map unp)))
where isTup : D → Bool
  | .tup _ => true
  | _ => false
theorem np_unp {d : D} (h : npD d = true) : d = dE (unp d) := by
  unfold npD at h
  rw [Bool.and_eq_true] at h
  obtain ⟨h1, h2⟩ := h
  cases d <;> simp [isPr] at h1
  rename_i xs
  match xs, h1 with
  | [a, b], _ =>
    simp only [partsD, List.all_cons, List.all_nil, Bool.and_true, Bool.and_eq_true] at h2
    cases a <;> simp [numD] at h2
    cases b <;> simp [numD] at h2
    rfl
theorem all_unp {xs : List D} (h : xs.all npD = true) : xs = (xs.map unp).map dE := by
  rw [List.map_map]
  rw [List.all_eq_true] at h
  conv => lhs; rw [← List.map_id xs]
  exact List.map_congr_left fun d hd => np_unp (h d hd)
def b_are_pairs : DS :=
  (dSeq (dIfS (dOr (dNot (dTest (dIsTy "tuple" (dVar 0)))) (dNot (dTru (dVar 0)))) (dRet (dC (.bl false))) dNext)
    (dRet (dAndV (dGc0 (dCB cAll (dCons (dLc (wSeq (dVar 0)) (gName 1) dYes (dCall sp_number_pair (dCons (dVar 1) dNil)) [1]) dNil))) (dCall sp_rises (dCons (dVar 0) dNil)))))
def sp_are_pairs : DSp := fun ds S post => ∃ d, ds = [d] ∧ S = [] ∧ okT d = true ∧ (partsD d).length ≤ 1000 ∧ post (.bl (areD d)) []
theorem len_are_pairs : ∀ ds S post, sp_are_pairs ds S post → ds.length = 1 := by
  rintro _ _ _ ⟨_, rfl, _⟩
  rfl
theorem hd_are_pairs : ∀ ds S post, sp_are_pairs ds S post → b_are_pairs (endsD S post) (startD ["thing", "part"] ds) S := by
  rintro ds S post ⟨d, rfl, rfl, hd, hl, h⟩
  unfold b_are_pairs
  walk_at "dgo"
  refine ⟨_, okT_ty hd, ?_⟩
  cases d <;> simp [okT] at hd
  · exact ⟨false, kNt, end_none (by simp [below]) h⟩
  · exact ⟨false, kBt, end_none (by simp [below]) h⟩
  · exact ⟨false, kIt, end_none (by simp [below]) h⟩
  · exact ⟨false, kSt, end_none (by simp [below]) h⟩
  · rename_i xs
    rw [okTs_iff] at hd
    refine ⟨true, kTt, ?_⟩
    walk_at "dgo"
    have hl' : xs.length ≤ 1000 := hl
    cases he : xs.isEmpty with
    | true =>
      have h' : post (.bl false) [] := by
        have e : areD (.tup xs) = false := by simp [areD, areD.isTup, partsD, he]
        rwa [e] at h
      simp only [Bool.not_true, Bool.not_false, if_true]
      exact end_none (by simp [below]) h'
    | false =>
      simp only [Bool.not_true, Bool.not_false, Bool.false_eq_true, if_false]
      refine lc_pure (fun _ => true) (fun i => .bl (npD (xs.getD i .non))) trivial (by omega) (fun i d acc J hi ha g1 _ => ?_) ?_
      · rw [getD_some hi] at g1
        walk_at "dgo"
        exact call_np (hd d (List.mem_iff_getElem?.mpr ⟨i, hi⟩)) ⟨ha, g1 rfl⟩
      · rw [flt_all]
        refine go_all ?_
        walk_at "dgo"
        rw [range_all npD]
        cases ha : xs.all npD with
        | false =>
          have h' : post (.bl false) [] := by
            have e : areD (.tup xs) = false := by simp [areD, areD.isTup, partsD, he, ha]
            rwa [e] at h
          simp only [Bool.false_eq_true, if_false]
          exact end_none (by simp [below]) h'
        | true =>
          simp only [if_true]
          have h' : post (.bl (risesP (xs.map unp))) [] := by
            have e : areD (.tup xs) = risesP (xs.map unp) := by simp [areD, areD.isTup, partsD, he, ha]
            rwa [e] at h
          have ex := all_unp ha
          have : D.tup xs = tE (xs.map unp) := by
            unfold tE
            rw [← ex]
          rw [this]
          exact call_rises (by rw [List.length_map]; exact hl') (end_none (by simp [below]) h')
theorem call_are {S : Store} {d : D} {post : DK} (hd : okT d = true) (hl : (partsD d).length ≤ 1000) (h : post (.bl (areD d)) S) : callD sp_are_pairs [d] S post :=
  call_pure (by simp [belows, okT_below 0 d hd]) ⟨d, rfl, rfl, hd, hl, by simpa [ren] using h⟩
theorem ok_are_pairs {P : Program} {w : World} {K : PySem.W.Frag} {mg : Str → Option Value} {base : Heap} {f : Addr} {fd : FuncData} (F : Fun K "_are_pairs" "_are_pairs" s_are_pairs f fd) (W : Bl mg) (C_number_pair : CalG P w K mg base 2 "_number_pair" sp_number_pair) (C_rises : CalG P w K mg base 1 "rises" sp_rises) :
    FnG P w K mg base CX0 3 f fd ["thing"] (spL K sp_are_pairs) := by
  refine fn_okG (tb := b_are_pairs) F sc_are_pairs len_are_pairs (fun cdv A outer s H E hgd hr => ?_) hd_are_pairs
  have sc := sc_are_pairs
  have hu := hr.units
  have hu1 := Nat.lt_of_le_of_lt (Nat.add_le_add_left (show 1 ≤ 64 by decide) _) hu
  have hu65 := units65 hr
  exact (dss_cons (ds_if (PW.pt (dw_or (dt_not (dt_val (de_isTy (de_var 0) (by rfl) W.isinstance_ (by rfl) W.tuple_ (by rfl)))) (dw_or1 (dt_not (dt_tru (de_var 0)))))) (dss_one (ds_ret de_bl)) dss_nil)
      (dss_one (ds_ret (de_and (de_gc0 (de_callB (cr_all rfl) rul_all (by rfl) W.all_ PyProof.Rows.boot_all (da_cons (de_lc (own := [("part", 1)]) (ws := [1]) (by decide) rfl sc.nd (di_seq (de_var 0)) (blkOk_by (by rfl)) (fun _ _ _ _ _ => (dg_name 1 sc.nd)) (fun _ _ _ _ _ => dts_nil) (fun _ _ _ _ _ => (de_cal C_number_pair hgd hr (by decide) (by rfl) (da_cons (de_var 1) da_nil)))) da_nil))) (de_one (de_cal C_rises hgd hr (by decide) (by rfl) (da_cons (de_var 0) da_nil)))))))

/-! _counts -/
def rowE (p : Int × Int) : Ent := .lst [.int p.1, .int p.2]
def lrs (k n : Nat) : List D := (List.range n).map fun i => .lr (k + i)
def cntS (ns ms : List Int) (rows : List (Int × Int)) : Store := [.lst (ns.map .int), .lst (lrs 3 rows.length), .lst (ms.map .int)] ++ rows.map rowE
structure RowsOf (ns : List Int) (rows : List (Int × Int)) : Prop where
  up : (rows.map (·.1)).Pairwise (· < ·)
  mem : ∀ (v c : Int), (v, c) ∈ rows ↔ v ∈ ns ∧ c = (ns.count v : Int)
theorem rows_same {ns : List Int} {p : Int × Int} {x : Int} {rows : List (Int × Int)} (h : RowsOf ns (rows ++ [p])) (hx : p.1 = x) : RowsOf (ns ++ [x]) (rows ++ [(p.1, p.2 + 1)]) := by
  subst hx
  have hup := h.up
  rw [List.map_append, List.pairwise_append] at hup
  have hlt : ∀ v c, (v, c) ∈ rows → v < p.1 := fun v c hm => hup.2.2 v (List.mem_map.mpr ⟨(v, c), hm, rfl⟩) p.1 (by simp)
  have hp := (h.mem p.1 p.2).mp (by simp)
  refine ⟨by rw [List.map_append]; exact List.pairwise_append.mpr hup, fun v c => ?_⟩
  rw [List.mem_append, List.mem_singleton, List.mem_append, List.mem_singleton, List.count_append]
  constructor
  · rintro (hm | hm)
    · have hv := hlt v c hm
      have := (h.mem v c).mp (by simp [hm])
      refine ⟨.inl this.1, ?_⟩
      rw [this.2, List.count_singleton]
      have : (p.1 == v) = false := by simp; omega
      simp [this]
    · cases hm
      refine ⟨.inr rfl, ?_⟩
      rw [hp.2, List.count_singleton]
      simp
  · rintro ⟨hv, hc⟩
    by_cases e : v = p.1
    · subst e
      refine .inr ?_
      rw [List.count_singleton] at hc
      simp at hc
      rw [hc, hp.2]
    · have hv' : v ∈ ns := hv.resolve_right e
      have hm := (h.mem v (ns.count v)).mpr ⟨hv', rfl⟩
      rw [List.mem_append, List.mem_singleton] at hm
      rcases hm with hm | hm
      · refine .inl ?_
        rw [hc, List.count_singleton]
        have : (p.1 == v) = false := by simp; omega
        simpa [this] using hm
      · exact absurd (by rw [← hm]) e
theorem rows_new {ns : List Int} {x : Int} {rows : List (Int × Int)} (h : RowsOf ns rows) (hx : x ∉ ns) (hle : ∀ y ∈ ns, y ≤ x) : RowsOf (ns ++ [x]) (rows ++ [(x, 1)]) := by
  have hlt : ∀ v c, (v, c) ∈ rows → v < x := fun v c hm => by
    have hv := ((h.mem v c).mp hm).1
    have h1 := hle v hv
    have h2 : v ≠ x := fun e => hx (e ▸ hv)
    omega
  refine ⟨?_, fun v c => ?_⟩
  · rw [List.map_append]
    refine List.pairwise_append.mpr ⟨h.up, by simp, fun a ha b hb => ?_⟩
    obtain ⟨q, hq, rfl⟩ := List.mem_map.mp ha
    rw [show b = x by simpa using hb]
    exact hlt q.1 q.2 hq
  · rw [List.mem_append, List.mem_singleton, List.mem_append, List.mem_singleton, List.count_append, List.count_singleton]
    constructor
    · rintro (hm | hm)
      · have hv := hlt v c hm
        have := (h.mem v c).mp hm
        have e : (x == v) = false := by simp; omega
        exact ⟨.inl this.1, by rw [this.2]; simp [e]⟩
      · cases hm
        refine ⟨.inr rfl, ?_⟩
        rw [List.count_eq_zero.mpr hx]
        simp
    · rintro ⟨hv, hc⟩
      by_cases e : v = x
      · subst e
        rw [List.count_eq_zero.mpr hx] at hc
        simp at hc
        exact .inr (by rw [hc])
      · have e' : (x == v) = false := by simp; omega
        refine .inl ((h.mem v c).mpr ⟨hv.resolve_right e, by rw [hc]; simp [e']⟩)
theorem atI_last {α : Type} {xs : List α} {a : α} : L2.atI (xs ++ [a]) (-1) = some a := by
  unfold L2.atI L2.ixN
  rw [if_neg (by decide), if_pos (by simp; omega)]
  have e : (-1 + ((xs ++ [a]).length : Int)).toNat = xs.length := by
    rw [List.length_append, List.length_singleton]
    omega
  show (some (-1 + ((xs ++ [a]).length : Int)).toNat).bind _ = _
  rw [e]
  simp
theorem lrs_succ {k n : Nat} : lrs k (n + 1) = lrs k n ++ [.lr (k + n)] := by
  unfold lrs
  rw [List.range_succ, List.map_append]
  rfl
theorem lrs_len {k n : Nat} : (lrs k n).length = n := by simp [lrs]
theorem cnt_len {ns ms : List Int} {rows : List (Int × Int)} : (cntS ns ms rows).length = 3 + rows.length := by
  simp [cntS]
  omega
theorem cnt_1 {ns ms : List Int} {rows : List (Int × Int)} : (cntS ns ms rows)[1]? = some (.lst (lrs 3 rows.length)) := rfl
theorem cnt_2 {ns ms : List Int} {rows : List (Int × Int)} : (cntS ns ms rows)[2]? = some (.lst (ms.map .int)) := rfl
theorem cnt_row {ns ms : List Int} {rows : List (Int × Int)} {i : Nat} {p : Int × Int} (h : rows[i]? = some p) : (cntS ns ms rows)[3 + i]? = some (rowE p) := by
  unfold cntS
  rw [List.getElem?_append_right (by simp)]
  have e : 3 + i - [Ent.lst (ns.map .int), Ent.lst (lrs 3 rows.length), Ent.lst (ms.map .int)].length = i := by simp
  rw [e, List.getElem?_map, h]
  rfl
theorem cnt_push {ns ms : List Int} {rows : List (Int × Int)} {p : Int × Int} : (cntS ns ms rows ++ [rowE p]).set 1 (.lst (lrs 3 rows.length ++ [.lr (3 + rows.length)])) = cntS ns ms (rows ++ [p]) := by
  unfold cntS
  rw [List.length_append, List.length_singleton, lrs_succ, List.map_append]
  rfl
theorem cnt_set {ns ms : List Int} {rows : List (Int × Int)} {p q : Int × Int} : (cntS ns ms (rows ++ [p])).set (3 + rows.length) (rowE q) = cntS ns ms (rows ++ [q]) := by
  unfold cntS
  simp only [List.length_append, List.length_singleton, List.map_append, List.map_cons, List.map_nil]
  rw [List.set_append_right _ _ (by simp)]
  have e : 3 + rows.length - [Ent.lst (ns.map .int), Ent.lst (lrs 3 (rows.length + 1)), Ent.lst (ms.map .int)].length = (rows.map rowE).length := by simp
  rw [e, List.set_append_right _ _ (by simp)]
  simp
theorem take_succ_some {α : Type} {xs : List α} {i : Nat} {a : α} (h : xs[i]? = some a) : xs.take (i + 1) = xs.take i ++ [a] := by rw [List.take_add_one, h]; rfl
def b_counts : DS :=
  (dSeq (dAsg (dLst dNil) (gName 1))
    (dSeq (dFor (wSeq (dCB cSortedB (dCons (dVar 0) dNil))) (gName 2) (dIfS (dAnd (dTru (dVar 1)) (dTest (dOp (oEq false) (dOp oIx (dOp oIx (dVar 1) (dUn oNeg (dC (.int 1)))) (dC (.int 0))) (dVar 2)))) (dAugS (fun i j => i + j) (dOp oIx (dVar 1) (dUn oNeg (dC (.int 1)))) (dC (.int 1)) (dC (.int 1))) (dDrop (dApp (dVar 1) (dLst (dCons (dVar 2) (dCons (dC (.int 1)) dNil)))))))
    (dRet (dVar 1))))
def sp_counts : DSp := fun ds S post => ∃ ns, ds = [.lr 0] ∧ S = [.lst (ns.map .int)] ∧ ns.length ≤ 1000 ∧ ∀ ms rows, RowsOf ns rows → rows.length ≤ ns.length → post (.lr 1) (cntS ns ms rows)
theorem len_counts : ∀ ds S post, sp_counts ds S post → ds.length = 1 := by
  rintro _ _ _ ⟨_, rfl, _⟩
  rfl
theorem rows_perm {ms ns : List Int} {rows : List (Int × Int)} (h : RowsOf ms rows) (hp : ms.Perm ns) : RowsOf ns rows := ⟨h.up, fun v c => by rw [h.mem, hp.mem_iff, hp.count_eq]⟩
theorem snoc_or {α : Type} : ∀ xs : List α, xs = [] ∨ ∃ ys y, xs = ys ++ [y]
  | [] => .inl rfl
  | x :: xs => .inr (by
    rcases snoc_or xs with rfl | ⟨ys, y, rfl⟩
    · exact ⟨[], x, rfl⟩
    · exact ⟨x :: ys, y, rfl⟩)
theorem below_cnt {ns ms : List Int} {rows : List (Int × Int)} : (cntS ns ms rows).all (belowE (cntS ns ms rows).length) = true := by
  rw [cnt_len]
  unfold cntS
  rw [List.all_append, Bool.and_eq_true]
  refine ⟨?_, ?_⟩
  · simp only [List.all_cons, List.all_nil, belowE, belows_ints, Bool.true_and, Bool.and_true]
    rw [belows_iff]
    intro d hd
    obtain ⟨i, hi, rfl⟩ := List.mem_map.mp hd
    rw [List.mem_range] at hi
    rw [below, decide_eq_true_eq]
    omega
  · rw [List.all_map, List.all_eq_true]
    intro p _
    simp [rowE, belowE, belows, below]
theorem hd_counts : ∀ ds S post, sp_counts ds S post → b_counts (endsD S post) (startD ["numbers", "counts", "number"] ds) S := by
  rintro ds S post ⟨ns, rfl, rfl, hl, h⟩
  unfold b_counts
  walk_at "dgo"
  refine ⟨by decide, .inl (.inl ⟨.lr 0, ns, rfl, seqOf_lr.mpr rfl, (fun _ q => nomatch q), fun ms hp hs => ?_⟩)⟩
  walk_at "dgo"
  refine for_inv (fun i ρ S => ∃ (t : Option D) (rows : List (Int × Int)), ρ = [some (.lr 0), some (.lr 1), t] ∧ S = cntS ns ms rows ∧ RowsOf (ms.take i) rows ∧ rows.length ≤ i) ⟨none, [], rfl, rfl, ⟨List.Pairwise.nil, fun v c => by simp⟩, Nat.zero_le _⟩ (fun i ρ S _ hI => ?_) (fun i d ρ S hd hI => ?_) fun ρ S hI => ?_
  · obtain ⟨t, rows, rfl, rfl, hr, hrl⟩ := hI
    rfl
  · obtain ⟨t, rows, rfl, rfl, hr, hrl⟩ := hI
    obtain ⟨x, hx, _, rfl⟩ := int_at hd
    have hi : i < ms.length := (List.getElem?_eq_some_iff.mp hx).1
    have hle : ∀ y ∈ ms.take i, y ≤ x := fun y hy => by
      obtain ⟨j, hj⟩ := List.mem_iff_getElem?.mp hy
      have hji : j < i := by
        have := (List.getElem?_eq_some_iff.mp hj).1
        rw [List.length_take] at this
        omega
      rw [List.getElem?_take_of_lt hji] at hj
      obtain ⟨hj1, hj2⟩ := List.getElem?_eq_some_iff.mp hj
      obtain ⟨hi1, hi2⟩ := List.getElem?_eq_some_iff.mp hx
      rw [← hj2, ← hi2]
      exact (List.pairwise_iff_getElem.mp hs) j i hj1 hi1 hji
    have hlm : rows.length ≤ 1000 := by
      have := hp.length_eq
      omega
    walk_at "dgo"
    refine ⟨!rows.isEmpty, .inl ⟨_, cnt_1, by cases rows <;> simp [lrs]⟩, ?_⟩
    -- a new row
    have fresh : x ∉ ms.take i → (∃ y, (cntS ns ms rows)[1]? = some (Ent.lst y)) ∧ 2 ≤ 100000 ∧ ∃ ds2, (cntS ns ms rows ++ [Ent.lst [.int x, .int 1]])[1]? = some (.lst ds2) ∧ ds2.length ≤ 100000 ∧ (∃ t, [some (D.lr 0), some (.lr 1), some (.int x)] = [some (.lr 0), some (.lr 1), t]) ∧
        ∃ rows2, (cntS ns ms rows ++ [Ent.lst [.int x, .int 1]]).set 1 (.lst (ds2 ++ [.lr (cntS ns ms rows).length])) = cntS ns ms rows2 ∧ RowsOf (ms.take (i + 1)) rows2 ∧ rows2.length ≤ i + 1 := fun hn => by
      refine ⟨⟨_, cnt_1⟩, by decide, lrs 3 rows.length, ?_, by rw [lrs_len]; omega, ⟨_, rfl⟩, rows ++ [(x, 1)], ?_, ?_, by simp; omega⟩
      · rw [List.getElem?_append_left (by rw [cnt_len]; omega)]
        exact cnt_1
      · rw [cnt_len]
        exact cnt_push (p := (x, 1))
      · rw [take_succ_some hx]
        exact rows_new hr hn hle
    rcases snoc_or rows with rfl | ⟨rs, p, rfl⟩
    · have hn : x ∉ ms.take i := fun hm => by
        have := (hr.mem x _).mpr ⟨hm, rfl⟩
        simp at this
      exact fresh hn
    · have he : (!(rs ++ [p]).isEmpty) = true := by simp
      rw [he, if_pos rfl]
      have hrow : (cntS ns ms (rs ++ [p]))[3 + rs.length]? = some (rowE p) := cnt_row (by simp)
      have hlast : L2.atI (lrs 3 (rs ++ [p]).length) (-1) = some (.lr (3 + rs.length)) := by
        rw [List.length_append, List.length_singleton, lrs_succ]
        exact atI_last
      refine ⟨_, cnt_1, _, hlast, ?_⟩
      walk_at "dgo"
      refine ⟨_, hrow, _, go_at0, ?_⟩
      walk_at "dgo"
      by_cases e : p.1 = x
      · rw [if_pos e]
        refine ⟨_, cnt_1, _, hlast, _, rfl, _, hrow, p.2, go_at1, go_set.mpr ⟨_, hrow, 1, go_ix21, ⟨_, rfl⟩, rs ++ [(p.1, p.2 + 1)], cnt_set (q := (p.1, p.2 + 1)), ?_, ?_⟩⟩
        · rw [take_succ_some hx]
          exact rows_same hr e
        · rw [List.length_append, List.length_singleton] at hrl ⊢
          omega
      · rw [if_neg e]
        refine fresh fun hm => ?_
        -- x would stand in a row, and the last row is the greatest
        have h1 := (hr.mem x _).mpr ⟨hm, rfl⟩
        rw [List.mem_append, List.mem_singleton] at h1
        have h2 := hle p.1 ((hr.mem p.1 p.2).mp (by simp)).1
        have hup := hr.up
        rw [List.map_append, List.pairwise_append] at hup
        rcases h1 with h1 | h1
        · have := hup.2.2 x (List.mem_map.mpr ⟨_, h1, rfl⟩) p.1 (by simp)
          omega
        · exact e (by rw [← h1])
  · obtain ⟨t, rows, rfl, rfl, hr, hrl⟩ := hI
    rw [List.length_map, List.take_length] at hr
    rw [List.length_map] at hrl
    walk_at "dgo"
    refine .inl ⟨(cntS ns ms rows).length, by rw [cnt_len]; simp; omega, by rw [below, cnt_len]; simp; omega, ?_, ?_⟩
    · rw [List.take_length]
      exact below_cnt
    · rw [List.take_length]
      exact h ms rows (rows_perm hr hp) (by rw [← hp.length_eq]; exact hrl)
theorem ok_counts {P : Program} {w : World} {K : PySem.W.Frag} {mg : Str → Option Value} {base : Heap} {f : Addr} {fd : FuncData} (F : Fun K "_counts" "_counts" s_counts f fd) (W : Bl mg) :
    FnG P w K mg base CX0 1 f fd ["numbers"] (spL K sp_counts) := by
  refine fn_okG (tb := b_counts) F sc_counts len_counts (fun cdv A outer s H E hgd hr => ?_) hd_counts
  have sc := sc_counts
  have hu := hr.units
  have hu1 := Nat.lt_of_le_of_lt (Nat.add_le_add_left (show 1 ≤ 64 by decide) _) hu
  have hu65 := units65 hr
  exact (dss_cons (ds_set 1 sc.nd (de_lst da_nil))
      (dss_cons (ds_for PassesOwn.never rfl (di_seq (de_callB (call_sortedB rfl) rul_sortedB (by rfl) W.sorted_ PyProof.Rows.boot_sorted (da_cons (de_var 0) da_nil))) (dg_name 2 sc.nd) (dss_one (ds_if (PW.pt (dw_and (dt_tru (de_var 1)) (dw_and1 (dt_cmp (op_eq2 hu) rul_eq (de_ix ix_seq rul_ix (de_ix ix_seq rul_ix (de_var 1) (de_un un_neg rul_neg de_int)) de_int) (de_var 2) (nomark _))))) (dss_one (ds_augAdd (de_ix ix_seq rul_ix (de_var 1) (de_un un_neg rul_neg de_int)) de_int de_int)) (dss_one (ds_expr (de_app (de_var 1) (de_lst (da_cons (de_var 2) (da_cons de_int da_nil)))))))))
      (dss_one (ds_ret (de_var 1)))))

/-! the whole store handed on -/
theorem setAll_range : ∀ (es : List Ent) (S : Store) (k : Nat), k + es.length = S.length → setAll (List.range' k es.length) es S = S.take k ++ es
  | [], S, k, h => by
    simp at h
    simp [setAll, h, List.take_of_length_le]
  | e :: es, S, k, h => by
    rw [List.length_cons] at h
    rw [List.length_cons, List.range'_succ, setAll, setAll_range es (S.set k e) (k + 1) (by rw [List.length_set]; omega)]
    rw [List.take_succ_eq_append_getElem (by rw [List.length_set]; omega), List.getElem_set_self, List.take_set_of_le (Nat.le_refl _), List.append_assoc]
    rfl
theorem rn_id {n : Nat} : rn (List.range n) n = fun i => i := by
  funext i
  unfold rn
  by_cases h : i < n
  · rw [List.getElem?_range h]
    rfl
  · have : (List.range n)[i]? = none := List.getElem?_eq_none (by rw [List.length_range]; omega)
    rw [this, List.length_range]
    show n + (i - n) = i
    omega
mutual
theorem ren_id : ∀ d : D, ren (fun i => i) d = d
  | .lr n => by rw [ren]
  | .tup ds => by rw [ren, rens_id ds]
  | .ztup ds => by rw [ren, rens_id ds]
  | .rl ds => by rw [ren, rens_id ds]
  | .exc a d c w => by rw [ren, ren_id w]
  | .non => by rw [ren] <;> simp
  | .bl _ => by rw [ren] <;> simp
  | .int _ => by rw [ren] <;> simp
  | .str _ => by rw [ren] <;> simp
  | .opq _ => by rw [ren] <;> simp
theorem rens_id : ∀ ds : List D, rens (fun i => i) ds = ds
  | [] => by rw [rens]
  | d :: ds => by rw [rens, ren_id d, rens_id ds]
end
theorem renE_id (e : Ent) : renE (fun i => i) e = e := by
  cases e with
  | lst ds =>
    show Ent.lst (rens _ ds) = _
    rw [rens_id]
  | dct kvs =>
    show Ent.dct (kvs.map fun p => (p.1, ren (fun i => i) p.2)) = _
    congr 1
    conv => rhs; rw [← List.map_id kvs]
    exact List.map_congr_left fun p _ => by rw [ren_id]; rfl
/-- a call that leaves the store as it is -/
theorem call_keep {sp : DSp} {ds : List D} {S : Store} {post : DK} (h : sp ds S fun d S' => S' = S ∧ post d S) (mono : ∀ p q : DK, (∀ d S', p d S' → q d S') → sp ds S p → sp ds S q) : callD sp ds S post := by
  refine ⟨List.range S.length, ds, S, List.nodup_range, by rw [rn_id, rens_id], by rw [List.length_range], fun i n e h1 h2 => ?_, mono _ _ (fun d S' ⟨e, p⟩ => ?_) h⟩
  · have hi := (List.getElem?_eq_some_iff.mp h1).1
    rw [List.length_range] at hi
    rw [List.getElem?_range hi] at h1
    cases h1
    rw [rn_id, renE_id]
    exact h2
  · subst e
    rw [rn_id, ren_id, List.length_range, List.take_length, List.drop_length, List.map_nil, List.append_nil]
    have e1 : S'.map (renE fun i => i) = S' := by
      conv => rhs; rw [← List.map_id S']
      exact List.map_congr_left fun e _ => by rw [renE_id]; rfl
    rw [e1, List.range_eq_range', setAll_range S' S' 0 (by omega)]
    simpa using p
/-! rows at a place of the store -/
def CntAt (S : Store) (c : Nat) (rows : List (Int × Int)) : Prop := ∃ js : List Nat, S[c]? = some (.lst (js.map .lr)) ∧ js.length = rows.length ∧ ∀ (i : Nat) (p : Int × Int), rows[i]? = some p → ∃ j, js[i]? = some j ∧ S[j]? = some (rowE p)
theorem get_app {S T : Store} {i : Nat} {e : Ent} (h : S[i]? = some e) : (S ++ T)[i]? = some e := by
  rw [List.getElem?_append_left (List.getElem?_eq_some_iff.mp h).1]
  exact h
theorem CntAt.app {S T : Store} {c : Nat} {rows : List (Int × Int)} (h : CntAt S c rows) : CntAt (S ++ T) c rows := by
  obtain ⟨js, h1, h2, h3⟩ := h
  exact ⟨js, get_app h1, h2, fun i p hp => let ⟨j, a, b⟩ := h3 i p hp; ⟨j, a, get_app b⟩⟩
def WfS (S : Store) : Prop := S.all (belowE S.length) = true
theorem WfS.app1 {S : Store} {e : Ent} (h : WfS S) (he : belowE S.length e = true) : WfS (S ++ [e]) := by
  unfold WfS at *
  rw [List.all_append, List.length_append, Bool.and_eq_true]
  refine ⟨?_, by simp [belowE_mono (Nat.le_succ _) e he]⟩
  rw [List.all_eq_true] at *
  exact fun e' he' => belowE_mono (Nat.le_add_right _ _) e' (h e' he')
theorem call_counts {S : Store} {j : Nat} {ns : List Int} {post : DK} (hj : S[j]? = some (.lst (ns.map .int))) (hw : WfS S) (hl : ns.length ≤ 1000) (h : ∀ rows T c, RowsOf ns rows → rows.length ≤ ns.length → CntAt (S ++ T) c rows → WfS (S ++ T) → post (.lr c) (S ++ T)) : callD sp_counts [.lr j] S post := by
  have hj' := (List.getElem?_eq_some_iff.mp hj).1
  refine call_one hj (by simp [belows]) (belows_ints 0 ns) ⟨ns, rfl, rfl, hl, fun ms rows hr hrl => ?_⟩
  have hset : S.set j (.lst (ns.map .int)) = S := by
    obtain ⟨a, b⟩ := List.getElem?_eq_some_iff.mp hj
    rw [← b]
    exact List.set_getElem_self a
  have r1 : rn [j] S.length 1 = S.length := by simp [rn]
  have rk : ∀ i, rn [j] S.length (3 + i) = S.length + (2 + i) := fun i => by
    show (([j] : List Nat)[3 + i]?).getD (S.length + (3 + i - 1)) = _
    rw [List.getElem?_eq_none (by simp; omega)]
    show S.length + (3 + i - 1) = _
    omega
  have e0 : (cntS ns ms rows).take 1 = [.lst (ns.map .int)] := rfl
  have e1 : (cntS ns ms rows).drop 1 = [.lst (lrs 3 rows.length), .lst (ms.map .int)] ++ rows.map rowE := rfl
  have el : renE (rn [j] S.length) (.lst (lrs 3 rows.length)) = .lst (lrs (S.length + 2) rows.length) := by
    show Ent.lst (rens _ (lrs 3 rows.length)) = _
    rw [rens_map]
    unfold lrs
    rw [List.map_map]
    congr 1
    refine List.map_congr_left fun i _ => ?_
    show ren _ (.lr (3 + i)) = _
    rw [ren, rk]
    congr 1
    omega
  have em : ∀ ks : List Int, renE (rn [j] S.length) (.lst (ks.map .int)) = .lst (ks.map .int) := fun ks => renE_below _ _ (belows_ints 0 ks)
  have er : (rows.map rowE).map (renE (rn [j] S.length)) = rows.map rowE := by
    rw [List.map_map]
    refine List.map_congr_left fun p _ => ?_
    exact renE_below _ _ (by simp [rowE, belowE, belows, below])
  dsimp only
  rw [e0, e1, ren, r1, List.map_append, er]
  simp only [List.map_cons, List.map_nil]
  rw [el, em, em]
  simp only [setAll]
  rw [hset]
  refine h rows _ S.length hr hrl ⟨(List.range rows.length).map fun i => S.length + 2 + i, ?_, by simp, fun i p hp => ?_⟩ ?_
  · rw [List.getElem?_append_right (Nat.le_refl _), Nat.sub_self, List.map_map]
    rfl
  · have hi := (List.getElem?_eq_some_iff.mp hp).1
    refine ⟨S.length + 2 + i, by rw [List.getElem?_map, List.getElem?_range hi]; rfl, ?_⟩
    rw [List.getElem?_append_right (by omega)]
    have : S.length + 2 + i - S.length = 2 + i := by omega
    rw [this, List.getElem?_append_right (by simp)]
    have : 2 + i - [Ent.lst (lrs (S.length + 2) rows.length), Ent.lst (ms.map .int)].length = i := by simp
    rw [this, List.getElem?_map, hp]
    rfl
  · unfold WfS at *
    rw [List.all_append, Bool.and_eq_true, List.all_append, Bool.and_eq_true]
    refine ⟨?_, ?_, ?_⟩
    · rw [List.all_eq_true] at *
      exact fun e he => belowE_mono (by rw [List.length_append]; exact Nat.le_add_right _ _) e (hw e he)
    · simp only [List.all_cons, List.all_nil, belowE, belows_ints, Bool.and_true, Bool.true_and]
      rw [belows_iff]
      intro d hd
      obtain ⟨i, hi, rfl⟩ := List.mem_map.mp hd
      rw [List.mem_range] at hi
      rw [below, decide_eq_true_eq]
      simp
      omega
    · rw [List.all_map, List.all_eq_true]
      intro p _
      simp [rowE, belowE, belows, below]
/-! _counted -/
def optI : Option Int → D
  | some i => .int i
  | none => .non
def cfind (rows : List (Int × Int)) (m : Int) : Option Int := (rows.find? (fun p => decide (p.2 = m))).map (fun p => p.1)
def b_counted : DS :=
  (dSeq (dFor (wSeq (dVar 0)) (gTupA 2 (gCons (gName 2) (gCons (gName 3) gNil))) (dIfS (dTest (dOp (oEq false) (dVar 3) (dVar 1))) (dRet (dVar 2)) dNext))
    (dRet (dC .non)))
def sp_counted : DSp := fun ds S post => ∃ (c : Nat) (rows : List (Int × Int)) (m : Int), ds = [.lr c, .int m] ∧ CntAt S c rows ∧ WfS S ∧ post (optI (cfind rows m)) S
theorem len_counted : ∀ ds S post, sp_counted ds S post → ds.length = 2 := by
  rintro _ _ _ ⟨_, _, _, rfl, _⟩
  rfl
theorem end_keep {S : Store} {d : D} {post : DK} (hw : WfS S) (hb : below 0 d = true) (h : post d S) : fnEnd S post d S := end_same rfl (below_mono (Nat.zero_le _) d hb) hw h
theorem below_optI (o : Option Int) : below 0 (optI o) = true := by cases o <;> simp [optI, below]
theorem hd_counted : ∀ ds S post, sp_counted ds S post → b_counted (endsD S post) (startD ["counts", "many", "number", "count"] ds) S := by
  rintro ds S post ⟨c, rows, m, rfl, ⟨js, h1, h2, h3⟩, hw, h⟩
  unfold b_counted
  walk_at "dgo"
  refine ⟨_, h1, for_inv (fun i ρ S' => ∃ (a b : Option D), ρ = [some (.lr c), some (.int m), a, b] ∧ S' = S ∧ (rows.take i).find? (fun p => decide (p.2 = m)) = none) ⟨none, none, rfl, rfl, rfl⟩ (fun i ρ S' _ hI => ?_) (fun i d ρ S' hd hI => ?_) fun ρ S' hI => ?_⟩
  · obtain ⟨a, b, rfl, rfl, _⟩ := hI
    exact h1
  · obtain ⟨a, b, rfl, rfl, hn⟩ := hI
    rw [List.getElem?_map] at hd
    have hi : i < js.length := by
      cases q : js[i]? with
      | none =>
        rw [q] at hd
        cases hd
      | some j => exact (List.getElem?_eq_some_iff.mp q).1
    obtain ⟨j, hj, hr⟩ := h3 i (rows[i]'(by omega)) (List.getElem?_eq_getElem (by omega))
    rw [hj] at hd
    cases hd
    have hri : rows[i]? = some (rows[i]'(by omega)) := List.getElem?_eq_getElem (by omega)
    generalize rows[i]'(by omega) = p at hr hri
    walk_at "dgo"
    refine ⟨_, hr, rfl, ?_⟩
    walk_at "dgo"
    split
    · rename_i e
      have hf : cfind rows m = some p.1 := by
        unfold cfind
        have : rows = rows.take i ++ p :: rows.drop (i + 1) := by
          obtain ⟨hl, he⟩ := List.getElem?_eq_some_iff.mp hri
          rw [← he]
          simp
        rw [this, List.find?_append, hn, Option.none_or, List.find?_cons_of_pos (by simpa using e)]
        rfl
      rw [hf] at h
      exact end_keep hw (by simp [below]) h
    · rename_i e
      refine ⟨⟨_, _, rfl⟩, ?_⟩
      rw [take_succ_some hri, List.find?_append, hn]
      simp [e]
  · obtain ⟨a, b, rfl, rfl, hn⟩ := hI
    rw [List.length_map, h2, List.take_length] at hn
    walk_at "dgo"
    have hf : cfind rows m = none := by
      unfold cfind
      rw [hn]
      rfl
    rw [hf] at h
    exact end_keep hw (by simp [below]) h
theorem call_counted {S : Store} {c : Nat} {rows : List (Int × Int)} {m : Int} {post : DK} (hc : CntAt S c rows) (hw : WfS S) (h : post (optI (cfind rows m)) S) : callD sp_counted [.lr c, .int m] S post :=
  call_keep ⟨c, rows, m, rfl, hc, hw, rfl, h⟩ fun p q hpq ⟨c, rows, m, a, b, d, e⟩ => ⟨c, rows, m, a, b, d, hpq _ _ e⟩
theorem ok_counted {P : Program} {w : World} {K : PySem.W.Frag} {mg : Str → Option Value} {base : Heap} {f : Addr} {fd : FuncData} (F : Fun K "_counted" "_counted" s_counted f fd) (W : Bl mg) :
    FnG P w K mg base CX0 1 f fd ["counts", "many"] (spL K sp_counted) := by
  refine fn_okG (tb := b_counted) F sc_counted len_counted (fun cdv A outer s H E hgd hr => ?_) hd_counted
  have sc := sc_counted
  have hu := hr.units
  have hu1 := Nat.lt_of_le_of_lt (Nat.add_le_add_left (show 1 ≤ 64 by decide) _) hu
  have hu65 := units65 hr
  exact (dss_cons (ds_for PassesOwn.never rfl (di_seq (de_var 0)) (dg_tupA rfl (dgs_cons (dg_name 2 sc.nd) (dgs_cons (dg_name 3 sc.nd) dgs_nil))) (dss_one (ds_if (dt_cmp (op_eq2 hu) rul_eq (de_var 3) (de_var 1) (nomark _)) (dss_one (ds_ret (de_var 2))) dss_nil)))
      (dss_one (ds_ret de_non)))
/-! _either -/
def eitD (r1 r2 : List (Int × Int)) : D := match cfind r1 r2.length, cfind r2 r1.length with
  | some a, some b => .tup [.str "either", .int a, .int b]
  | _, _ => .non
def b_either : DS :=
  (dSeq (dAsg (dCall sp_counted (dCons (dVar 0) (dCons (dCB cLen (dCons (dVar 1) dNil)) dNil))) (gName 2))
    (dSeq (dAsg (dCall sp_counted (dCons (dVar 1) (dCons (dCB cLen (dCons (dVar 0) dNil)) dNil))) (gName 3))
    (dSeq (dIfS (dOr (dTest (dOp (oIsN false) (dVar 2) (dC .non))) (dTest (dOp (oIsN false) (dVar 3) (dC .non)))) (dRet (dC .non)) dNext)
    (dRet (dTup (dCons (dC (.str "either")) (dCons (dVar 2) (dCons (dVar 3) dNil))))))))
def sp_either : DSp := fun ds S post => ∃ c1 c2 r1 r2, ds = [.lr c1, .lr c2] ∧ CntAt S c1 r1 ∧ CntAt S c2 r2 ∧ WfS S ∧ post (eitD r1 r2) S
theorem len_either : ∀ ds S post, sp_either ds S post → ds.length = 2 := by
  rintro _ _ _ ⟨_, _, _, _, rfl, _⟩
  rfl
theorem CntAt.len {S : Store} {c : Nat} {rows : List (Int × Int)} (h : CntAt S c rows) : ∃ ds : List D, S[c]? = some (.lst ds) ∧ ds.length = rows.length := by
  obtain ⟨js, h1, h2, _⟩ := h
  exact ⟨_, h1, by rw [List.length_map]; exact h2⟩
theorem hd_either : ∀ ds S post, sp_either ds S post → b_either (endsD S post) (startD ["firsts", "seconds", "a", "b"] ds) S := by
  rintro ds S post ⟨c1, c2, r1, r2, rfl, h1, h2, hw, h⟩
  obtain ⟨d1, g1, l1⟩ := h1.len
  obtain ⟨d2, g2, l2⟩ := h2.len
  unfold b_either
  walk_at "dgo"
  refine ⟨_, g2, ?_⟩
  rw [l2]
  refine call_counted h1 hw ?_
  refine ⟨_, g1, ?_⟩
  rw [l1]
  refine call_counted h2 hw ?_
  unfold eitD at h
  cases e1 : cfind r1 r2.length with
  | none =>
    rw [e1] at h
    simp only [optI, oIsN]
    walk_at "dgo"
    exact end_keep hw (by simp [below]) h
  | some a =>
    cases e2 : cfind r2 r1.length with
    | none =>
      rw [e1, e2] at h
      simp only [optI, oIsN]
      walk_at "dgo"
      exact end_keep hw (by simp [below]) h
    | some b =>
      rw [e1, e2] at h
      simp only [optI, oIsN]
      walk_at "dgo"
      exact ⟨by decide, end_keep hw (by simp [below, belows]) h⟩
theorem call_either {S : Store} {c1 c2 : Nat} {r1 r2 : List (Int × Int)} {post : DK} (h1 : CntAt S c1 r1) (h2 : CntAt S c2 r2) (hw : WfS S) (h : post (eitD r1 r2) S) : callD sp_either [.lr c1, .lr c2] S post :=
  call_keep ⟨c1, c2, r1, r2, rfl, h1, h2, hw, rfl, h⟩ fun p q hpq ⟨c1, c2, r1, r2, a, b, c, d, e⟩ => ⟨c1, c2, r1, r2, a, b, c, d, hpq _ _ e⟩
theorem ok_either {P : Program} {w : World} {K : PySem.W.Frag} {mg : Str → Option Value} {base : Heap} {f : Addr} {fd : FuncData} (F : Fun K "_either" "_either" s_either f fd) (W : Bl mg) (C_counted : CalG P w K mg base 1 "_counted" sp_counted) :
    FnG P w K mg base CX0 2 f fd ["firsts", "seconds"] (spL K sp_either) := by
  refine fn_okG (tb := b_either) F sc_either len_either (fun cdv A outer s H E hgd hr => ?_) hd_either
  have sc := sc_either
  have hu := hr.units
  have hu1 := Nat.lt_of_le_of_lt (Nat.add_le_add_left (show 1 ≤ 64 by decide) _) hu
  have hu65 := units65 hr
  exact (dss_cons (ds_set 2 sc.nd (de_cal C_counted hgd hr (by decide) (by rfl) (da_cons (de_var 0) (da_cons (de_callB call_len_seq rul_len (by rfl) W.len_ PySem.boot_len (da_cons (de_var 1) da_nil)) da_nil))))
      (dss_cons (ds_set 3 sc.nd (de_cal C_counted hgd hr (by decide) (by rfl) (da_cons (de_var 1) (da_cons (de_callB call_len_seq rul_len (by rfl) W.len_ PySem.boot_len (da_cons (de_var 0) da_nil)) da_nil))))
      (dss_cons (ds_if (PW.pt (dw_or (dt_cmp op_isN rul_isN (de_var 2) de_non (nomark _)) (dw_or1 (dt_cmp op_isN rul_isN (de_var 3) de_non (nomark _))))) (dss_one (ds_ret de_non)) dss_nil)
      (dss_one (ds_ret (de_tup (da_cons de_str (da_cons (de_var 2) (da_cons (de_var 3) da_nil)))))))))
--@@split
theorem tE_inj {ps qs : List (Int × Int)} (h : tE ps = tE qs) : ps = qs := by
  have : ps.map dE = qs.map dE := by injection h
  refine List.map_inj_right (fun a b e => ?_) |>.mp this
  have e' : [D.int a.1, D.int a.2] = [D.int b.1, D.int b.2] := by injection e
  injection e' with e1 e2
  injection e2 with e2 _
  injection e1 with e1
  injection e2 with e2
  exact Prod.ext e1 e2
/-! sort_of -/
def sortR (n : Nat) (r1 r2 : List (Int × Int)) : D :=
  if (n : Int) = (r1.length : Int) * (r2.length : Int) then .tup [.str "free"]
  else if (n : Int) = (r1.length : Int) ∧ (n : Int) = (r2.length : Int) then .tup [.str "tied"]
  else if (n : Int) = (r1.length : Int) + (r2.length : Int) - 1 then eitD r1 r2
  else .non
theorem below_eitD (r1 r2 : List (Int × Int)) : below 0 (eitD r1 r2) = true := by
  unfold eitD
  split <;> simp [below, belows]
theorem below_sortR (n : Nat) (r1 r2 : List (Int × Int)) : below 0 (sortR n r1 r2) = true := by
  unfold sortR
  split
  · simp [below, belows]
  · split
    · simp [below, belows]
    · split
      · exact below_eitD r1 r2
      · simp [below]
theorem are_tE {d : D} (h : areD d = true) : d = tE ((partsD d).map unp) := by
  unfold areD at h
  cases d <;> simp [areD.isTup] at h
  rename_i xs
  have := all_unp (xs := xs) (by rw [List.all_eq_true]; exact h.2.1)
  show D.tup xs = .tup (List.map dE (List.map unp xs))
  rw [← this]
def b_sort_of (K : PySem.W.Frag) (cl : CL) : DS :=
  (dSeq (dIfS (dNot (dTest (dCall sp_are_pairs (dCons (dVar 0) dNil)))) (dRaise cl.c_BadPairs (dUn oNeg (dC (.int 1)))) dNext)
    (dSeq (dAsg (dCall sp_counts (dCons (dLc (wSeq (dVar 0)) (gName 2) dYes (dOp oIx (dVar 2) (dC (.int 0))) [2]) dNil)) (gName 1))
    (dSeq (dAsg (dCall sp_counts (dCons (dLc (wSeq (dVar 0)) (gName 2) dYes (dOp oIx (dVar 2) (dC (.int 1))) [2]) dNil)) (gName 3))
    (dSeq (dAsg (dCB cLen (dCons (dVar 0) dNil)) (gName 4))
    (dSeq (dIfS (dTest (dOp (oEq false) (dVar 4) (dOp oMul (dCB cLen (dCons (dVar 1) dNil)) (dCB cLen (dCons (dVar 3) dNil))))) (dRet (dTup (dCons (dC (.str "free")) dNil))) dNext)
    (dSeq (dIfS (dAnd (dTest (dOp (oEq false) (dVar 4) (dCB cLen (dCons (dVar 1) dNil)))) (dTest (dOp (oEq false) (dVar 4) (dCB cLen (dCons (dVar 3) dNil))))) (dRet (dTup (dCons (dC (.str "tied")) dNil))) dNext)
    (dSeq (dIfS (dTest (dOp (oEq false) (dVar 4) (dOp oSub (dOp oAdd2 (dCB cLen (dCons (dVar 1) dNil)) (dCB cLen (dCons (dVar 3) dNil))) (dC (.int 1))))) (dRet (dCall sp_either (dCons (dVar 1) (dCons (dVar 3) dNil)))) dNext)
    (dRet (dC .non)))))))))
def sp_sort_of (cl : CL) : DSpX := fun ds S post ex => ∃ d, ds = [d] ∧ S = [] ∧ okT d = true ∧ (partsD d).length ≤ 1000 ∧ (areD d = false → ex (.ref cl.c_BadPairs) (.int (-1)) []) ∧
  (areD d = true → ∀ ps r1 r2, d = tE ps → RowsOf (ps.map (·.1)) r1 → RowsOf (ps.map (·.2)) r2 → post (sortR ps.length r1 r2) [])
theorem len_sort_of {cl : CL} : ∀ ds S post ex, sp_sort_of cl ds S post ex → ds.length = 1 := by
  rintro _ _ _ _ ⟨_, rfl, _⟩
  rfl
theorem hd_sort_of {K : PySem.W.Frag} {cl : CL} (hC : Clf K cl) : ∀ ds S post ex, sp_sort_of cl ds S post ex → b_sort_of K cl (endsX S post ex) (startD ["pairs", "firsts", "pair", "seconds", "many"] ds) S := by
  rintro ds S post ex ⟨d, rfl, rfl, hd, hl, hx, h⟩
  unfold b_sort_of
  rw [go_seqS]
  walk_at "dgo1"
  refine call_are hd hl ?_
  walk_at "dgo1"
  cases ha : areD d with
  | false =>
    rw [if_pos (by decide : (!false) = true)]
    exact end_none (by simp [below]) (hx ha)
  | true =>
    rw [if_neg (by decide : ¬ (!true) = true)]
    have hd' := are_tE ha
    generalize (partsD d).map unp = ps at hd'
    subst hd'
    have hl' : ps.length ≤ 1000 := by
      have : ((ps.map dE).length) ≤ 1000 := hl
      rwa [List.length_map] at this
    rw [go_seqS]
    walk_at "dgo1"
    refine lc_pure (fun _ => true) (fun i => .int ((ps.map (·.1)).getD i 0)) trivial (by rw [List.length_map]; omega) (fun i d acc J hi hacc g1 _ => ?_) ?_
    · obtain ⟨p, hp, rfl⟩ := at_dE hi
      rw [getD_some (d := p.1) (by rw [List.getElem?_map, hp]; rfl)] at g1
      walk_at "dgo"
      exact ⟨hacc, g1 rfl⟩
    · have e1 : flt (fun _ => true) (fun i => D.int ((ps.map (·.1)).getD i 0)) (ps.map dE).length = (ps.map (·.1)).map .int := by
        rw [flt_all, List.length_map]
        refine List.ext_getElem (by simp) fun i h1 h2 => ?_
        simp
        rw [List.getElem?_eq_getElem (by simpa using h2)]
        rfl
      rw [e1]
      refine call_counts (j := 0) rfl (WfS.app1 (S := []) rfl (belows_ints _ _)) (by rw [List.length_map]; exact hl') fun r1 T c1 hr1 hl1 hc1 hw1 => ?_
      generalize ([] ++ [Ent.lst (List.map D.int (List.map (fun x => x.fst) ps))] ++ T) = S1 at hc1 hw1 ⊢
      rw [go_seqS]
      walk_at "dgo1"
      refine lc_pure (fun _ => true) (fun i => .int ((ps.map (·.2)).getD i 0)) trivial (by rw [List.length_map]; omega) (fun i d acc J hi hacc g1 _ => ?_) ?_
      · obtain ⟨p, hp, rfl⟩ := at_dE hi
        rw [getD_some (d := p.2) (by rw [List.getElem?_map, hp]; rfl)] at g1
        walk_at "dgo"
        exact ⟨hacc, g1 rfl⟩
      · have e2 : flt (fun _ => true) (fun i => D.int ((ps.map (·.2)).getD i 0)) (ps.map dE).length = (ps.map (·.2)).map .int := by
          rw [flt_all, List.length_map]
          refine List.ext_getElem (by simp) fun i h1 h2 => ?_
          simp
          rw [List.getElem?_eq_getElem (by simpa using h2)]
          rfl
        rw [e2]
        refine call_counts (j := S1.length) (ns := ps.map (·.2)) (by rw [List.getElem?_append_right (Nat.le_refl _), Nat.sub_self]; rfl) (hw1.app1 (e := .lst ((ps.map (·.2)).map .int)) (belows_ints _ _)) (by rw [List.length_map]; exact hl') fun r2 T2 c2 hr2 hl2 hc2 hw2 => ?_
        have hc1' : CntAt (S1 ++ [Ent.lst (List.map D.int (List.map (fun x => x.snd) ps))] ++ T2) c1 r1 := by
          rw [List.append_assoc]
          exact hc1.app
        generalize (S1 ++ [Ent.lst (List.map D.int (List.map (fun x => x.snd) ps))] ++ T2) = S2 at hc2 hw2 hc1' ⊢
        have hr := h ha ps r1 r2 rfl hr1 hr2
        obtain ⟨d1, g1, l1⟩ := hc1'.len
        obtain ⟨d2, g2, l2⟩ := hc2.len
        unfold sortR at hr
        walk_at "dgo"
        have hlen1 : r1.length ≤ 1000 := by rw [List.length_map] at hl1; omega
        have hlen2 : r2.length ≤ 1000 := by rw [List.length_map] at hl2; omega
        refine ⟨_, g1, _, g2, .inl ⟨by omega, by omega⟩, ?_⟩
        rw [l1, l2]
        by_cases q1 : (ps.length : Int) = (r1.length : Int) * (r2.length : Int)
        · rw [if_pos q1] at hr ⊢
          exact ⟨by decide, end_none (by simp [below, belows]) hr⟩
        · rw [if_neg q1] at hr ⊢
          have last : (¬ ((ps.length : Int) = (r1.length : Int) ∧ (ps.length : Int) = (r2.length : Int))) → ∃ xs, S2[c1]? = some (Ent.lst xs) ∧ ∃ ys, S2[c2]? = some (Ent.lst ys) ∧ if (ps.length : Int) = (xs.length : Int) + (ys.length : Int) - 1 then callD sp_either [D.lr c1, D.lr c2] S2 (fnEnd [] post) else fnEnd [] post D.non S2 := fun q2 => by
            rw [if_neg q2] at hr
            refine ⟨_, g1, _, g2, ?_⟩
            rw [l1, l2]
            by_cases q3 : (ps.length : Int) = (r1.length : Int) + (r2.length : Int) - 1
            · rw [if_pos q3] at hr ⊢
              exact call_either hc1' hc2 hw2 (end_none (below_eitD r1 r2) hr)
            · rw [if_neg q3] at hr ⊢
              exact end_none (by simp [below]) hr
          refine ⟨_, g1, ?_⟩
          rw [l1]
          by_cases q2 : (ps.length : Int) = (r1.length : Int)
          · rw [if_pos q2]
            refine ⟨_, g2, ?_⟩
            rw [l2]
            by_cases q3 : (ps.length : Int) = (r2.length : Int)
            · rw [if_pos ⟨q2, q3⟩] at hr
              rw [if_pos q3]
              exact ⟨by decide, end_none (by simp [below, belows]) hr⟩
            · rw [if_neg q3]
              exact last fun q => q3 q.2
          · rw [if_neg q2]
            exact last fun q => q2 q.1
theorem call_sort {K : PySem.W.Frag} {cl : CL} {S : Store} {ps : List (Int × Int)} {post : DK} (ha : areD (tE ps) = true) (hl : ps.length ≤ 1000) (h : ∀ r1 r2, RowsOf (ps.map (·.1)) r1 → RowsOf (ps.map (·.2)) r2 → post (sortR ps.length r1 r2) S) : callD (noX (sp_sort_of cl)) [tE ps] S post :=
  call_pure (by simp [belows, below_tE]) ⟨_, rfl, rfl, okT_tE ps, by show (ps.map dE).length ≤ 1000; rw [List.length_map]; exact hl, fun e => (by rw [ha] at e; cases e), fun _ qs r1 r2 e h1 h2 => by
    have e' : ps = qs := tE_inj e
    subst e'
    show post (ren _ (sortR ps.length r1 r2)) (S ++ List.map _ [])
    rw [ren_below _ _ (below_sortR _ _ _)]
    simpa using h r1 r2 h1 h2⟩
theorem ok_sort_of {P : Program} {w : World} {K : PySem.W.Frag} {mg : Str → Option Value} {base : Heap} {f : Addr} {fd : FuncData} (F : Fun K "sort_of" "sort_of" s_sort_of f fd) (W : Bl mg) (cl : CL) (M : Clm mg cl) (hC : Clf K cl) (C_either : CalG P w K mg base 2 "_either" sp_either) (C_counts : CalG P w K mg base 1 "_counts" sp_counts) (C_are_pairs : CalG P w K mg base 3 "_are_pairs" sp_are_pairs) (R_BadPairs : RaiC P w K mg base "BadPairs" cl.c_BadPairs) :
    FnG P w K mg base (L2.CX P w) 4 f fd ["pairs"] (spLX K (sp_sort_of cl)) := by
  refine fn_okX (tb := b_sort_of K cl) F sc_sort_of len_sort_of (fun cdv A outer s H E hgd hr => ?_) (hd_sort_of hC)
  have sc := sc_sort_of
  have hu := hr.units
  have hu1 := Nat.lt_of_le_of_lt (Nat.add_le_add_left (show 1 ≤ 64 by decide) _) hu
  have hu65 := units65 hr
  have tk := takes_of (X := cxOf (L2.CX P w) P w K mg base ["pairs", "firsts", "pair", "seconds", "many"] "sort_of" (defScope s_sort_of) f cdv A outer s H E) (E := E) rfl rfl rfl rfl
  exact (dss_cons (ds_if (dt_not (dt_val (de_cal C_are_pairs hgd hr (by decide) (by rfl) (da_cons (de_var 0) da_nil)))) (dss_one (ds_rai R_BadPairs rfl hr (by decide) tk (by rfl) (de_un un_neg rul_neg de_int))) dss_nil)
      (dss_cons (ds_set 1 sc.nd (de_cal C_counts hgd hr (by decide) (by rfl) (da_cons (de_lc (own := [("pair", 2)]) (ws := [2]) (by decide) rfl sc.nd (di_seq (de_var 0)) (blkOk_by (by rfl)) (fun _ _ _ _ _ => (dg_name 2 sc.nd)) (fun _ _ _ _ _ => dts_nil) (fun _ _ _ _ _ => (de_ix ix_seq rul_ix (de_var 2) de_int))) da_nil)))
      (dss_cons (ds_set 3 sc.nd (de_cal C_counts hgd hr (by decide) (by rfl) (da_cons (de_lc (own := [("pair", 2)]) (ws := [2]) (by decide) rfl sc.nd (di_seq (de_var 0)) (blkOk_by (by rfl)) (fun _ _ _ _ _ => (dg_name 2 sc.nd)) (fun _ _ _ _ _ => dts_nil) (fun _ _ _ _ _ => (de_ix ix_seq rul_ix (de_var 2) de_int))) da_nil)))
      (dss_cons (ds_set 4 sc.nd (de_callB call_len_seq rul_len (by rfl) W.len_ PySem.boot_len (da_cons (de_var 0) da_nil)))
      (dss_cons (ds_if (dt_cmp (op_eq2 hu) rul_eq (de_var 4) (de_op op_mul rul_mul (de_callB call_len_seq rul_len (by rfl) W.len_ PySem.boot_len (da_cons (de_var 1) da_nil)) (de_callB call_len_seq rul_len (by rfl) W.len_ PySem.boot_len (da_cons (de_var 3) da_nil))) (nomark _)) (dss_one (ds_ret (de_tup (da_cons de_str da_nil)))) dss_nil)
      (dss_cons (ds_if (PW.pt (dw_and (dt_cmp (op_eq2 hu) rul_eq (de_var 4) (de_callB call_len_seq rul_len (by rfl) W.len_ PySem.boot_len (da_cons (de_var 1) da_nil)) (nomark _)) (dw_and1 (dt_cmp (op_eq2 hu) rul_eq (de_var 4) (de_callB call_len_seq rul_len (by rfl) W.len_ PySem.boot_len (da_cons (de_var 3) da_nil)) (nomark _))))) (dss_one (ds_ret (de_tup (da_cons de_str da_nil)))) dss_nil)
      (dss_cons (ds_if (dt_cmp (op_eq2 hu) rul_eq (de_var 4) (de_op op_sub rul_sub (de_op op_add4 rul_add4 (de_callB call_len_seq rul_len (by rfl) W.len_ PySem.boot_len (da_cons (de_var 1) da_nil)) (de_callB call_len_seq rul_len (by rfl) W.len_ PySem.boot_len (da_cons (de_var 3) da_nil))) de_int) (nomark _)) (dss_one (ds_ret (de_cal C_either hgd hr (by decide) (by rfl) (da_cons (de_var 1) (da_cons (de_var 3) da_nil))))) dss_nil)
      (dss_one (ds_ret de_non)))))))))
--@@split
/-! counting -/
theorem sub_len {α : Type} [DecidableEq α] : ∀ {xs ys : List α}, xs.Nodup → (∀ a ∈ xs, a ∈ ys) → xs.length ≤ ys.length
  | [], _, _, _ => Nat.zero_le _
  | x :: xs, ys, hn, hs => by
    rw [List.nodup_cons] at hn
    have hx := hs x List.mem_cons_self
    have h := sub_len (xs := xs) (ys := ys.erase x) hn.2 fun a ha => (List.mem_erase_of_ne (fun e => hn.1 (by rw [← e]; exact ha))).mpr (hs a (List.mem_cons_of_mem _ ha))
    rw [List.length_erase_of_mem hx] at h
    have : 0 < ys.length := List.length_pos_of_mem hx
    rw [List.length_cons]
    omega
theorem sub_all {α : Type} [DecidableEq α] {xs ys : List α} (hn : xs.Nodup) (hs : ∀ a ∈ xs, a ∈ ys) (hl : ys.length ≤ xs.length) : ∀ a ∈ ys, a ∈ xs := fun a ha => by
  by_cases h : a ∈ xs
  · exact h
  · have h2 := sub_len (xs := a :: xs) (ys := ys) (List.nodup_cons.mpr ⟨h, hn⟩) fun b hb => (List.mem_cons.mp hb).elim (fun e => by rw [e]; exact ha) (hs b)
    rw [List.length_cons] at h2
    omega
/-- the pairs, their firsts and seconds by two functions (so that either way round is one lemma) -/
structure Grid (P : List (Int × Int)) (f g : Int × Int → Int) (F G : List Int) : Prop where
  nd : P.Nodup
  nf : F.Nodup
  ng : G.Nodup
  mf : ∀ a, a ∈ F ↔ ∃ p ∈ P, f p = a
  mg : ∀ b, b ∈ G ↔ ∃ p ∈ P, g p = b
  inj : ∀ p q : Int × Int, f p = f q → g p = g q → p = q
theorem Grid.flip {P : List (Int × Int)} {f g : Int × Int → Int} {F G : List Int} (h : Grid P f g F G) : Grid P g f G F := ⟨h.nd, h.ng, h.nf, h.mg, h.mf, fun p q a b => h.inj p q b a⟩
section
variable {P : List (Int × Int)} {f g : Int × Int → Int} {F G : List Int}
def cA (P : List (Int × Int)) (f : Int × Int → Int) (a : Int) : Nat := P.countP fun p => decide (f p = a)
theorem nd_map {α β : Type} {h : α → β} : ∀ {xs : List α}, xs.Nodup → (∀ p ∈ xs, ∀ q ∈ xs, h p = h q → p = q) → (xs.map h).Nodup
  | [], _, _ => List.nodup_nil
  | x :: xs, hn, hi => by
    rw [List.nodup_cons] at hn
    rw [List.map_cons, List.nodup_cons]
    refine ⟨fun hm => ?_, nd_map hn.2 fun p hp q hq => hi p (List.mem_cons_of_mem _ hp) q (List.mem_cons_of_mem _ hq)⟩
    obtain ⟨y, hy, e⟩ := List.mem_map.mp hm
    exact hn.1 ((hi y (List.mem_cons_of_mem _ hy) x List.mem_cons_self e) ▸ hy)
theorem Grid.le_row (h : Grid P f g F G) (a : Int) : cA P f a ≤ G.length := by
  unfold cA
  rw [List.countP_eq_length_filter, ← List.length_map (f := g)]
  refine sub_len (nd_map (h.nd.filter _) fun p hp q hq e => ?_) fun b hb => ?_
  · have h1 := (List.mem_filter.mp hp).2
    have h2 := (List.mem_filter.mp hq).2
    rw [decide_eq_true_eq] at h1 h2
    exact h.inj p q (h1.trans h2.symm) e
  · obtain ⟨p, hp, rfl⟩ := List.mem_map.mp hb
    exact (h.mg _).mpr ⟨p, (List.mem_filter.mp hp).1, rfl⟩
/-- off the row a, in the column b -/
theorem Grid.le_off (h : Grid P f g F G) {a : Int} (b : Int) (ha : a ∈ F) : (P.countP fun p => decide (f p ≠ a ∧ g p = b)) ≤ F.length - 1 := by
  rw [List.countP_eq_length_filter, ← List.length_map (f := f), ← List.length_erase_of_mem ha]
  refine sub_len (nd_map (h.nd.filter _) fun p hp q hq e => ?_) fun c hc => ?_
  · have h1 := (List.mem_filter.mp hp).2
    have h2 := (List.mem_filter.mp hq).2
    rw [decide_eq_true_eq] at h1 h2
    exact h.inj p q e (h1.2.trans h2.2.symm)
  · obtain ⟨p, hp, rfl⟩ := List.mem_map.mp hc
    have h1 := (List.mem_filter.mp hp).2
    rw [decide_eq_true_eq] at h1
    exact (List.mem_erase_of_ne h1.1).mpr ((h.mf _).mpr ⟨p, (List.mem_filter.mp hp).1, rfl⟩)
theorem split2 (P : List (Int × Int)) (c : Int × Int → Bool) : P.length = P.countP c + P.countP fun p => !c p := by
  rw [List.length_eq_countP_add_countP c]
  congr 1
  refine List.countP_congr fun p _ => ?_
  cases c p <;> simp
def HE (P : List (Int × Int)) (f g : Int × Int → Int) (a b : Int) : Prop := ∀ p ∈ P, f p = a ∨ g p = b
theorem HE.flip {a b : Int} (h : HE P f g a b) : HE P g f b a := fun p hp => (h p hp).symm
theorem Grid.full1 (h : Grid P f g F G) (hn : P.length + 1 = F.length + G.length) {a b : Int} (ha : a ∈ F) (he : HE P f g a b) : cA P f a = G.length := by
  have h1 := h.le_row a
  have h2 := h.le_off b ha
  have h3 := split2 P fun p => decide (f p = a)
  have h4 : (P.countP fun p => !decide (f p = a)) ≤ P.countP fun p => decide (f p ≠ a ∧ g p = b) := by
    refine List.countP_mono_left fun p hp hq => ?_
    have hq' : ¬ f p = a := by simpa using hq
    simpa using ⟨hq', (he p hp).resolve_left hq'⟩
  have hF : 0 < F.length := List.length_pos_of_mem ha
  unfold cA at *
  omega
theorem Grid.he_iff (h : Grid P f g F G) (hn : P.length + 1 = F.length + G.length) {a b : Int} (ha : a ∈ F) (hb : b ∈ G) : HE P f g a b ↔ cA P f a = G.length ∧ cA P g b = F.length := by
  constructor
  · exact fun he => ⟨h.full1 hn ha he, h.flip.full1 (by omega) hb he.flip⟩
  · rintro ⟨h1, h2⟩ q hq
    by_cases e1 : f q = a
    · exact .inl e1
    · by_cases e2 : g q = b
      · exact .inr e2
      · exfalso
        -- n = row a + (off a, in b) + (off a, off b)
        have s1 := split2 P fun p => decide (f p = a)
        have s2 := split2 (P.filter fun p => !decide (f p = a)) fun p => decide (g p = b)
        rw [← List.countP_eq_length_filter] at s2
        have s3 := split2 (P.filter fun p => decide (g p = b)) fun p => decide (f p = a)
        rw [← List.countP_eq_length_filter] at s3
        have c1 : ((P.filter fun p => !decide (f p = a)).countP fun p => decide (g p = b)) = (P.filter fun p => decide (g p = b)).countP fun p => !decide (f p = a) := by
          rw [List.countP_filter, List.countP_filter]
          refine List.countP_congr fun p _ => ?_
          rw [Bool.and_comm]
        have c2 : ((P.filter fun p => decide (g p = b)).countP fun p => decide (f p = a)) ≤ 1 := by
          rw [List.countP_eq_length_filter]
          have hnd : ((P.filter fun p => decide (g p = b)).filter fun p => decide (f p = a)).Nodup := (h.nd.filter _).filter _
          generalize hX : ((P.filter fun p => decide (g p = b)).filter fun p => decide (f p = a)) = X at hnd
          match X, hnd, hX with
          | [], _, _ => exact Nat.zero_le _
          | [_], _, _ => exact Nat.le_refl _
          | x :: y :: r, hnd, hX =>
            have hx : ∀ z ∈ x :: y :: r, f z = a ∧ g z = b := fun z hz => by
              rw [← hX] at hz
              have h1 := List.mem_filter.mp hz
              have h2 := List.mem_filter.mp h1.1
              exact ⟨by simpa using h1.2, by simpa using h2.2⟩
            have e : x = y := h.inj x y ((hx x (by simp)).1.trans (hx y (by simp)).1.symm) ((hx x (by simp)).2.trans (hx y (by simp)).2.symm)
            rw [List.nodup_cons] at hnd
            exact absurd (by simp [e]) hnd.1
        have c3 : 0 < (P.filter fun p => !decide (f p = a)).countP fun p => !decide (g p = b) := by
          rw [List.countP_pos_iff]
          exact ⟨q, List.mem_filter.mpr ⟨hq, by simpa using e1⟩, by simpa using e2⟩
        unfold cA at *
        omega

/-! ### when there is a sort -/
def rect (F G : List Int) : List (Int × Int) := F.flatMap fun a => G.map fun b => (a, b)
theorem rect_len : (rect F G).length = F.length * G.length := by
  unfold rect
  rw [List.length_flatMap]
  induction F with
  | nil => simp
  | cons a F ih =>
    rw [List.map_cons, List.sum_cons, ih, List.length_map, List.length_cons, Nat.succ_mul, Nat.add_comm]
theorem rect_nd (hf : F.Nodup) (hg : G.Nodup) : (rect F G).Nodup := by
  unfold rect
  refine List.pairwise_flatMap.mpr ⟨fun a _ => List.pairwise_map.mpr (hg.imp fun {x y} hxy e => hxy (by injection e)), hf.imp fun {x y} hxy p hp q hq e => ?_⟩
  obtain ⟨b, _, rfl⟩ := List.mem_map.mp hp
  obtain ⟨c, _, rfl⟩ := List.mem_map.mp hq
  exact hxy (by injection e)
def key (f g : Int × Int → Int) (p : Int × Int) : Int × Int := (f p, g p)
theorem Grid.key_nd (h : Grid P f g F G) : (P.map (key f g)).Nodup := nd_map h.nd fun p _ q _ e => by
  injection e with e1 e2
  exact h.inj p q e1 e2
theorem Grid.key_sub (h : Grid P f g F G) : ∀ k ∈ P.map (key f g), k ∈ rect F G := fun k hk => by
  obtain ⟨p, hp, rfl⟩ := List.mem_map.mp hk
  exact List.mem_flatMap.mpr ⟨f p, (h.mf _).mpr ⟨p, hp, rfl⟩, List.mem_map.mpr ⟨g p, (h.mg _).mpr ⟨p, hp, rfl⟩, rfl⟩⟩
def Full (P : List (Int × Int)) (f g : Int × Int → Int) (F G : List Int) : Prop := ∀ a ∈ F, ∀ b ∈ G, ∃ p ∈ P, f p = a ∧ g p = b
theorem Grid.full_iff (h : Grid P f g F G) : P.length = F.length * G.length ↔ Full P f g F G := by
  have e := List.length_map (as := P) (f := key f g)
  constructor
  · intro hl a ha b hb
    have := sub_all h.key_nd h.key_sub (by rw [rect_len, e, hl]; exact Nat.le_refl _) (a, b) (List.mem_flatMap.mpr ⟨a, ha, List.mem_map.mpr ⟨b, hb, rfl⟩⟩)
    obtain ⟨p, hp, e⟩ := List.mem_map.mp this
    injection e with e1 e2
    exact ⟨p, hp, e1, e2⟩
  · intro hf
    have h1 := sub_len h.key_nd h.key_sub
    have h2 := sub_len (rect_nd h.nf h.ng) (ys := P.map (key f g)) fun k hk => by
      obtain ⟨a, ha, hk⟩ := List.mem_flatMap.mp hk
      obtain ⟨b, hb, rfl⟩ := List.mem_map.mp hk
      obtain ⟨p, hp, e1, e2⟩ := hf a ha b hb
      exact List.mem_map.mpr ⟨p, hp, by show (f p, g p) = _; rw [e1, e2]⟩
    rw [rect_len] at h1 h2
    rw [e] at h1 h2
    omega
/-- each row has one pair -/
def One (P : List (Int × Int)) (f : Int × Int → Int) : Prop := ∀ p ∈ P, ∀ q ∈ P, f p = f q → p = q
theorem Grid.one_iff (h : Grid P f g F G) : P.length = F.length ↔ One P f := by
  constructor
  · intro hl p hp q hq e
    by_cases hpq : p = q
    · exact hpq
    · exfalso
      have h1 := sub_len h.nf (ys := (P.erase p).map f) fun a ha => by
        obtain ⟨r, hr, rfl⟩ := (h.mf a).mp ha
        by_cases hrp : r = p
        · subst hrp
          exact List.mem_map.mpr ⟨q, (List.mem_erase_of_ne (Ne.symm hpq)).mpr hq, e.symm⟩
        · exact List.mem_map.mpr ⟨r, (List.mem_erase_of_ne hrp).mpr hr, rfl⟩
      rw [List.length_map, List.length_erase_of_mem hp] at h1
      have := List.length_pos_of_mem hp
      omega
  · intro ho
    have h1 := sub_len (xs := P.map f) (ys := F) (nd_map h.nd ho) fun a ha => by
      obtain ⟨p, hp, rfl⟩ := List.mem_map.mp ha
      exact (h.mf _).mpr ⟨p, hp, rfl⟩
    have h2 := sub_len h.nf (ys := P.map f) fun a ha => by
      obtain ⟨p, hp, rfl⟩ := (h.mf a).mp ha
      exact List.mem_map.mpr ⟨p, hp, rfl⟩
    rw [List.length_map] at h1 h2
    omega
/-- a row that is whole -/
def Row (P : List (Int × Int)) (f g : Int × Int → Int) (G : List Int) (a : Int) : Prop := ∀ b ∈ G, ∃ p ∈ P, f p = a ∧ g p = b
theorem Grid.row_iff (h : Grid P f g F G) (a : Int) : cA P f a = G.length ↔ Row P f g G a := by
  have nd : ((P.filter fun p => decide (f p = a)).map g).Nodup := nd_map (h.nd.filter _) fun p hp q hq e => by
    have h1 := (List.mem_filter.mp hp).2
    have h2 := (List.mem_filter.mp hq).2
    rw [decide_eq_true_eq] at h1 h2
    exact h.inj p q (h1.trans h2.symm) e
  have sub : ∀ b ∈ (P.filter fun p => decide (f p = a)).map g, b ∈ G := fun b hb => by
    obtain ⟨p, hp, rfl⟩ := List.mem_map.mp hb
    exact (h.mg _).mpr ⟨p, (List.mem_filter.mp hp).1, rfl⟩
  have el : cA P f a = ((P.filter fun p => decide (f p = a)).map g).length := by
    unfold cA
    rw [List.countP_eq_length_filter, List.length_map]
  constructor
  · intro hl b hb
    have := sub_all nd sub (by rw [← el, hl]; exact Nat.le_refl _) b hb
    obtain ⟨p, hp, e⟩ := List.mem_map.mp this
    have h1 := List.mem_filter.mp hp
    exact ⟨p, h1.1, by simpa using h1.2, e⟩
  · intro hr
    have h1 := sub_len nd sub
    have h2 := sub_len h.ng (ys := (P.filter fun p => decide (f p = a)).map g) fun b hb => by
      obtain ⟨p, hp, e1, e2⟩ := hr b hb
      exact List.mem_map.mpr ⟨p, List.mem_filter.mpr ⟨hp, by simpa using e1⟩, e2⟩
    omega
/-- three pairs' move -/
def mvP (x y z : Int × Int) : Int × Int := (if x.1 = y.1 then x.1 else z.1, if x.2 = y.2 then x.2 else z.2)
/-- rows with two pairs are whole -/
def Rw (P : List (Int × Int)) (f g : Int × Int → Int) (G : List Int) : Prop := ∀ p ∈ P, ∀ q ∈ P, f p = f q → p ≠ q → Row P f g G (f p)
/-- in a grid whose rows and columns with two pairs are whole, and a row of two pairs -/
theorem Grid.caseB (h : Grid P f g F G) (hr : Rw P f g G) (hc : Rw P g f F) {p q : Int × Int} (hp : p ∈ P) (hq : q ∈ P) (e : f p = f q) (ne : p ≠ q) :
    P.length = F.length * G.length ∨ (P.length + 1 = F.length + G.length ∧ ∃ a ∈ F, ∃ b ∈ G, HE P f g a b) := by
  have ra := hr p hp q hq e ne
  have haF : f p ∈ F := (h.mf _).mpr ⟨p, hp, rfl⟩
  by_cases h1 : ∃ x ∈ P, f x ≠ f p
  · obtain ⟨x, hx, hxa⟩ := h1
    -- the column of x is whole
    obtain ⟨y, hy, y1, y2⟩ := ra (g x) ((h.mg _).mpr ⟨x, hx, rfl⟩)
    have hxy : x ≠ y := fun z => hxa (by rw [z]; exact y1)
    have cb : Row P g f F (g x) := hc x hx y hy y2.symm hxy
    by_cases h2 : ∃ u ∈ P, f u ≠ f p ∧ g u ≠ g x
    · obtain ⟨u, hu, u1, u2⟩ := h2
      -- the row of u is whole, and so is every column
      obtain ⟨v, hv, v1, v2⟩ := cb (f u) ((h.mf _).mpr ⟨u, hu, rfl⟩)
      have ru : Row P f g G (f u) := hr u hu v hv v2.symm fun z => u2 (by rw [z]; exact v1)
      refine .inl (h.full_iff.mpr fun a ha b hb => ?_)
      obtain ⟨s, hs, s1, s2⟩ := ra b hb
      obtain ⟨t, ht, t1, t2⟩ := ru b hb
      have hst : s ≠ t := fun z => u1 (by rw [← t1, ← z]; exact s1)
      have := hc s hs t ht (s2.trans t2.symm) hst a ha
      obtain ⟨w, hw, w1, w2⟩ := this
      exact ⟨w, hw, w2, w1.trans s2⟩
    · have he : HE P f g (f p) (g x) := fun u hu => by
        by_cases c : f u = f p
        · exact .inl c
        · by_cases c2 : g u = g x
          · exact .inr c2
          · exact absurd ⟨u, hu, c, c2⟩ h2
      have hb : g x ∈ G := (h.mg _).mpr ⟨x, hx, rfl⟩
      refine .inr ⟨?_, f p, haF, g x, hb, he⟩
      -- the row is whole, and off it there is just one pair in each row
      have c1 := (h.row_iff (f p)).mpr ra
      have c2 := (h.flip.row_iff (g x)).mpr cb
      have s1 := split2 P fun p' => decide (f p' = f p)
      have s2 := split2 (P.filter fun p' => decide (g p' = g x)) fun p' => decide (f p' = f p)
      rw [← List.countP_eq_length_filter] at s2
      have o1 : (P.countP fun p' => !decide (f p' = f p)) = ((P.filter fun p' => decide (g p' = g x)).countP fun p' => !decide (f p' = f p)) := by
        rw [List.countP_filter]
        refine List.countP_congr fun r hr' => ?_
        have := he r hr'
        by_cases z : f r = f p
        · simp [z]
        · simp [z, this.resolve_left z]
      have o2 : ((P.filter fun p' => decide (g p' = g x)).countP fun p' => decide (f p' = f p)) = 1 := by
        obtain ⟨s, hs, s1, s2⟩ := ra (g x) hb
        rw [List.countP_eq_length_filter]
        have hnd : ((P.filter fun p' => decide (g p' = g x)).filter fun p' => decide (f p' = f p)).Nodup := (h.nd.filter _).filter _
        have hsm : s ∈ (P.filter fun p' => decide (g p' = g x)).filter fun p' => decide (f p' = f p) := List.mem_filter.mpr ⟨List.mem_filter.mpr ⟨hs, by simpa using s2⟩, by simpa using s1⟩
        have hle := sub_len hnd (ys := [s]) fun r hr' => by
          have a1 := List.mem_filter.mp hr'
          have a2 := List.mem_filter.mp a1.1
          have b1 : f r = f p := by simpa using a1.2
          have b2 : g r = g x := by simpa using a2.2
          rw [List.mem_singleton]
          exact h.inj r s (b1.trans s1.symm) (b2.trans s2.symm)
        have := List.length_pos_of_mem hsm
        rw [List.length_singleton] at hle
        omega
      unfold cA at *
      omega
  · -- one row alone
    refine .inl (h.full_iff.mpr fun a ha b hb => ?_)
    obtain ⟨r, hr', rfl⟩ := (h.mf a).mp ha
    by_cases c : f r = f p
    · rw [c]
      exact ra b hb
    · exact absurd ⟨r, hr', c⟩ h1
/-- what is not None -/
def Sorted (P : List (Int × Int)) (f g : Int × Int → Int) (F G : List Int) : Prop := P.length = F.length * G.length ∨ (P.length = F.length ∧ P.length = G.length) ∨ (P.length + 1 = F.length + G.length ∧ ∃ a ∈ F, ∃ b ∈ G, HE P f g a b)
theorem Grid.sorted_of (h : Grid P f g F G) (hr : Rw P f g G) (hc : Rw P g f F) : Sorted P f g F G := by
  by_cases h1 : One P f
  · by_cases h2 : One P g
    · exact .inr (.inl ⟨h.one_iff.mpr h1, h.flip.one_iff.mpr h2⟩)
    · unfold One at h2
      simp only [Classical.not_forall] at h2
      obtain ⟨p, hp, q, hq, e, ne⟩ := h2
      rcases h.flip.caseB hc hr hp hq e ne with r | ⟨r1, b, hb, a, ha, r2⟩
      · exact .inl (by rw [r, Nat.mul_comm])
      · exact .inr (.inr ⟨by omega, a, ha, b, hb, r2.flip⟩)
  · unfold One at h1
    simp only [Classical.not_forall] at h1
    obtain ⟨p, hp, q, hq, e, ne⟩ := h1
    rcases h.caseB hr hc hp hq e ne with r | ⟨r1, r2⟩
    · exact .inl r
    · exact .inr (.inr ⟨r1, r2⟩)
theorem Grid.rw_of (h : Grid P f g F G) (hs : Sorted P f g F G) : Rw P f g G := by
  intro p hp q hq e ne
  rcases hs with hs | ⟨hs, _⟩ | ⟨hs, a, ha, b, hb, he⟩
  · exact fun c hc => h.full_iff.mp hs (f p) ((h.mf _).mpr ⟨p, hp, rfl⟩) c hc
  · exact absurd (h.one_iff.mp hs p hp q hq e) ne
  · -- a row of two pairs is the row a
    have h1 := (h.he_iff hs ha hb).mp he
    have hpa : f p = a := by
      rcases he p hp with z | z
      · exact z
      · rcases he q hq with z' | z'
        · exact e.trans z'
        · exact absurd (h.inj p q e (z.trans z'.symm)) ne
    rw [hpa]
    exact (h.row_iff a).mp h1.1
end
--@@split
/-! the firsts and the seconds, each once, rising -/
def SrtOf (F ns : List Int) : Prop := F.Pairwise (· < ·) ∧ ∀ v, v ∈ F ↔ v ∈ ns
theorem srt_uniq : ∀ {xs ys : List Int}, xs.Pairwise (· < ·) → ys.Pairwise (· < ·) → (∀ v, v ∈ xs ↔ v ∈ ys) → xs = ys
  | [], [], _, _, _ => rfl
  | [], y :: ys, _, _, h => absurd ((h y).mpr (by simp)) (by simp)
  | x :: xs, [], _, _, h => absurd ((h x).mp (by simp)) (by simp)
  | x :: xs, y :: ys, hx, hy, h => by
    rw [List.pairwise_cons] at hx hy
    have e : x = y := by
      have h1 := (h x).mp (by simp)
      have h2 := (h y).mpr (by simp)
      rw [List.mem_cons] at h1 h2
      rcases h1 with h1 | h1
      · exact h1
      · rcases h2 with h2 | h2
        · exact h2.symm
        · have := hy.1 x h1
          have := hx.1 y h2
          omega
    subst e
    rw [srt_uniq hx.2 hy.2 fun v => ?_]
    have := h v
    rw [List.mem_cons, List.mem_cons] at this
    constructor
    · intro hv
      rcases this.mp (.inr hv) with e | r
      · have := hx.1 v hv
        omega
      · exact r
    · intro hv
      rcases this.mpr (.inr hv) with e | r
      · have := hy.1 v hv
        omega
      · exact r
theorem srt_ex : ∀ ns : List Int, ∃ F, SrtOf F ns ∧ F.length ≤ ns.length
  | [] => ⟨[], ⟨List.Pairwise.nil, fun v => Iff.rfl⟩, Nat.le_refl _⟩
  | n :: ns => by
    obtain ⟨F, ⟨h1, h2⟩, hl⟩ := srt_ex ns
    by_cases hn : n ∈ F
    · exact ⟨F, ⟨h1, fun v => by rw [h2, List.mem_cons]; exact ⟨.inr, fun h => h.elim (fun e => e ▸ (h2 n).mp hn) id⟩⟩, by rw [List.length_cons]; omega⟩
    · refine ⟨F.filter (fun v => decide (v < n)) ++ n :: F.filter (fun v => !decide (v < n)), ⟨?_, fun v => ?_⟩, ?_⟩
      · refine List.pairwise_append.mpr ⟨h1.filter _, List.pairwise_cons.mpr ⟨fun v hv => ?_, h1.filter _⟩, fun a ha b hb => ?_⟩
        · have h := List.mem_filter.mp hv
          have hv1 : ¬ v < n := by simpa using h.2
          have hv2 : v ≠ n := fun e => hn (e ▸ h.1)
          omega
        · have ha' : a < n := by simpa using (List.mem_filter.mp ha).2
          rcases List.mem_cons.mp hb with rfl | hb
          · exact ha'
          · have hb' : ¬ b < n := by simpa using (List.mem_filter.mp hb).2
            omega
      · rw [List.mem_append, List.mem_cons, List.mem_filter, List.mem_filter, List.mem_cons, ← h2]
        by_cases c : v < n
        · have : v ≠ n := by omega
          simp [c, this]
        · simp [c]
      · rw [List.length_append, List.length_cons, List.length_cons]
        have := List.length_eq_countP_add_countP (fun v => decide (v < n)) (l := F)
        rw [List.countP_eq_length_filter, List.countP_eq_length_filter] at this
        have e : (F.filter fun v => !decide (v < n)) = F.filter fun a => decide ¬ decide (a < n) = true := List.filter_congr fun v _ => by
          by_cases c : v < n <;> simp [c]
        rw [e]
        omega
def rowsC (F ns : List Int) : List (Int × Int) := F.map fun v => (v, (ns.count v : Int))
theorem rows_canon {F ns : List Int} {r : List (Int × Int)} (h : RowsOf ns r) (hf : SrtOf F ns) : r = rowsC F ns := by
  have e : r.map (·.1) = F := srt_uniq h.up hf.1 fun v => by
    rw [hf.2]
    constructor
    · intro hv
      obtain ⟨p, hp, rfl⟩ := List.mem_map.mp hv
      exact ((h.mem p.1 p.2).mp hp).1
    · exact fun hv => List.mem_map.mpr ⟨(v, ns.count v), (h.mem v _).mpr ⟨hv, rfl⟩, rfl⟩
  unfold rowsC
  rw [← e, List.map_map]
  conv => lhs; rw [← List.map_id r]
  refine List.map_congr_left fun p hp => ?_
  show p = (p.1, (ns.count p.1 : Int))
  rw [← ((h.mem p.1 p.2).mp hp).2]
def fsts (ps : List (Int × Int)) : List Int := ps.map (·.1)
def snds (ps : List (Int × Int)) : List Int := ps.map (·.2)
/-- a valid row of pairs with its firsts and seconds -/
structure Pairs (ps : List (Int × Int)) (F G : List Int) : Prop where
  nd : ps.Nodup
  f : SrtOf F (fsts ps)
  g : SrtOf G (snds ps)
theorem srt_nd {F : List Int} (h : F.Pairwise (· < ·)) : F.Nodup := h.imp fun {a b} hab e => by omega
theorem Pairs.grid {ps : List (Int × Int)} {F G : List Int} (h : Pairs ps F G) : Grid ps (·.1) (·.2) F G :=
  ⟨h.nd, srt_nd h.f.1, srt_nd h.g.1, fun a => by rw [h.f.2]; simp [fsts], fun b => by rw [h.g.2]; simp [snds], fun p q a b => Prod.ext a b⟩
def sortC (ps : List (Int × Int)) (F G : List Int) : D := sortR ps.length (rowsC F (fsts ps)) (rowsC G (snds ps))
theorem rowsC_len {F ns : List Int} : (rowsC F ns).length = F.length := by simp [rowsC]
theorem count_cA {ps : List (Int × Int)} (h : Int × Int → Int) (a : Int) : (ps.map h).count a = cA ps h a := by
  unfold cA List.count
  rw [List.countP_map]
  refine List.countP_congr fun p _ => ?_
  simp
/-! either -/
theorem cfind_row {F ns : List Int} {m : Int} : cfind (rowsC F ns) m = F.find? fun v => decide ((ns.count v : Int) = m) := by
  unfold cfind rowsC
  rw [List.find?_map, Option.map_map]
  show Option.map _ (F.find? fun v => decide ((ns.count v : Int) = m)) = _
  cases F.find? (fun v => decide ((ns.count v : Int) = m)) <;> rfl
theorem eit_is {ps : List (Int × Int)} {F G : List Int} : eitD (rowsC F (fsts ps)) (rowsC G (snds ps)) = match F.find? (fun a => decide (cA ps (·.1) a = G.length)), G.find? (fun b => decide (cA ps (·.2) b = F.length)) with
    | some a, some b => D.tup [.str "either", .int a, .int b]
    | _, _ => D.non := by
  unfold eitD
  rw [cfind_row, cfind_row, rowsC_len, rowsC_len]
  have e1 : (fun v => decide (((fsts ps).count v : Int) = (G.length : Int))) = fun a => decide (cA ps (·.1) a = G.length) := by
    funext v
    unfold fsts
    rw [count_cA]
    by_cases h : cA ps (·.1) v = G.length
    · rw [decide_eq_true h, decide_eq_true (by omega)]
    · rw [decide_eq_false h, decide_eq_false (by omega)]
  have e2 : (fun v => decide (((snds ps).count v : Int) = (F.length : Int))) = fun b => decide (cA ps (·.2) b = F.length) := by
    funext v
    unfold snds
    rw [count_cA]
    by_cases h : cA ps (·.2) v = F.length
    · rw [decide_eq_true h, decide_eq_true (by omega)]
    · rw [decide_eq_false h, decide_eq_false (by omega)]
  rw [e1, e2]
  all_goals cases F.find? (fun a => decide (cA ps (·.1) a = G.length)) <;> cases G.find? (fun b => decide (cA ps (·.2) b = F.length)) <;> rfl
section
variable {ps : List (Int × Int)} {F G : List Int}
theorem eit_found (h : Pairs ps F G) (hn : ps.length + 1 = F.length + G.length) {F1 F2 G1 G2 : List Int} {a b : Int} (hF : F = F1 ++ a :: F2) (hG : G = G1 ++ b :: G2) (he : HE ps (·.1) (·.2) a b) (n1 : ∀ a' ∈ F1, ∀ b' ∈ G, ¬ HE ps (·.1) (·.2) a' b') (n2 : ∀ b' ∈ G1, ¬ HE ps (·.1) (·.2) a b') :
    eitD (rowsC F (fsts ps)) (rowsC G (snds ps)) = .tup [.str "either", .int a, .int b] := by
  have g := h.grid
  have ha : a ∈ F := by rw [hF]; simp
  have hb : b ∈ G := by rw [hG]; simp
  obtain ⟨c1, c2⟩ := (g.he_iff hn ha hb).mp he
  have q1 : F.find? (fun a => decide (cA ps (·.1) a = G.length)) = some a := by
    rw [hF]
    refine (List.find?_append ..).trans ?_
    have : F1.find? (fun a => decide (cA ps (·.1) a = G.length)) = none := List.find?_eq_none.mpr fun a' ha' hq => by
      have hq' : cA ps (·.1) a' = G.length := by simpa using hq
      exact n1 a' ha' b hb ((g.he_iff hn (by rw [hF]; simp [ha']) hb).mpr ⟨hq', c2⟩)
    rw [this, Option.none_or, List.find?_cons_of_pos (by simpa using c1)]
  have q2 : G.find? (fun b => decide (cA ps (·.2) b = F.length)) = some b := by
    rw [hG]
    refine (List.find?_append ..).trans ?_
    have : G1.find? (fun b => decide (cA ps (·.2) b = F.length)) = none := List.find?_eq_none.mpr fun b' hb' hq => by
      have hq' : cA ps (·.2) b' = F.length := by simpa using hq
      exact n2 b' hb' ((g.he_iff hn ha (by rw [hG]; simp [hb'])).mpr ⟨c1, hq'⟩)
    rw [this, Option.none_or, List.find?_cons_of_pos (by simpa using c2)]
  rw [eit_is, q1, q2]
theorem eit_none (h : Pairs ps F G) (hn : ps.length + 1 = F.length + G.length) (hne : ∀ a ∈ F, ∀ b ∈ G, ¬ HE ps (·.1) (·.2) a b) : eitD (rowsC F (fsts ps)) (rowsC G (snds ps)) = .non := by
  rw [eit_is]
  cases q1 : F.find? (fun a => decide (cA ps (·.1) a = G.length)) with
  | none => rfl
  | some a =>
    cases q2 : G.find? (fun b => decide (cA ps (·.2) b = F.length)) with
    | none => rfl
    | some b =>
      exfalso
      have c1 := List.find?_some q1
      have c2 := List.find?_some q2
      have ha := List.mem_of_find?_eq_some q1
      have hb := List.mem_of_find?_eq_some q2
      exact hne a ha b hb ((h.grid.he_iff hn ha hb).mpr ⟨by simpa using c1, by simpa using c2⟩)
theorem eit_some (h : Pairs ps F G) (hn : ps.length + 1 = F.length + G.length) {a b : Int} (ha : a ∈ F) (hb : b ∈ G) (he : HE ps (·.1) (·.2) a b) : ∃ a' b', a' ∈ F ∧ b' ∈ G ∧ HE ps (·.1) (·.2) a' b' ∧ eitD (rowsC F (fsts ps)) (rowsC G (snds ps)) = .tup [.str "either", .int a', .int b'] := by
  obtain ⟨c1, c2⟩ := (h.grid.he_iff hn ha hb).mp he
  rw [eit_is]
  cases q1 : F.find? (fun a => decide (cA ps (·.1) a = G.length)) with
  | none => exact absurd (by simpa using c1) (by simpa using List.find?_eq_none.mp q1 a ha)
  | some a' =>
    cases q2 : G.find? (fun b => decide (cA ps (·.2) b = F.length)) with
    | none => exact absurd (by simpa using c2) (by simpa using List.find?_eq_none.mp q2 b hb)
    | some b' =>
      have d1 := List.find?_some q1
      have d2 := List.find?_some q2
      have ha' := List.mem_of_find?_eq_some q1
      have hb' := List.mem_of_find?_eq_some q2
      exact ⟨a', b', ha', hb', (h.grid.he_iff hn ha' hb').mpr ⟨by simpa using d1, by simpa using d2⟩, rfl⟩
end
--@@split
/-! _law_has_either -/
def Big (ps : List (Int × Int)) : Prop := ps.length ≤ 60 ∧ ∀ p ∈ ps, p.1.natAbs < 2 ^ 62 ∧ p.2.natAbs < 2 ^ 62
theorem fine_dE' {p : Int × Int} (h1 : p.1.natAbs < 2 ^ 62) (h2 : p.2.natAbs < 2 ^ 62) : Fine 130 1 (dE p) := by
  have q := fine_tup (c := 64) (k := 0) (ds := [D.int p.1, D.int p.2]) fun d hd => by
    simp only [List.mem_cons, List.not_mem_nil, or_false] at hd
    rcases hd with rfl | rfl
    · exact fine_int (Nat.lt_trans h1 (by decide))
    · exact fine_int (Nat.lt_trans h2 (by decide))
  exact q
theorem oEq_lr_nil {neg : Bool} {n m : Nat} {ds : List D} {c k : Nat} {S : Store} {post : DK} (h : S[n]? = some (.lst ds)) (h2 : S[m]? = some (.lst [])) (hf : ∀ d ∈ ds, Fine c k d) (hk : k ≤ 60) (p : post (.bl (neg ^^ ds.isEmpty)) S) : oEq neg (.lr n) (.lr m) S post := by
  have q := fine_rl hf
  have pl : plains ds = true := by
    have := q.1
    rwa [DL.plain] at this
  refine ⟨.list (toPs ds), .list (toPs []), .inr ⟨n, ds, rfl, h, pl, rfl⟩, .inr ⟨m, [], rfl, h2, rfl, rfl⟩, ?_, by decide +kernel, ?_⟩
  · have := q.2.shaped (by omega)
    rwa [toP] at this
  · have e : PyData.eqv (.list (toPs ds)) (.list (toPs [])) = ds.isEmpty := by
      cases ds with
      | nil => rfl
      | cons d ds =>
        simp [toPs, PyData.eqv, PyData.eqvAll]
    rw [e]
    exact p
def heB (ps : List (Int × Int)) (a b : Int) : Bool := ps.all fun p => decide (p.1 = a) || decide (p.2 = b)
theorem heB_iff {ps : List (Int × Int)} {a b : Int} : heB ps a b = true ↔ HE ps (·.1) (·.2) a b := by
  unfold heB HE
  rw [List.all_eq_true]
  refine ⟨fun h p hp => ?_, fun h p hp => ?_⟩
  · have := h p hp
    simpa using this
  · have := h p hp
    simpa using this
theorem flt_nil {α : Type} {c : Nat → Bool} {v : Nat → α} {n : Nat} : (flt c v n).isEmpty = (List.range n).all fun i => !c i := by
  unfold flt
  rw [Bool.eq_iff_iff, List.isEmpty_iff, List.map_eq_nil_iff, List.filter_eq_nil_iff, List.all_eq_true]
  refine ⟨fun h i hi => ?_, fun h i hi => ?_⟩
  · have := h i hi
    simpa using this
  · have := h i hi
    simpa using this
theorem get_at1 {S : Store} {a b : Ent} : (S ++ [a] ++ [b])[(S ++ [a]).length]? = some b := by
  rw [List.getElem?_append_right (Nat.le_refl _), Nat.sub_self]
  rfl
def b_lhas_either : DS :=
  (dRet (dGc0 (dOp (oEq false) (dLc (wSeq (dVar 0)) (gName 3) (dAnd (dTest (dOp (oEq true) (dOp oIx (dVar 3) (dC (.int 0))) (dVar 1))) (dTest (dOp (oEq true) (dOp oIx (dVar 3) (dC (.int 1))) (dVar 2)))) (dVar 3) [3]) (dLst dNil))))
def sp_lhas_either : DSp := fun ds S post => ∃ ps a b, ds = [tE ps, .int a, .int b] ∧ S = [] ∧ Big ps ∧ post (.bl (heB ps a b)) []
theorem len_lhas_either : ∀ ds S post, sp_lhas_either ds S post → ds.length = 3 := by
  rintro _ _ _ ⟨_, _, _, rfl, _⟩
  rfl
theorem hd_lhas_either : ∀ ds S post, sp_lhas_either ds S post → b_lhas_either (endsD S post) (startD ["pairs", "a", "b", "pair"] ds) S := by
  rintro ds S post ⟨ps, a, b, rfl, rfl, hb, h⟩
  unfold b_lhas_either
  have hl := hb.1
  walk_at "dgo"
  refine lc_pure (fun i => !(decide ((ps.getD i (0, 0)).1 = a) || decide ((ps.getD i (0, 0)).2 = b))) (fun i => dE (ps.getD i (0, 0))) trivial (by rw [List.length_map]; omega) (fun i d acc J hi hacc g1 g2 => ?_) ?_
  · obtain ⟨p, hp, rfl⟩ := at_dE hi
    rw [getD_some hp] at g1 g2
    walk_at "dgo"
    by_cases c1 : p.1 = a
    · have := g2 (by simp [c1])
      simpa [c1] using this
    · by_cases c2 : p.2 = b
      · have := g2 (by simp [c2])
        simpa [c1, c2] using this
      · have := g1 (by simp [c1, c2])
        simpa [c1, c2] using ⟨hacc, this⟩
  · refine ⟨by decide, ?_⟩
    have e : ((flt (fun i => !(decide ((ps.getD i (0, 0)).1 = a) || decide ((ps.getD i (0, 0)).2 = b))) (fun i => dE (ps.getD i (0, 0))) (List.map dE ps).length).isEmpty) = heB ps a b := by
      rw [flt_nil, List.length_map]
      unfold heB
      rw [← range_all (fun p : Int × Int => decide (p.1 = a) || decide (p.2 = b)) (0, 0) ps]
      congr 1
      funext i
      rw [Bool.not_not]
    refine oEq_lr_nil (c := 130) (k := 1) (n := 0) (m := 1) rfl rfl (fun d hd => ?_) (by decide) ?_
    · obtain ⟨i, hi, _, rfl⟩ := flt_mem.mp hd
      rw [List.length_map] at hi
      have hm : ps.getD i (0, 0) ∈ ps := by
        rw [getD_some (List.getElem?_eq_getElem hi)]
        exact List.getElem_mem hi
      exact fine_dE' (hb.2 _ hm).1 (hb.2 _ hm).2
    · rw [e]
      walk_at "dgo"
      exact end_none (by simp [below]) h
theorem call_he {S : Store} {ps : List (Int × Int)} {a b : Int} {post : DK} (hb : Big ps) (h : post (.bl (heB ps a b)) S) : callD sp_lhas_either [tE ps, .int a, .int b] S post :=
  call_pure (by simp [belows, below_tE, below]) ⟨ps, a, b, rfl, rfl, hb, by simpa [ren] using h⟩
theorem ok_lhas_either {P : Program} {w : World} {K : PySem.W.Frag} {mg : Str → Option Value} {base : Heap} {f : Addr} {fd : FuncData} (F : Fun K "_law_has_either" "_law_has_either" s_lhas_either f fd) (W : Bl mg) :
    FnG P w K mg base CX0 1 f fd ["pairs", "a", "b"] (spL K sp_lhas_either) := by
  refine fn_okG (tb := b_lhas_either) F sc_lhas_either len_lhas_either (fun cdv A outer s H E hgd hr => ?_) hd_lhas_either
  have sc := sc_lhas_either
  have hu := hr.units
  have hu1 := Nat.lt_of_le_of_lt (Nat.add_le_add_left (show 1 ≤ 64 by decide) _) hu
  have hu65 := units65 hr
  exact (dss_one (ds_ret (de_gc0 (de_cmp (op_eq2 hu) rul_eq (de_lc (own := [("pair", 3)]) (ws := [3]) (by decide) rfl sc.nd (di_seq (de_var 0)) (blkOk_by (by rfl)) (fun _ _ _ _ _ => (dg_name 3 sc.nd)) (fun _ _ _ _ _ => (dts_one (PW.pt (dw_and (dt_cmp (op_ne2 hu) rul_ne (de_ix ix_seq rul_ix (de_var 3) de_int) (de_var 1) (nomark _)) (dw_and1 (dt_cmp (op_ne2 hu) rul_ne (de_ix ix_seq rul_ix (de_var 3) de_int) (de_var 2) (nomark _))))))) (fun _ _ _ _ _ => (de_var 3))) (de_lst da_nil) (nomark _)))))
/-! _law_sort -/
theorem merge_keys : ∀ (ns : List Int) (acc : List (Key × D)) (ks : List Int), acc.map (·.1) = ks.map Sum.inl → ks.Nodup → ∃ ls : List Int, (mergeD acc (ns.map fun v => ((Sum.inl v : Key), D.bl true))).map (·.1) = ls.map Sum.inl ∧ ls.Nodup ∧ (∀ v, v ∈ ls ↔ v ∈ ks ∨ v ∈ ns) ∧ ls.length ≤ ks.length + ns.length
  | [], acc, ks, h, hn => ⟨ks, h, hn, fun v => by simp, Nat.le_refl _⟩
  | n :: ns, acc, ks, h, hn => by
    have hany : (acc.any fun kv => decide (kv.1 = (Sum.inl n : Key))) = decide (n ∈ ks) := by
      have : (acc.any fun kv => decide (kv.1 = (Sum.inl n : Key))) = (acc.map (·.1)).any fun k => decide (k = (Sum.inl n : Key)) := by rw [List.any_map]; rfl
      rw [this, h, List.any_map, Bool.eq_iff_iff, List.any_eq_true, decide_eq_true_eq]
      constructor
      · rintro ⟨k, hk, e⟩
        have e' : (Sum.inl k : Key) = Sum.inl n := by simpa using e
        exact (Sum.inl.inj e') ▸ hk
      · exact fun hk => ⟨n, hk, by simp⟩
    by_cases c : n ∈ ks
    · have h2 : (putD acc (Sum.inl n) (D.bl true)).map (·.1) = ks.map Sum.inl := by
        unfold putD
        rw [if_pos (by rw [hany]; simpa using c), List.map_map, ← h]
        refine List.map_congr_left fun kv _ => ?_
        show (if kv.1 = Sum.inl n then (kv.1, D.bl true) else kv).1 = kv.1
        split <;> rfl
      obtain ⟨ls, l1, l2, l3, l4⟩ := merge_keys ns _ ks h2 hn
      refine ⟨ls, l1, l2, fun v => ?_, by rw [List.length_cons]; omega⟩
      rw [l3, List.mem_cons]
      constructor
      · rintro (h | h)
        · exact .inl h
        · exact .inr (.inr h)
      · rintro (h | h | h)
        · exact .inl h
        · exact .inl (by rw [h]; exact c)
        · exact .inr h
    · have h2 : (putD acc (Sum.inl n) (D.bl true)).map (·.1) = (ks ++ [n]).map Sum.inl := by
        unfold putD
        rw [if_neg (by rw [hany]; simpa using c), List.map_append, h, List.map_append]
        rfl
      obtain ⟨ls, l1, l2, l3, l4⟩ := merge_keys ns _ (ks ++ [n]) h2 (List.nodup_append.mpr ⟨hn, by simp, fun a ha b hb e => c (by rw [List.mem_singleton.mp hb] at e; exact e ▸ ha)⟩)
      refine ⟨ls, l1, l2, fun v => ?_, by rw [List.length_append] at l4; simp at l4; rw [List.length_cons]; omega⟩
      rw [l3, List.mem_append, List.mem_singleton, List.mem_cons, or_assoc]
/-- sorted(dict([(v, True) ..])) -/
theorem go_sdict {ns F : List Int} {S : Store} {post : DK} (hl : ns.length < 64) (hF : SrtOf F ns) (h : ∀ kvs, post (.lr (S.length + 2)) (S ++ [.lst (ns.map fun v => D.tup [.int v, .bl true]), .dct kvs, .lst (F.map .int)])) :
    cDictT [.lr S.length] (S ++ [.lst (ns.map fun v => D.tup [.int v, .bl true])]) fun d S1 => cSortedB [d] S1 post := by
  refine .inl ⟨.lr S.length, ns.map fun v => ((Sum.inl v : Key), D.bl true), rfl, seqOf_lr.mpr ?_, by rw [List.length_map]; omega, ?_⟩
  · rw [List.getElem?_append_right (Nat.le_refl _), Nat.sub_self, List.map_map]
    rfl
  · obtain ⟨ks, k1, k2, k3, k4⟩ := merge_keys ns [] [] rfl List.nodup_nil
    refine .inl (.inr ⟨_, mergeD [] (ns.map fun v => ((Sum.inl v : Key), D.bl true)), ks, rfl, ?_, k1, by simp at k4; omega, fun ms hp hs => ?_⟩)
    · rw [List.getElem?_append_right (Nat.le_refl _), Nat.sub_self]
      rfl
    · have hms : ms = F := by
        have hnd : ms.Nodup := hp.nodup_iff.mpr k2
        refine srt_uniq ?_ hF.1 fun v => by rw [hp.mem_iff, k3, hF.2]; simp
        have := List.Pairwise.and hs hnd
        exact this.imp fun {a b} hab => by omega
      subst hms
      have := h (mergeD [] (ns.map fun v => ((Sum.inl v : Key), D.bl true)))
      simpa [List.append_assoc] using this
theorem below_sortC (ps : List (Int × Int)) (F G : List Int) : below 0 (sortC ps F G) = true := below_sortR _ _ _
def b_lsort : DS :=
  (dSeq (dAsg (dCB cSortedB (dCons (dCB cDictT (dCons (dLc (wSeq (dVar 0)) (gName 2) dYes (dTup (dCons (dOp oIx (dVar 2) (dC (.int 0))) (dCons (dC (.bl true)) dNil))) [2]) dNil)) dNil)) (gName 1))
    (dSeq (dAsg (dCB cSortedB (dCons (dCB cDictT (dCons (dLc (wSeq (dVar 0)) (gName 2) dYes (dTup (dCons (dOp oIx (dVar 2) (dC (.int 1))) (dCons (dC (.bl true)) dNil))) [2]) dNil)) dNil)) (gName 3))
    (dSeq (dIfS (dTest (dOp (oEq false) (dCB cLen (dCons (dVar 0) dNil)) (dOp oMul (dCB cLen (dCons (dVar 1) dNil)) (dCB cLen (dCons (dVar 3) dNil))))) (dRet (dTup (dCons (dC (.str "free")) dNil))) dNext)
    (dSeq (dIfS (dAnd (dTest (dOp (oEq false) (dCB cLen (dCons (dVar 0) dNil)) (dCB cLen (dCons (dVar 1) dNil)))) (dTest (dOp (oEq false) (dCB cLen (dCons (dVar 0) dNil)) (dCB cLen (dCons (dVar 3) dNil))))) (dRet (dTup (dCons (dC (.str "tied")) dNil))) dNext)
    (dSeq (dIfS (dTest (dOp (oEq false) (dCB cLen (dCons (dVar 0) dNil)) (dOp oSub (dOp oAdd2 (dCB cLen (dCons (dVar 1) dNil)) (dCB cLen (dCons (dVar 3) dNil))) (dC (.int 1))))) (dFor (wSeq (dVar 1)) (gName 4) (dFor (wSeq (dVar 3)) (gName 5) (dIfS (dTest (dCall sp_lhas_either (dCons (dVar 0) (dCons (dVar 4) (dCons (dVar 5) dNil))))) (dRet (dTup (dCons (dC (.str "either")) (dCons (dVar 4) (dCons (dVar 5) dNil))))) dNext))) dNext)
    (dRet (dC .non)))))))
def sp_lsort : DSp := fun ds S post => ∃ ps F G, ds = [tE ps] ∧ S = [] ∧ Big ps ∧ Pairs ps F G ∧ post (sortC ps F G) []
theorem len_lsort : ∀ ds S post, sp_lsort ds S post → ds.length = 1 := by
  rintro _ _ _ ⟨_, _, _, rfl, _⟩
  rfl
theorem drop_split {α : Type} {xs : List α} {i : Nat} {a : α} (h : xs[i]? = some a) : xs = xs.take i ++ a :: xs.drop (i + 1) := by
  obtain ⟨hl, he⟩ := List.getElem?_eq_some_iff.mp h
  rw [← he]
  simp
theorem len_le {ps : List (Int × Int)} {F : List Int} (h : F.Pairwise (· < ·)) (hm : ∀ v, v ∈ F ↔ v ∈ fsts ps) : F.length ≤ ps.length := by
  have := sub_len (srt_nd h) (ys := fsts ps) fun v hv => (hm v).mp hv
  unfold fsts at this
  rwa [List.length_map] at this
theorem hd_lsort : ∀ ds S post, sp_lsort ds S post → b_lsort (endsD S post) (startD ["pairs", "firsts", "pair", "seconds", "a", "b"] ds) S := by
  rintro ds S post ⟨ps, F, G, rfl, rfl, hb, hP, h⟩
  have hl := hb.1
  unfold b_lsort
  rw [go_seqS]
  walk_at "dgo1"
  refine lc_pure (fun _ => true) (fun i => D.tup [.int ((fsts ps).getD i 0), .bl true]) trivial (by rw [List.length_map]; omega) (fun i d acc J hi hacc g1 _ => ?_) ?_
  · obtain ⟨p, hp, rfl⟩ := at_dE hi
    rw [getD_some (d := p.1) (by unfold fsts; rw [List.getElem?_map, hp]; rfl)] at g1
    walk_at "dgo"
    exact ⟨by decide, hacc, g1 rfl⟩
  · have e1 : flt (fun _ => true) (fun i => D.tup [.int ((fsts ps).getD i 0), .bl true]) (ps.map dE).length = (fsts ps).map fun v => D.tup [.int v, .bl true] := by
      rw [flt_all, List.length_map]
      unfold fsts
      refine List.ext_getElem (by simp) fun i h1 h2 => ?_
      simp
      rw [List.getElem?_eq_getElem (by simpa using h2)]
      rfl
    rw [e1]
    refine go_sdict (S := []) (by unfold fsts; rw [List.length_map]; omega) hP.f fun kv1 => ?_
    rw [go_seqS]
    walk_at "dgo1"
    refine lc_pure (fun _ => true) (fun i => D.tup [.int ((snds ps).getD i 0), .bl true]) trivial (by rw [List.length_map]; omega) (fun i d acc J hi hacc g1 _ => ?_) ?_
    · obtain ⟨p, hp, rfl⟩ := at_dE hi
      rw [getD_some (d := p.2) (by unfold snds; rw [List.getElem?_map, hp]; rfl)] at g1
      walk_at "dgo"
      exact ⟨by decide, hacc, g1 rfl⟩
    · have e2 : flt (fun _ => true) (fun i => D.tup [.int ((snds ps).getD i 0), .bl true]) (ps.map dE).length = (snds ps).map fun v => D.tup [.int v, .bl true] := by
        rw [flt_all, List.length_map]
        unfold snds
        refine List.ext_getElem (by simp) fun i h1 h2 => ?_
        simp
        rw [List.getElem?_eq_getElem (by simpa using h2)]
        rfl
      rw [e2]
      refine go_sdict (S := [Ent.lst ((fsts ps).map fun v => D.tup [.int v, .bl true]), .dct kv1, .lst (F.map .int)]) (by unfold snds; rw [List.length_map]; omega) hP.g fun kv2 => ?_
      have g2 : ([Ent.lst ((fsts ps).map fun v => D.tup [.int v, .bl true]), .dct kv1, .lst (F.map .int)] ++ [Ent.lst ((snds ps).map fun v => D.tup [.int v, .bl true]), .dct kv2, .lst (G.map .int)])[2]? = some (.lst (F.map .int)) := rfl
      have g5 : ([Ent.lst ((fsts ps).map fun v => D.tup [.int v, .bl true]), .dct kv1, .lst (F.map .int)] ++ [Ent.lst ((snds ps).map fun v => D.tup [.int v, .bl true]), .dct kv2, .lst (G.map .int)])[5]? = some (.lst (G.map .int)) := rfl
      generalize ([Ent.lst ((fsts ps).map fun v => D.tup [.int v, .bl true]), .dct kv1, .lst (F.map .int)] ++ [Ent.lst ((snds ps).map fun v => D.tup [.int v, .bl true]), .dct kv2, .lst (G.map .int)]) = S1 at g2 g5 ⊢
      have hF : F.length ≤ ps.length := len_le hP.f.1 hP.f.2
      have hG : G.length ≤ ps.length := by
        have := sub_len (srt_nd hP.g.1) (ys := snds ps) fun v hv => (hP.g.2 v).mp hv
        unfold snds at this
        rwa [List.length_map] at this
      unfold sortC sortR at h
      rw [rowsC_len, rowsC_len] at h
      have loops : ps.length + 1 = F.length + G.length → post (eitD (rowsC F (fsts ps)) (rowsC G (snds ps))) [] → ∀ E : DEnds, (∀ ρ S, E.nx ρ S ↔ fnEnd [] post .non S) → (∀ d S, E.rt d S ↔ fnEnd [] post d S) →
          forK (DL.gName 4) (dFor (wSeq (dVar 3)) (DL.gName 5) (dIfS (dTest (dCall sp_lhas_either (dCons (dVar 0) (dCons (dVar 4) (dCons (dVar 5) dNil))))) (dRet (dTup (dCons (dC (D.str (Str.ofString "either"))) (dCons (dVar 4) (dCons (dVar 5) dNil))))) dNext))
            E [some (D.tup (List.map dE ps)), some (D.lr 2), none, some (D.lr 5), none, none] (F.map .int) (fun S2 => S2[2]? = some (Ent.lst (F.map .int))) S1 := fun hn hpost E hnx hrt => by
        refine for_inv (fun i ρ S => (∃ t u : Option D, ρ = [some (D.tup (List.map dE ps)), some (D.lr 2), none, some (D.lr 5), t, u]) ∧ S = S1 ∧ ∀ a ∈ F.take i, ∀ b ∈ G, heB ps a b = false) ⟨⟨none, none, rfl⟩, rfl, fun a ha => by simp at ha⟩ (fun i ρ S _ hI => by obtain ⟨_, rfl, _⟩ := hI; exact g2) (fun i d ρ S hd hI => ?_) fun ρ S hI => ?_
        · obtain ⟨⟨t, u, rfl⟩, rfl, hno⟩ := hI
          obtain ⟨a, ha, _, rfl⟩ := int_at hd
          walk_at "dgo"
          refine ⟨_, g5, ?_⟩
          refine for_inv (fun j ρ S' => (∃ u : Option D, ρ = [some (D.tup (List.map dE ps)), some (D.lr 2), none, some (D.lr 5), some (D.int a), u]) ∧ S' = S ∧ ∀ b ∈ G.take j, heB ps a b = false) ⟨⟨_, rfl⟩, rfl, fun b hb => by simp at hb⟩ (fun j ρ S' _ hJ => by obtain ⟨_, rfl, _⟩ := hJ; exact g5) (fun j d ρ S' hd2 hJ => ?_) fun ρ S' hJ => ?_
          · obtain ⟨⟨u2, rfl⟩, rfl, hno2⟩ := hJ
            obtain ⟨b, hb2, _, rfl⟩ := int_at hd2
            walk_at "dgo"
            refine call_he hb ?_
            cases he : heB ps a b with
            | true =>
              simp only [go_bl, if_true]
              refine ⟨by decide, (hrt _ _).mpr (end_none (by simp [below, belows]) ?_)⟩
              rw [eit_found hP hn (drop_split ha) (drop_split hb2) (heB_iff.mp he) (fun a' ha' b' hb' q => ?_) fun b' hb' q => ?_] at hpost
              · exact hpost
              · have := hno a' ha' b' hb'
                rw [heB_iff.mpr q] at this
                cases this
              · have := hno2 b' hb'
                rw [heB_iff.mpr q] at this
                cases this
            | false =>
              simp only [go_bl, Bool.false_eq_true, if_false]
              refine ⟨⟨_, rfl⟩, trivial, fun b' hb' => ?_⟩
              rw [take_succ_some hb2, List.mem_append, List.mem_singleton] at hb'
              rcases hb' with hb' | rfl
              · exact hno2 b' hb'
              · exact he
          · obtain ⟨⟨u2, rfl⟩, rfl, hno2⟩ := hJ
            rw [List.length_map, List.take_length] at hno2
            refine ⟨⟨_, _, rfl⟩, rfl, fun a' ha' b' hb' => ?_⟩
            rw [take_succ_some ha, List.mem_append, List.mem_singleton] at ha'
            rcases ha' with ha' | rfl
            · exact hno a' ha' b' hb'
            · exact hno2 b' hb'
        · obtain ⟨⟨t, u, rfl⟩, rfl, hno⟩ := hI
          rw [List.length_map, List.take_length] at hno
          refine (hnx _ _).mpr (end_none (by simp [below]) ?_)
          rw [eit_none hP hn fun a ha b hb' q => ?_] at hpost
          · exact hpost
          · have := hno a ha b hb'
            rw [heB_iff.mpr q] at this
            cases this
      walk_at "dgo"
      refine ⟨_, g2, _, g5, .inl ⟨by rw [List.length_map]; omega, by rw [List.length_map]; omega⟩, ?_⟩
      rw [List.length_map, List.length_map]
      by_cases q1 : (ps.length : Int) = (F.length : Int) * (G.length : Int)
      · rw [if_pos q1] at h ⊢
        exact ⟨by decide, end_none (by simp [below, belows]) h⟩
      · rw [if_neg q1] at h ⊢
        refine ⟨_, g2, ?_⟩
        rw [List.length_map]
        by_cases q2 : (ps.length : Int) = (F.length : Int)
        · rw [if_pos q2]
          refine ⟨_, g5, ?_⟩
          rw [List.length_map]
          by_cases q3 : (ps.length : Int) = (G.length : Int)
          · rw [if_pos ⟨q2, q3⟩] at h
            rw [if_pos q3]
            exact ⟨by decide, end_none (by simp [below, belows]) h⟩
          · rw [if_neg (fun q => q3 q.2)] at h
            rw [if_neg q3]
            refine ⟨_, g2, _, g5, ?_⟩
            rw [List.length_map, List.length_map]
            by_cases q4 : (ps.length : Int) = (F.length : Int) + (G.length : Int) - 1
            · rw [if_pos q4] at h ⊢
              exact ⟨_, g2, loops (by omega) h _ (fun _ _ => Iff.rfl) fun _ _ => Iff.rfl⟩
            · rw [if_neg q4] at h ⊢
              exact end_none (by simp [below]) h
        · rw [if_neg (fun q => q2 q.1)] at h
          rw [if_neg q2]
          refine ⟨_, g2, _, g5, ?_⟩
          rw [List.length_map, List.length_map]
          by_cases q4 : (ps.length : Int) = (F.length : Int) + (G.length : Int) - 1
          · rw [if_pos q4] at h ⊢
            exact ⟨_, g2, loops (by omega) h _ (fun _ _ => Iff.rfl) fun _ _ => Iff.rfl⟩
          · rw [if_neg q4] at h ⊢
            exact end_none (by simp [below]) h
theorem call_lsort {S : Store} {ps : List (Int × Int)} {F G : List Int} {post : DK} (hb : Big ps) (hP : Pairs ps F G) (h : post (sortC ps F G) S) : callD sp_lsort [tE ps] S post :=
  call_pure (by simp [belows, below_tE]) ⟨ps, F, G, rfl, rfl, hb, hP, by
    show post (ren _ (sortC ps F G)) (S ++ List.map _ [])
    rw [ren_below _ _ (below_sortC ps F G)]
    simpa using h⟩
theorem ok_lsort {P : Program} {w : World} {K : PySem.W.Frag} {mg : Str → Option Value} {base : Heap} {f : Addr} {fd : FuncData} (F : Fun K "_law_sort" "_law_sort" s_lsort f fd) (W : Bl mg) (C_lhas_either : CalG P w K mg base 1 "_law_has_either" sp_lhas_either) :
    FnG P w K mg base CX0 2 f fd ["pairs"] (spL K sp_lsort) := by
  refine fn_okG (tb := b_lsort) F sc_lsort len_lsort (fun cdv A outer s H E hgd hr => ?_) hd_lsort
  have sc := sc_lsort
  have hu := hr.units
  have hu1 := Nat.lt_of_le_of_lt (Nat.add_le_add_left (show 1 ≤ 64 by decide) _) hu
  have hu65 := units65 hr
  exact (dss_cons (ds_set 1 sc.nd (de_callB (call_sortedB rfl) rul_sortedB (by rfl) W.sorted_ PyProof.Rows.boot_sorted (da_cons (de_callTy (call_dictB rfl hu65) rul_dictT (by rfl) W.dict_ PyProof.Rows.boot_dict (da_cons (de_lc (own := [("pair", 2)]) (ws := [2]) (by decide) rfl sc.nd (di_seq (de_var 0)) (blkOk_by (by rfl)) (fun _ _ _ _ _ => (dg_name 2 sc.nd)) (fun _ _ _ _ _ => dts_nil) (fun _ _ _ _ _ => (de_tup (da_cons (de_ix ix_seq rul_ix (de_var 2) de_int) (da_cons de_bl da_nil))))) da_nil)) da_nil)))
      (dss_cons (ds_set 3 sc.nd (de_callB (call_sortedB rfl) rul_sortedB (by rfl) W.sorted_ PyProof.Rows.boot_sorted (da_cons (de_callTy (call_dictB rfl hu65) rul_dictT (by rfl) W.dict_ PyProof.Rows.boot_dict (da_cons (de_lc (own := [("pair", 2)]) (ws := [2]) (by decide) rfl sc.nd (di_seq (de_var 0)) (blkOk_by (by rfl)) (fun _ _ _ _ _ => (dg_name 2 sc.nd)) (fun _ _ _ _ _ => dts_nil) (fun _ _ _ _ _ => (de_tup (da_cons (de_ix ix_seq rul_ix (de_var 2) de_int) (da_cons de_bl da_nil))))) da_nil)) da_nil)))
      (dss_cons (ds_if (dt_cmp (op_eq2 hu) rul_eq (de_callB call_len_seq rul_len (by rfl) W.len_ PySem.boot_len (da_cons (de_var 0) da_nil)) (de_op op_mul rul_mul (de_callB call_len_seq rul_len (by rfl) W.len_ PySem.boot_len (da_cons (de_var 1) da_nil)) (de_callB call_len_seq rul_len (by rfl) W.len_ PySem.boot_len (da_cons (de_var 3) da_nil))) (nomark _)) (dss_one (ds_ret (de_tup (da_cons de_str da_nil)))) dss_nil)
      (dss_cons (ds_if (PW.pt (dw_and (dt_cmp (op_eq2 hu) rul_eq (de_callB call_len_seq rul_len (by rfl) W.len_ PySem.boot_len (da_cons (de_var 0) da_nil)) (de_callB call_len_seq rul_len (by rfl) W.len_ PySem.boot_len (da_cons (de_var 1) da_nil)) (nomark _)) (dw_and1 (dt_cmp (op_eq2 hu) rul_eq (de_callB call_len_seq rul_len (by rfl) W.len_ PySem.boot_len (da_cons (de_var 0) da_nil)) (de_callB call_len_seq rul_len (by rfl) W.len_ PySem.boot_len (da_cons (de_var 3) da_nil)) (nomark _))))) (dss_one (ds_ret (de_tup (da_cons de_str da_nil)))) dss_nil)
      (dss_cons (ds_if (dt_cmp (op_eq2 hu) rul_eq (de_callB call_len_seq rul_len (by rfl) W.len_ PySem.boot_len (da_cons (de_var 0) da_nil)) (de_op op_sub rul_sub (de_op op_add4 rul_add4 (de_callB call_len_seq rul_len (by rfl) W.len_ PySem.boot_len (da_cons (de_var 1) da_nil)) (de_callB call_len_seq rul_len (by rfl) W.len_ PySem.boot_len (da_cons (de_var 3) da_nil))) de_int) (nomark _)) (dss_one (ds_for PassesOwn.never rfl (di_seq (de_var 1)) (dg_name 4 sc.nd) (dss_one (ds_for PassesOwn.never rfl (di_seq (de_var 3)) (dg_name 5 sc.nd) (dss_one (ds_if (dt_val (de_cal C_lhas_either hgd hr (by decide) (by rfl) (da_cons (de_var 0) (da_cons (de_var 4) (da_cons (de_var 5) da_nil))))) (dss_one (ds_ret (de_tup (da_cons de_str (da_cons (de_var 4) (da_cons (de_var 5) da_nil)))))) dss_nil)))))) dss_nil)
      (dss_one (ds_ret de_non)))))))
--@@split
/-! _law_moved -/
def co (p : Int × Int) (i : Nat) : Int := if i = 0 then p.1 else p.2
theorem at_co {p : Int × Int} {i : Nat} (h : i < 2) : L2.atI [D.int p.1, D.int p.2] (0 + (i : Int)) = some (.int (co p i)) := by
  match i, h with
  | 0, _ => exact go_at0
  | 1, _ => exact go_at1
def mco (x y z : Int × Int) (i : Nat) : Int := if co x i = co y i then co x i else co z i
theorem mco_dE {x y z : Int × Int} : D.tup ((List.range 2).map fun i => D.int (mco x y z i)) = dE (mvP x y z) := rfl
def b_lmoved : DS :=
  (dRet (dGc0 (dCB cTuple (dCons (dLc (wRng1 (dCons (dCB cLen (dCons (dVar 2) dNil)) dNil)) (gName 3) dYes (dIf (dTest (dOp (oEq false) (dOp oIx (dVar 0) (dVar 3)) (dOp oIx (dVar 1) (dVar 3)))) (dOp oIx (dVar 0) (dVar 3)) (dOp oIx (dVar 2) (dVar 3))) [3]) dNil))))
def sp_lmoved : DSp := fun ds S post => ∃ x y z, ds = [dE x, dE y, dE z] ∧ S = [] ∧ post (dE (mvP x y z)) []
theorem len_lmoved : ∀ ds S post, sp_lmoved ds S post → ds.length = 3 := by
  rintro _ _ _ ⟨_, _, _, rfl, _⟩
  rfl
theorem hd_lmoved : ∀ ds S post, sp_lmoved ds S post → b_lmoved (endsD S post) (startD ["x", "y", "z", "i"] ds) S := by
  rintro ds S post ⟨x, y, z, rfl, rfl, h⟩
  unfold b_lmoved
  walk_at "dgo"
  refine ⟨by decide, by decide, lc_pure (fun _ => true) (fun i => .int (mco x y z i)) trivial (by rw [upTo_len]; decide) (fun i d acc J hi hacc g1 _ => ?_) ?_⟩
  · obtain ⟨hi2, rfl⟩ := upTo_get hi
    have hi3 : i < 2 := hi2
    walk_at "dgo"
    refine ⟨_, at_co hi3, _, at_co hi3, ?_⟩
    walk_at "dgo"
    unfold mco at g1
    split
    · rename_i e
      rw [if_pos e] at g1
      exact ⟨_, at_co hi3, hacc, g1 rfl⟩
    · rename_i e
      rw [if_neg e] at g1
      exact ⟨_, at_co hi3, hacc, g1 rfl⟩
  · rw [upTo_len, flt_all]
    walk_at "dgo"
    show belows 0 ((List.range 2).map fun i => D.int (mco x y z i)) = true ∧ fnEnd [] post (D.tup ((List.range 2).map fun i => D.int (mco x y z i))) []
    rw [mco_dE]
    exact ⟨rfl, end_none (below_dE 0 _) h⟩
theorem call_moved {S : Store} {x y z : Int × Int} {post : DK} (h : post (dE (mvP x y z)) S) : callD sp_lmoved [dE x, dE y, dE z] S post :=
  call_pure (by simp [belows, below_dE]) ⟨x, y, z, rfl, rfl, by
    show post (ren _ (dE (mvP x y z))) (S ++ List.map _ [])
    rw [ren_below _ _ (below_dE 0 _)]
    simpa using h⟩
theorem ok_lmoved {P : Program} {w : World} {K : PySem.W.Frag} {mg : Str → Option Value} {base : Heap} {f : Addr} {fd : FuncData} (F : Fun K "_law_moved" "_law_moved" s_lmoved f fd) (W : Bl mg) :
    FnG P w K mg base CX0 1 f fd ["x", "y", "z"] (spL K sp_lmoved) := by
  refine fn_okG (tb := b_lmoved) F sc_lmoved len_lmoved (fun cdv A outer s H E hgd hr => ?_) hd_lmoved
  have sc := sc_lmoved
  have hu := hr.units
  have hu1 := Nat.lt_of_le_of_lt (Nat.add_le_add_left (show 1 ≤ 64 by decide) _) hu
  have hu65 := units65 hr
  exact (dss_one (ds_ret (de_gc0 (de_callTy call_tupleP rul_tuple (by rfl) W.tuple_ PyProof.Rows.boot_tuple (da_cons (de_lc (own := [("i", 3)]) (ws := [3]) (by decide) rfl sc.nd (di_rng1 (by rfl) W.range_ (da_cons (de_callB call_len_seq rul_len (by rfl) W.len_ PySem.boot_len (da_cons (de_var 2) da_nil)) da_nil)) (blkOk_by (by rfl)) (fun _ _ _ _ _ => (dg_name 3 sc.nd)) (fun _ _ _ _ _ => dts_nil) (fun _ _ _ _ _ => (de_ifExp (dt_cmp (op_eq2 hu) rul_eq (de_ix ix_seq rul_ix (de_var 0) (de_var 3)) (de_ix ix_seq rul_ix (de_var 1) (de_var 3)) (nomark _)) (de_ix ix_seq rul_ix (de_var 0) (de_var 3)) (de_ix ix_seq rul_ix (de_var 2) (de_var 3))))) da_nil)))))
/-! _law_first_three -/
def condT (ps : List (Int × Int)) : Prop := ∀ (j : Nat) (y : Int × Int), ps[j]? = some y → ∀ x ∈ ps.take j, ∀ z ∈ ps, mvP x y z ∈ ps
theorem go_kdict {ps : List (Int × Int)} {S : Store} {post : DK} (h : ∀ ks : List (List Int), (∀ p : Int × Int, [p.1, p.2] ∈ ks ↔ p ∈ ps) → post (.opq (kdP ks)) (S ++ [.lst (ps.map fun p => D.tup [dE p, .bl true])])) :
    cDictT [.lr S.length] (S ++ [.lst (ps.map fun p => D.tup [dE p, .bl true])]) post := by
  refine .inr ⟨.lr S.length, ps.map fun p => ([p.1, p.2], D.bl true), rfl, seqOf_lr.mpr ?_, (fun _ q => nomatch q), fun ks _ hk => h ks fun p => ?_⟩
  · rw [List.getElem?_append_right (Nat.le_refl _), Nat.sub_self, List.map_map]
    rfl
  · rw [hk, List.map_map]
    constructor
    · intro hm
      obtain ⟨q, hq, e⟩ := List.mem_map.mp hm
      have e' : [q.1, q.2] = [p.1, p.2] := e
      injection e' with e1 e2
      injection e2 with e2 _
      rw [← (Prod.ext e1 e2 : q = p)]
      exact hq
    · exact fun hm => List.mem_map.mpr ⟨p, hm, rfl⟩
def b_lfirst_three : DS :=
  (dSeq (dAsg (dCB cDictT (dCons (dLc (wSeq (dVar 0)) (gName 2) dYes (dTup (dCons (dVar 2) (dCons (dC (.bl true)) dNil))) [2]) dNil)) (gName 1))
    (dSeq (dFor (wRng1 (dCons (dCB cLen (dCons (dVar 0) dNil)) dNil)) (gName 3) (dFor (wSeq (dSl (dVar 0) dNoPart (dPart (dVar 3)))) (gName 4) (dFor (wSeq (dVar 0)) (gName 5) (dIfS (dTest (dOp (oInT true) (dCall sp_lmoved (dCons (dVar 4) (dCons (dOp oIx (dVar 0) (dVar 3)) (dCons (dVar 5) dNil)))) (dVar 1))) (dRet (dTup (dCons (dVar 4) (dCons (dOp oIx (dVar 0) (dVar 3)) (dCons (dVar 5) dNil))))) dNext))))
    (dRet (dC .non))))
def sp_lfirst_three : DSp := fun ds S post => ∃ ps, ds = [tE ps] ∧ S = [] ∧ ps.length ≤ 60 ∧ (condT ps → post .non []) ∧ (¬ condT ps → ∀ x y z, post (.tup [dE x, dE y, dE z]) [])
theorem len_lfirst_three : ∀ ds S post, sp_lfirst_three ds S post → ds.length = 1 := by
  rintro _ _ _ ⟨_, rfl, _⟩
  rfl
theorem hd_lfirst_three : ∀ ds S post, sp_lfirst_three ds S post → b_lfirst_three (endsD S post) (startD ["kept", "known", "page", "place", "x", "z"] ds) S := by
  rintro ds S post ⟨ps, rfl, rfl, hl, h1, h2⟩
  unfold b_lfirst_three
  rw [go_seqS]
  walk_at "dgo1"
  refine lc_pure (fun _ => true) (fun i => D.tup [dE (ps.getD i (0, 0)), .bl true]) trivial (by rw [List.length_map]; omega) (fun i d acc J hi hacc g1 _ => ?_) ?_
  · obtain ⟨p, hp, rfl⟩ := at_dE hi
    rw [getD_some hp] at g1
    walk_at "dgo"
    exact ⟨by decide, hacc, g1 rfl⟩
  · have e1 : flt (fun _ => true) (fun i => D.tup [dE (ps.getD i (0, 0)), .bl true]) (ps.map dE).length = ps.map fun p => D.tup [dE p, .bl true] := by
      rw [flt_all, List.length_map]
      refine List.ext_getElem (by simp) fun i h1 h2 => ?_
      simp
      rw [List.getElem?_eq_getElem (by simpa using h2)]
      rfl
    rw [e1]
    refine go_kdict (S := []) fun ks hks => ?_
    generalize ([] ++ [Ent.lst (List.map (fun p => D.tup [dE p, D.bl true]) ps)]) = S1
    walk_at "dgo"
    refine ⟨by omega, by omega, for_inv (fun i ρ S => (∃ a b c d : Option D, ρ = [some (D.tup (List.map dE ps)), some (.opq (kdP ks)), a, b, c, d]) ∧ S = S1 ∧ ∀ (j : Nat) (y : Int × Int), j < i → ps[j]? = some y → ∀ x ∈ ps.take j, ∀ z ∈ ps, mvP x y z ∈ ps) ⟨⟨_, _, _, _, rfl⟩, rfl, fun j y hj => absurd hj (Nat.not_lt_zero _)⟩ (fun _ _ _ _ _ => trivial) (fun i d ρ S hd hI => ?_) fun ρ S hI => ?_⟩
    · obtain ⟨⟨a, b, c, d', rfl⟩, rfl, hok⟩ := hI
      obtain ⟨hi, rfl⟩ := upTo_get hd
      have hi2 : i < ps.length := by omega
      have hy : ps[i]? = some ps[i] := List.getElem?_eq_getElem hi2
      generalize ps[i] = y at hy
      have hcut : cutD (List.map dE ps) none (some (0 + (i : Int))) = (ps.take i).map dE := by
        rw [cut_to (by omega), ← List.map_take]
        congr 2
        omega
      have hix : L2.atI (List.map dE ps) (0 + (i : Int)) = some (dE y) := atI_of (by omega) (by
        have e : (0 + (i : Int)).toNat = i := by omega
        rw [e, List.getElem?_map, hy]
        rfl)
      walk_at "dgo"
      rw [hcut]
      refine for_inv (fun k ρ S' => (∃ c d : Option D, ρ = [some (D.tup (List.map dE ps)), some (.opq (kdP ks)), a, some (.int (0 + (i : Int))), c, d]) ∧ S' = S ∧ ∀ x ∈ (ps.take i).take k, ∀ z ∈ ps, mvP x y z ∈ ps) ⟨⟨_, _, rfl⟩, rfl, fun x hx => by simp at hx⟩ (fun _ _ _ _ _ => trivial) (fun k d ρ S' hd2 hK => ?_) fun ρ S' hK => ?_
      · obtain ⟨⟨c2, d2, rfl⟩, rfl, hok2⟩ := hK
        obtain ⟨x, hx, rfl⟩ := at_dE hd2
        walk_at "dgo"
        refine for_inv (fun m ρ S'' => (∃ d : Option D, ρ = [some (D.tup (List.map dE ps)), some (.opq (kdP ks)), a, some (.int (0 + (i : Int))), some (dE x), d]) ∧ S'' = S' ∧ ∀ z ∈ ps.take m, mvP x y z ∈ ps) ⟨⟨_, rfl⟩, rfl, fun z hz => by simp at hz⟩ (fun _ _ _ _ _ => trivial) (fun m d ρ S'' hd3 hM => ?_) fun ρ S'' hM => ?_
        · obtain ⟨⟨d3, rfl⟩, rfl, hok3⟩ := hM
          obtain ⟨z, hz, rfl⟩ := at_dE hd3
          walk_at "dgo"
          refine ⟨_, hix, ?_⟩
          refine call_moved (.inr ⟨ks, [(mvP x y z).1, (mvP x y z).2], rfl, rfl, ?_⟩)
          by_cases hm : mvP x y z ∈ ps
          · have e : (true ^^ decide ([(mvP x y z).1, (mvP x y z).2] ∈ ks)) = false := by
              rw [decide_eq_true ((hks _).mpr hm)]
              rfl
            rw [e]
            simp only [go_bl, Bool.false_eq_true, if_false]
            refine ⟨⟨_, rfl⟩, trivial, fun z' hz' => ?_⟩
            rw [take_succ_some hz, List.mem_append, List.mem_singleton] at hz'
            rcases hz' with hz' | rfl
            · exact hok3 z' hz'
            · exact hm
          · have e : (true ^^ decide ([(mvP x y z).1, (mvP x y z).2] ∈ ks)) = true := by
              rw [decide_eq_false fun q => hm ((hks _).mp q)]
              rfl
            rw [e]
            simp only [go_bl, if_true]
            refine ⟨_, hix, by decide, end_none (by simp [below, belows, dE]) (h2 (fun q => hm (q i y hy x (List.mem_of_getElem? hx) z (List.mem_of_getElem? hz))) x y z)⟩
        · obtain ⟨⟨d3, rfl⟩, rfl, hok3⟩ := hM
          rw [List.length_map, List.take_length] at hok3
          refine ⟨⟨_, _, rfl⟩, rfl, fun x' hx' => ?_⟩
          rw [take_succ_some hx, List.mem_append, List.mem_singleton] at hx'
          rcases hx' with hx' | rfl
          · exact hok2 x' hx'
          · exact hok3
      · obtain ⟨⟨c2, d2, rfl⟩, rfl, hok2⟩ := hK
        rw [List.length_map, List.take_length] at hok2
        refine ⟨⟨_, _, _, _, rfl⟩, rfl, fun j y' hj hy' => ?_⟩
        by_cases hji : j = i
        · subst hji
          rw [hy] at hy'
          cases hy'
          exact hok2
        · exact hok j y' (by omega) hy'
    · obtain ⟨⟨a, b, c, d, rfl⟩, rfl, hok⟩ := hI
      rw [upTo_len] at hok
      walk_at "dgo"
      exact end_none (by simp [below]) (h1 fun j y hy => hok j y (by
        have := (List.getElem?_eq_some_iff.mp hy).1
        omega) hy)
theorem call_ft {S : Store} {ps : List (Int × Int)} {post : DK} (hl : ps.length ≤ 60) (h1 : condT ps → post .non S) (h2 : ¬ condT ps → ∀ x y z, post (.tup [dE x, dE y, dE z]) S) : callD sp_lfirst_three [tE ps] S post :=
  call_pure (by simp [belows, below_tE]) ⟨ps, rfl, rfl, hl, fun c => by simpa [ren] using h1 c, fun c x y z => by
    have := h2 c x y z
    simpa [ren, rens, dE] using this⟩
theorem ok_lfirst_three {P : Program} {w : World} {K : PySem.W.Frag} {mg : Str → Option Value} {base : Heap} {f : Addr} {fd : FuncData} (F : Fun K "_law_first_three" "_law_first_three" s_lfirst_three f fd) (W : Bl mg) (C_lmoved : CalG P w K mg base 1 "_law_moved" sp_lmoved) :
    FnG P w K mg base CX0 2 f fd ["kept"] (spL K sp_lfirst_three) := by
  refine fn_okG (tb := b_lfirst_three) F sc_lfirst_three len_lfirst_three (fun cdv A outer s H E hgd hr => ?_) hd_lfirst_three
  have sc := sc_lfirst_three
  have hu := hr.units
  have hu1 := Nat.lt_of_le_of_lt (Nat.add_le_add_left (show 1 ≤ 64 by decide) _) hu
  have hu65 := units65 hr
  exact (dss_cons (ds_set 1 sc.nd (de_callTy (call_dictB rfl hu65) rul_dictT (by rfl) W.dict_ PyProof.Rows.boot_dict (da_cons (de_lc (own := [("page", 2)]) (ws := [2]) (by decide) rfl sc.nd (di_seq (de_var 0)) (blkOk_by (by rfl)) (fun _ _ _ _ _ => (dg_name 2 sc.nd)) (fun _ _ _ _ _ => dts_nil) (fun _ _ _ _ _ => (de_tup (da_cons (de_var 2) (da_cons de_bl da_nil))))) da_nil)))
      (dss_cons (ds_for PassesOwn.never rfl (di_rng1 (by rfl) W.range_ (da_cons (de_callB call_len_seq rul_len (by rfl) W.len_ PySem.boot_len (da_cons (de_var 0) da_nil)) da_nil)) (dg_name 3 sc.nd) (dss_one (ds_for PassesOwn.never rfl (di_seq (de_sl (de_var 0) do_none (do_some (de_var 3)))) (dg_name 4 sc.nd) (dss_one (ds_for PassesOwn.never rfl (di_seq (de_var 0)) (dg_name 5 sc.nd) (dss_one (ds_if (dt_cmp (op_notIn3 hu65) rul_in3 (de_cal C_lmoved hgd hr (by decide) (by rfl) (da_cons (de_var 4) (da_cons (de_ix ix_seq rul_ix (de_var 0) (de_var 3)) (da_cons (de_var 5) da_nil)))) (de_var 1) (by with_unfolding_all rfl)) (dss_one (ds_ret (de_tup (da_cons (de_var 4) (da_cons (de_ix ix_seq rul_ix (de_var 0) (de_var 3)) (da_cons (de_var 5) da_nil)))))) dss_nil)))))))
      (dss_one (ds_ret de_non))))
def b_lis_writable : DS :=
  (dRet (dOp (oIsN false) (dCall sp_lfirst_three (dCons (dVar 0) dNil)) (dC .non)))
def sp_lis_writable : DSp := fun ds S post => ∃ ps, ds = [tE ps] ∧ S = [] ∧ ps.length ≤ 60 ∧ (condT ps → post (.bl true) []) ∧ (¬ condT ps → post (.bl false) [])
theorem len_lis_writable : ∀ ds S post, sp_lis_writable ds S post → ds.length = 1 := by
  rintro _ _ _ ⟨_, rfl, _⟩
  rfl
theorem hd_lis_writable : ∀ ds S post, sp_lis_writable ds S post → b_lis_writable (endsD S post) (startD ["kept"] ds) S := by
  rintro ds S post ⟨ps, rfl, rfl, hl, h1, h2⟩
  unfold b_lis_writable
  walk_at "dgo"
  refine call_ft hl (fun c => ?_) fun c x y z => ?_
  · exact end_none (by simp [below]) (h1 c)
  · exact end_none (by simp [below]) (h2 c)
theorem call_wr {S : Store} {ps : List (Int × Int)} {post : DK} (hl : ps.length ≤ 60) (h1 : condT ps → post (.bl true) S) (h2 : ¬ condT ps → post (.bl false) S) : callD sp_lis_writable [tE ps] S post :=
  call_pure (by simp [belows, below_tE]) ⟨ps, rfl, rfl, hl, fun c => by simpa [ren] using h1 c, fun c => by simpa [ren] using h2 c⟩
theorem ok_lis_writable {P : Program} {w : World} {K : PySem.W.Frag} {mg : Str → Option Value} {base : Heap} {f : Addr} {fd : FuncData} (F : Fun K "_law_is_writable" "_law_is_writable" s_lis_writable f fd) (W : Bl mg) (C_lfirst_three : CalG P w K mg base 2 "_law_first_three" sp_lfirst_three) :
    FnG P w K mg base CX0 3 f fd ["kept"] (spL K sp_lis_writable) := by
  refine fn_okG (tb := b_lis_writable) F sc_lis_writable len_lis_writable (fun cdv A outer s H E hgd hr => ?_) hd_lis_writable
  have sc := sc_lis_writable
  have hu := hr.units
  have hu1 := Nat.lt_of_le_of_lt (Nat.add_le_add_left (show 1 ≤ 64 by decide) _) hu
  have hu65 := units65 hr
  exact (dss_one (ds_ret (de_cmp op_isN rul_isN (de_cal C_lfirst_three hgd hr (by decide) (by rfl) (da_cons (de_var 0) da_nil)) de_non (nomark _))))
/-! a sort is there just where the moves stay -/
section
variable {ps : List (Int × Int)} {F G : List Int}
theorem cond_rw (h : Pairs ps F G) : condT ps ↔ Rw ps (·.1) (·.2) G ∧ Rw ps (·.2) (·.1) F := by
  have g := h.grid
  constructor
  · intro hc
    have two : ∀ p ∈ ps, ∀ q ∈ ps, p ≠ q → ∀ z ∈ ps, mvP p q z ∈ ps ∨ mvP q p z ∈ ps := fun p hp q hq ne z hz => by
      obtain ⟨i, hi⟩ := List.mem_iff_getElem?.mp hp
      obtain ⟨j, hj⟩ := List.mem_iff_getElem?.mp hq
      rcases Nat.lt_trichotomy i j with q1 | q1 | q1
      · exact .inl (hc j q hj p (List.mem_iff_getElem?.mpr ⟨i, by rw [List.getElem?_take_of_lt q1]; exact hi⟩) z hz)
      · subst q1
        rw [hi] at hj
        exact absurd (Option.some.inj hj) ne
      · exact .inr (hc i p hi q (List.mem_iff_getElem?.mpr ⟨j, by rw [List.getElem?_take_of_lt q1]; exact hj⟩) z hz)
    refine ⟨fun p hp q hq e ne b hb => ?_, fun p hp q hq e ne a ha => ?_⟩
    · obtain ⟨z, hz, rfl⟩ := (g.mg b).mp hb
      have e' : p.1 = q.1 := e
      have ne2 : p.2 ≠ q.2 := fun c => ne (Prod.ext e' c)
      rcases two p hp q hq ne z hz with r | r
      · exact ⟨_, r, by simp [mvP, e'], by simp [mvP, ne2]⟩
      · exact ⟨_, r, by simp [mvP, e'], by simp [mvP, ne2.symm]⟩
    · obtain ⟨z, hz, rfl⟩ := (g.mf a).mp ha
      have e' : p.2 = q.2 := e
      have ne2 : p.1 ≠ q.1 := fun c => ne (Prod.ext c e')
      rcases two p hp q hq ne z hz with r | r
      · exact ⟨_, r, by simp [mvP, e'], by simp [mvP, ne2]⟩
      · exact ⟨_, r, by simp [mvP, e'], by simp [mvP, ne2.symm]⟩
  · rintro ⟨hr, hc⟩ j y hy x hx z hz
    have hy' := List.mem_of_getElem? hy
    have hx' := List.mem_of_mem_take hx
    have ne : x ≠ y := fun e => by
      obtain ⟨i, hi⟩ := List.mem_iff_getElem?.mp hx
      have hij : i < j := by
        have := (List.getElem?_eq_some_iff.mp hi).1
        rw [List.length_take] at this
        omega
      rw [List.getElem?_take_of_lt hij] at hi
      obtain ⟨a1, a2⟩ := List.getElem?_eq_some_iff.mp hi
      obtain ⟨b1, b2⟩ := List.getElem?_eq_some_iff.mp hy
      exact (List.pairwise_iff_getElem.mp h.nd) i j a1 b1 hij (by rw [a2, b2, e])
    by_cases c1 : x.1 = y.1
    · have c2 : x.2 ≠ y.2 := fun c => ne (Prod.ext c1 c)
      obtain ⟨w, hw, w1, w2⟩ := hr x hx' y hy' c1 ne z.2 ((g.mg _).mpr ⟨z, hz, rfl⟩)
      have : mvP x y z = w := Prod.ext (by simp [mvP, c1]; rw [← c1]; exact w1.symm) (by simp [mvP, c2]; exact w2.symm)
      rw [this]
      exact hw
    · by_cases c2 : x.2 = y.2
      · obtain ⟨w, hw, w1, w2⟩ := hc x hx' y hy' c2 ne z.1 ((g.mf _).mpr ⟨z, hz, rfl⟩)
        have : mvP x y z = w := Prod.ext (by simp [mvP, c1]; exact w2.symm) (by simp [mvP, c2]; rw [← c2]; exact w1.symm)
        rw [this]
        exact hw
      · have : mvP x y z = z := by simp [mvP, c1, c2]
        rw [this]
        exact hz
theorem cond_sorted (h : Pairs ps F G) : condT ps ↔ Sorted ps (·.1) (·.2) F G := by
  rw [cond_rw h]
  have g := h.grid
  constructor
  · exact fun ⟨a, b⟩ => g.sorted_of a b
  · intro hs
    refine ⟨g.rw_of hs, g.flip.rw_of ?_⟩
    rcases hs with hs | hs | ⟨hs, a, ha, b, hb, he⟩
    · exact .inl (by rw [hs, Nat.mul_comm])
    · exact .inr (.inl ⟨hs.2, hs.1⟩)
    · exact .inr (.inr ⟨by omega, b, hb, a, ha, he.flip⟩)
theorem sortC_non (h : Pairs ps F G) (hne : ps ≠ []) : sortC ps F G = .non ↔ ¬ condT ps := by
  rw [cond_sorted h]
  have hF : 0 < F.length := by
    cases ps with
    | nil => exact absurd rfl hne
    | cons p ps => exact List.length_pos_of_mem ((h.grid.mf p.1).mpr ⟨p, by simp, rfl⟩)
  unfold sortC sortR
  rw [rowsC_len, rowsC_len]
  by_cases q1 : ps.length = F.length * G.length
  · have q1' : (ps.length : Int) = (F.length : Int) * (G.length : Int) := by rw [q1]; exact Int.natCast_mul _ _
    rw [if_pos q1']
    simp [Sorted, q1]
  · have q1' : ¬ (ps.length : Int) = (F.length : Int) * (G.length : Int) := fun e => q1 (by
      have : ((F.length * G.length : Nat) : Int) = (F.length : Int) * (G.length : Int) := Int.natCast_mul _ _
      omega)
    rw [if_neg q1']
    by_cases q2 : ps.length = F.length ∧ ps.length = G.length
    · rw [if_pos ⟨by omega, by omega⟩]
      simp only [Sorted, q2, true_and, true_or, or_true, not_true_eq_false, iff_false]
      simp [← q2.1, ← q2.2]
    · rw [if_neg (fun q => q2 ⟨by omega, by omega⟩)]
      by_cases q3 : ps.length + 1 = F.length + G.length
      · rw [if_pos (by omega)]
        constructor
        · intro e hs
          rcases hs with hs | hs | ⟨_, a, ha, b, hb, he⟩
          · exact q1 hs
          · exact q2 hs
          · obtain ⟨a', b', _, _, _, e2⟩ := eit_some h q3 ha hb he
            rw [e] at e2
            cases e2
        · intro hs
          exact eit_none h q3 fun a ha b hb he => hs (.inr (.inr ⟨q3, a, ha, b, hb, he⟩))
      · rw [if_neg (by omega)]
        simp [Sorted, q1, q2, q3]
end
--@@split
/-! _law_mixed -/
theorem perm_pull {α : Type} : ∀ {ls : List α} {r : Nat} (h : r < ls.length), (ls[r] :: ls.eraseIdx r).Perm ls
  | x :: ls, 0, _ => List.Perm.refl _
  | x :: ls, r + 1, h => by
    have h' : r < ls.length := by simpa using h
    have := perm_pull (ls := ls) (r := r) h'
    show (ls[r] :: x :: ls.eraseIdx r).Perm (x :: ls)
    exact (List.Perm.swap _ _ _).trans (this.cons x)
def b_lmixed : DS :=
  (dSeq (dPar2 2 3 (dCons (dCB cList (dCons (dVar 1) dNil)) (dCons (dLst dNil) dNil)))
    (dSeq (dFor (wRng1 (dCons (dCB cLen (dCons (dVar 1) dNil)) dNil)) (gName 4) (dDrop (dApp (dVar 3) (dPop (dVar 2) (dCall sp_ltake (dCons (dVar 0) (dCons (dCB cLen (dCons (dVar 2) dNil)) dNil)))))))
    (dRet (dVar 3))))
def sp_lmixed : DSp := fun ds S post => ∃ x y xs, ds = [.lr 0, .lr 1] ∧ S = [jar x y, .lst xs] ∧ JOk x y ∧ xs.length ≤ 1000 ∧ belows 0 xs = true ∧ ∀ ys x' y', JOk x' y' → ys.Perm xs → post (.lr 2) [jar x' y', .lst xs, .lst ys]
theorem len_lmixed : ∀ ds S post, sp_lmixed ds S post → ds.length = 2 := by
  rintro _ _ _ ⟨_, _, _, rfl, _⟩
  rfl
theorem hd_lmixed : ∀ ds S post, sp_lmixed ds S post → b_lmixed (endsD S post) (startD ["jar", "things", "left_over", "found", "place"] ds) S := by
  rintro ds S post ⟨x, y, xs, rfl, rfl, ok, hl, hb, h⟩
  unfold b_lmixed
  walk_at "dgo"
  refine ⟨by decide, _, _, rfl, by omega, by omega, for_inv (fun i ρ S => (∃ t : Option D, ρ = [some (.lr 0), some (.lr 1), some (.lr 2), some (.lr 3), t]) ∧ ∃ (ls fs : List D) (u v : Int), S = [jar u v, .lst xs, .lst ls, .lst fs] ∧ JOk u v ∧ (fs ++ ls).Perm xs ∧ fs.length = i) ⟨⟨_, rfl⟩, xs, [], x, y, rfl, ok, List.Perm.refl _, rfl⟩ (fun _ _ _ _ _ => trivial) (fun i d ρ S hd hI => ?_) fun ρ S hI => ?_⟩
  · obtain ⟨⟨t, rfl⟩, ls, fs, u, v, rfl, ok2, hp, hfl⟩ := hI
    obtain ⟨hi, rfl⟩ := upTo_get hd
    have hpl := hp.length_eq
    rw [List.length_append] at hpl
    have hls : 1 ≤ ls.length := by omega
    walk_at "dgo"
    refine call_take (j := 0) rfl ok2 (by omega) (by omega) fun r x' y' ok' a b => ?_
    have hr : r.toNat < ls.length := by omega
    walk_at "dgo"
    refine ⟨by omega, by omega, r.toNat, ixN_of a b, ls[r.toNat], List.getElem?_eq_getElem hr, by omega, ⟨_, rfl⟩, _, _, _, _, rfl, ok', ?_, by simp; omega⟩
    have q : (ls[r.toNat] :: ls.eraseIdx r.toNat).Perm ls := perm_pull hr
    refine List.Perm.trans ?_ hp
    rw [List.append_assoc]
    exact List.Perm.append_left fs q
  · obtain ⟨⟨t, rfl⟩, ls, fs, u, v, rfl, ok2, hp, hfl⟩ := hI
    rw [upTo_len] at hfl
    have hpl := hp.length_eq
    rw [List.length_append] at hpl
    have hls : ls = [] := List.length_eq_zero_iff.mp (by omega)
    subst hls
    rw [List.append_nil] at hp
    walk_at "dgo"
    exact end_new (.lst fs) (show 2 ≤ 3 by decide) rfl (by
      show belows 2 fs = true
      exact belows_mono (Nat.zero_le _) _ (belows_iff.mpr fun d hd => belows_iff.mp hb d (hp.mem_iff.mp hd))) (by simp [belowE, belows, below, belows_mono (Nat.zero_le _) _ hb]) (h fs u v ok2 hp)
theorem call_mixed {S : Store} {j k : Nat} {x y : Int} {xs : List D} {post : DK} (hjk : j ≠ k) (hj : S[j]? = some (jar x y)) (hk : S[k]? = some (.lst xs)) (ok : JOk x y) (hl : xs.length ≤ 1000) (hb : belows 0 xs = true) (h : ∀ ys x' y', JOk x' y' → ys.Perm xs → post (.lr S.length) (S.set j (jar x' y') ++ [.lst ys])) : callD sp_lmixed [.lr j, .lr k] S post := by
  refine call_two hjk hj hk (by simp [belows]) (by simp [belowE, belows, below]) hb ⟨x, y, xs, rfl, rfl, ok, hl, hb, fun ys x' y' ok' hp => ?_⟩
  have hby : belows 0 ys = true := belows_iff.mpr fun d hd => belows_iff.mp hb d (hp.mem_iff.mp hd)
  have e : (S.set j (jar x' y')).set k (.lst xs) = S.set j (jar x' y') := by
    have hkl := (List.getElem?_eq_some_iff.mp hk).1
    have : (S.set j (jar x' y'))[k]? = some (.lst xs) := by
      rw [List.getElem?_set_ne hjk]
      exact hk
    obtain ⟨hl, he⟩ := List.getElem?_eq_some_iff.mp this
    rw [← he]
    exact List.set_getElem_self hl
  simp only [List.take_succ_cons, List.take_zero, List.drop_succ_cons, List.drop_zero, List.map_cons, List.map_nil, setAll]
  rw [renE_below _ (jar x' y') (by simp [belowE, belows, below]), renE_below _ (.lst xs) hb, renE_below _ (.lst ys) hby, e]
  have : ren (rn [j, k] S.length) (.lr 2) = .lr S.length := by
    rw [ren]
    rfl
  rw [this]
  exact h ys x' y' ok' hp
theorem ok_lmixed {P : Program} {w : World} {K : PySem.W.Frag} {mg : Str → Option Value} {base : Heap} {f : Addr} {fd : FuncData} (F : Fun K "_law_mixed" "_law_mixed" s_lmixed f fd) (W : Bl mg) (C_ltake : CalG P w K mg base 1 "_law_take" sp_ltake) :
    FnG P w K mg base CX0 2 f fd ["jar", "things"] (spL K sp_lmixed) := by
  refine fn_okG (tb := b_lmixed) F sc_lmixed len_lmixed (fun cdv A outer s H E hgd hr => ?_) hd_lmixed
  have sc := sc_lmixed
  have hu := hr.units
  have hu1 := Nat.lt_of_le_of_lt (Nat.add_le_add_left (show 1 ≤ 64 by decide) _) hu
  have hu65 := units65 hr
  exact (dss_cons (ds_par2 (i := 2) (j := 3) rfl sc.nd (da_cons (de_callTy call_list_of rul_list (by rfl) W.list_ PyProof.Rows.boot_list (da_cons (de_var 1) da_nil)) (da_cons (de_lst da_nil) da_nil)))
      (dss_cons (ds_for PassesOwn.never rfl (di_rng1 (by rfl) W.range_ (da_cons (de_callB call_len_seq rul_len (by rfl) W.len_ PySem.boot_len (da_cons (de_var 1) da_nil)) da_nil)) (dg_name 4 sc.nd) (dss_one (ds_expr (de_app (de_var 3) (de_pop (de_var 2) (de_cal C_ltake hgd hr (by decide) (by rfl) (da_cons (de_var 0) (da_cons (de_callB call_len_seq rul_len (by rfl) W.len_ PySem.boot_len (da_cons (de_var 2) da_nil)) da_nil))))))))
      (dss_one (ds_ret (de_var 3)))))
/-! _law_some -/
def b_lsome : DS :=
  (dRet (dLc (wSeq (dVar 1)) (gName 2) (dTest (dOp (oEq false) (dCall sp_ltake (dCons (dVar 0) (dCons (dC (.int 2)) dNil))) (dC (.int 1)))) (dVar 2) [2]))
def sp_lsome : DSp := fun ds S post => ∃ x y xs, ds = [.lr 0, .lr 1] ∧ S = [jar x y, .lst xs] ∧ JOk x y ∧ xs.length ≤ 1000 ∧ belows 0 xs = true ∧ ∀ ys x' y', JOk x' y' → ys.Sublist xs → post (.lr 2) [jar x' y', .lst xs, .lst ys]
theorem len_lsome : ∀ ds S post, sp_lsome ds S post → ds.length = 2 := by
  rintro _ _ _ ⟨_, _, _, rfl, _⟩
  rfl
theorem hd_lsome : ∀ ds S post, sp_lsome ds S post → b_lsome (endsD S post) (startD ["jar", "things", "thing"] ds) S := by
  rintro ds S post ⟨x, y, xs, rfl, rfl, ok, hl, hb, h⟩
  unfold b_lsome
  walk_at "dgo"
  refine lc_inv (fun i acc S => ∃ u v : Int, S = [jar u v, .lst xs] ∧ JOk u v ∧ acc.Sublist (xs.take i)) ⟨x, y, rfl, ok, List.Sublist.refl _⟩ (fun i acc S _ hI => by obtain ⟨u, v, rfl, _⟩ := hI; rfl) (fun i d acc S hd hI => ?_) fun acc S hI => ?_
  · obtain ⟨u, v, rfl, ok2, hs⟩ := hI
    walk_at "dgo"
    refine call_take (j := 0) rfl ok2 (by decide) (by decide) fun r x' y' ok' a b => ?_
    have hlen := hs.length_le
    rw [List.length_take] at hlen
    walk_at "dgo"
    split
    · refine ⟨by omega, x', y', rfl, ok', ?_⟩
      rw [take_succ_some hd]
      exact hs.append (List.Sublist.refl _)
    · refine ⟨x', y', rfl, ok', ?_⟩
      rw [take_succ_some hd]
      exact hs.trans (List.sublist_append_left _ _)
  · obtain ⟨u, v, rfl, ok2, hs⟩ := hI
    rw [List.take_length] at hs
    exact end_new (.lst acc) (Nat.le_refl 2) rfl (by
      show belows 2 acc = true
      exact belows_mono (Nat.zero_le _) _ (belows_iff.mpr fun d hd => belows_iff.mp hb d (hs.subset hd))) (by simp [belowE, belows, below, belows_mono (Nat.zero_le _) _ hb]) (h acc u v ok2 hs)
theorem call_some {S : Store} {j k : Nat} {x y : Int} {xs : List D} {post : DK} (hjk : j ≠ k) (hj : S[j]? = some (jar x y)) (hk : S[k]? = some (.lst xs)) (ok : JOk x y) (hl : xs.length ≤ 1000) (hb : belows 0 xs = true) (h : ∀ ys x' y', JOk x' y' → ys.Sublist xs → post (.lr S.length) (S.set j (jar x' y') ++ [.lst ys])) : callD sp_lsome [.lr j, .lr k] S post := by
  refine call_two hjk hj hk (by simp [belows]) (by simp [belowE, belows, below]) hb ⟨x, y, xs, rfl, rfl, ok, hl, hb, fun ys x' y' ok' hp => ?_⟩
  have hby : belows 0 ys = true := belows_iff.mpr fun d hd => belows_iff.mp hb d (hp.subset hd)
  have e : (S.set j (jar x' y')).set k (.lst xs) = S.set j (jar x' y') := by
    have : (S.set j (jar x' y'))[k]? = some (.lst xs) := by
      rw [List.getElem?_set_ne hjk]
      exact hk
    obtain ⟨hl, he⟩ := List.getElem?_eq_some_iff.mp this
    rw [← he]
    exact List.set_getElem_self hl
  simp only [List.take_succ_cons, List.take_zero, List.drop_succ_cons, List.drop_zero, List.map_cons, List.map_nil, setAll]
  rw [renE_below _ (jar x' y') (by simp [belowE, belows, below]), renE_below _ (.lst xs) hb, renE_below _ (.lst ys) hby, e]
  have : ren (rn [j, k] S.length) (.lr 2) = .lr S.length := by
    rw [ren]
    rfl
  rw [this]
  exact h ys x' y' ok' hp
theorem ok_lsome {P : Program} {w : World} {K : PySem.W.Frag} {mg : Str → Option Value} {base : Heap} {f : Addr} {fd : FuncData} (F : Fun K "_law_some" "_law_some" s_lsome f fd) (W : Bl mg) (C_ltake : CalG P w K mg base 1 "_law_take" sp_ltake) :
    FnG P w K mg base CX0 2 f fd ["jar", "things"] (spL K sp_lsome) := by
  refine fn_okG (tb := b_lsome) F sc_lsome len_lsome (fun cdv A outer s H E hgd hr => ?_) hd_lsome
  have sc := sc_lsome
  have hu := hr.units
  have hu1 := Nat.lt_of_le_of_lt (Nat.add_le_add_left (show 1 ≤ 64 by decide) _) hu
  have hu65 := units65 hr
  exact (dss_one (ds_ret (de_lc (own := [("thing", 2)]) (ws := [2]) (by decide) rfl sc.nd (di_seq (de_var 1)) (blkOk_by (by rfl)) (fun _ _ _ _ _ => (dg_name 2 sc.nd)) (fun _ _ _ _ _ => (dts_one (dt_cmp (op_eq2 hu) rul_eq (de_cal C_ltake hgd hr (by decide) (by rfl) (da_cons (de_var 0) (da_cons de_int da_nil))) de_int (nomark _)))) (fun _ _ _ _ _ => (de_var 2)))))
/-! _law_product -/
def b_lproduct : DS :=
  (dSeq (dAsg (dLst dNil) (gName 2))
    (dSeq (dFor (wSeq (dVar 0)) (gName 3) (dDrop (dExt (dVar 2) (dLc (wSeq (dVar 1)) (gName 4) dYes (dTup (dCons (dVar 3) (dCons (dVar 4) dNil))) [4]))))
    (dRet (dVar 2))))
def sp_lproduct : DSp := fun ds S post => ∃ as bs, ds = [.lr 0, .lr 1] ∧ S = [.lst (as.map .int), .lst (bs.map .int)] ∧ as.length ≤ 10 ∧ bs.length ≤ 10 ∧ post (.lr 2) [.lst (as.map .int), .lst (bs.map .int), .lst ((rect as bs).map dE)]
theorem len_lproduct : ∀ ds S post, sp_lproduct ds S post → ds.length = 2 := by
  rintro _ _ _ ⟨_, _, rfl, _⟩
  rfl
theorem hd_lproduct : ∀ ds S post, sp_lproduct ds S post → b_lproduct (endsD S post) (startD ["ones", "twos", "found", "x", "y"] ds) S := by
  rintro ds S post ⟨as, bs, rfl, rfl, h1, h2, h⟩
  unfold b_lproduct
  walk_at "dgo"
  refine ⟨by decide, for_inv (fun i ρ S => (∃ t u : Option D, ρ = [some (.lr 0), some (.lr 1), some (.lr 2), t, u]) ∧ ∃ T, S = [.lst (as.map .int), .lst (bs.map .int), .lst ((rect (as.take i) bs).map dE)] ++ T) ⟨⟨_, _, rfl⟩, [], rfl⟩ (fun i ρ S _ hI => by obtain ⟨_, T, rfl⟩ := hI; rfl) (fun i d ρ S hd hI => ?_) fun ρ S hI => ?_⟩
  · obtain ⟨⟨t, u, rfl⟩, T, rfl⟩ := hI
    obtain ⟨a, ha, _, rfl⟩ := int_at hd
    walk_at "dgo"
    refine lc_pure (fun _ => true) (fun k => dE (a, bs.getD k 0)) (by rfl) (by rw [List.length_map]; omega) (fun k d acc J hk hacc g1 _ => ?_) ?_
    · obtain ⟨b, hb, e, rfl⟩ := int_at hk
      rw [e] at g1
      walk_at "dgo"
      exact ⟨by decide, hacc, g1 rfl⟩
    · have e1 : flt (fun _ => true) (fun k => dE (a, bs.getD k 0)) (bs.map D.int).length = (bs.map fun b => (a, b)).map dE := by
        rw [flt_all, List.length_map]
        refine List.ext_getElem (by simp) fun i h1 h2 => ?_
        simp
        rw [List.getElem?_eq_getElem (by simpa using h2)]
        rfl
      rw [e1]
      have hlen : (rect (as.take i) bs).length ≤ 100 := by
        rw [rect_len, List.length_take]
        exact Nat.le_trans (Nat.mul_le_mul (Nat.le_trans (Nat.min_le_right _ _) h1) h2) (by decide)
      refine go_extK.mpr ⟨_, rfl, _, by rw [List.getElem?_append_right (Nat.le_refl _), Nat.sub_self]; rfl, by rw [List.length_map, List.length_map, List.length_map]; omega, ⟨_, _, rfl⟩, T ++ [.lst ((bs.map fun b => (a, b)).map dE)], ?_⟩
      have e2 : rect (as.take (i + 1)) bs = rect (as.take i) bs ++ bs.map fun b => (a, b) := by
        unfold rect
        rw [take_succ_some ha, List.flatMap_append]
        simp
      rw [e2, List.map_append]
      rfl
  · obtain ⟨⟨t, u, rfl⟩, T, rfl⟩ := hI
    rw [List.length_map, List.take_length]
    walk_at "dgo"
    exact end_new (.lst ((rect as bs).map dE)) (Nat.le_refl 2) rfl (belows_map _ (below_dE _) _) (by simp [belowE, belows_ints]) h
theorem call_product {S : Store} {j k : Nat} {as bs : List Int} {post : DK} (hjk : j ≠ k) (hj : S[j]? = some (.lst (as.map .int))) (hk : S[k]? = some (.lst (bs.map .int))) (h1 : as.length ≤ 10) (h2 : bs.length ≤ 10) (h : post (.lr S.length) (S ++ [.lst ((rect as bs).map dE)])) : callD sp_lproduct [.lr j, .lr k] S post := by
  refine call_two hjk hj hk (by simp [belows]) (belows_ints 0 as) (belows_ints 0 bs) ⟨as, bs, rfl, rfl, h1, h2, ?_⟩
  have s1 : S.set j (.lst (as.map .int)) = S := by
    obtain ⟨hl, he⟩ := List.getElem?_eq_some_iff.mp hj
    rw [← he]
    exact List.set_getElem_self hl
  have s2 : S.set k (.lst (bs.map .int)) = S := by
    obtain ⟨hl, he⟩ := List.getElem?_eq_some_iff.mp hk
    rw [← he]
    exact List.set_getElem_self hl
  simp only [List.take_succ_cons, List.take_zero, List.drop_succ_cons, List.drop_zero, List.map_cons, List.map_nil, setAll]
  rw [renE_below _ (.lst (as.map .int)) (belows_ints 0 as), renE_below _ (.lst (bs.map .int)) (belows_ints 0 bs), renE_below _ (.lst ((rect as bs).map dE)) (belows_map _ (below_dE _) _), s1, s2]
  have : ren (rn [j, k] S.length) (.lr 2) = .lr S.length := by
    rw [ren]
    rfl
  rw [this]
  exact h
theorem ok_lproduct {P : Program} {w : World} {K : PySem.W.Frag} {mg : Str → Option Value} {base : Heap} {f : Addr} {fd : FuncData} (F : Fun K "_law_product" "_law_product" s_lproduct f fd) (W : Bl mg) :
    FnG P w K mg base CX0 1 f fd ["ones", "twos"] (spL K sp_lproduct) := by
  refine fn_okG (tb := b_lproduct) F sc_lproduct len_lproduct (fun cdv A outer s H E hgd hr => ?_) hd_lproduct
  have sc := sc_lproduct
  have hu := hr.units
  have hu1 := Nat.lt_of_le_of_lt (Nat.add_le_add_left (show 1 ≤ 64 by decide) _) hu
  have hu65 := units65 hr
  exact (dss_cons (ds_set 2 sc.nd (de_lst da_nil))
      (dss_cons (ds_for PassesOwn.never rfl (di_seq (de_var 0)) (dg_name 3 sc.nd) (dss_one (ds_expr (de_ext (de_var 2) (de_lc (own := [("y", 4)]) (ws := [4]) (by decide) rfl sc.nd (di_seq (de_var 1)) (blkOk_by (by rfl)) (fun _ _ _ _ _ => (dg_name 4 sc.nd)) (fun _ _ _ _ _ => dts_nil) (fun _ _ _ _ _ => (de_tup (da_cons (de_var 3) (da_cons (de_var 4) da_nil)))))))))
      (dss_one (ds_ret (de_var 2)))))
--@@split
/-! _law_drawn_numbers -/
def b_ldrawn_numbers : DS :=
  (dSeq (dPar2 2 3 (dCons (dLst dNil) (dCons (dUn oNeg (dC (.int 1))) dNil)))
    (dSeq (dFor (wRng1 (dCons (dOp oAdd2 (dC (.int 1)) (dCall sp_ltake (dCons (dVar 0) (dCons (dVar 1) dNil)))) dNil)) (gName 4) (dSeq (dAsg (dOp oAdd2 (dVar 3) (dGc0 (dCall sp_lone (dCons (dVar 0) (dCons (dLst (dCons (dC (.int 1)) (dCons (dC (.int 1)) (dCons (dC (.int 1)) (dCons (dC (.int 2)) (dCons (dC (.int 3)) (dCons (dOp oAdd2 (dC (.int 1)) (dCall sp_ltake (dCons (dVar 0) (dCons (dOp oPow (dC (.int 10)) (dC (.int 12))) dNil)))) dNil))))))) dNil))))) (gName 3))
    (dDrop (dApp (dVar 2) (dVar 3)))))
    (dRet (dVar 2))))
def sp_ldrawn_numbers : DSp := fun ds S post => ∃ x y most, ds = [.lr 0, .int most] ∧ S = [jar x y] ∧ JOk x y ∧ 1 ≤ most ∧ most ≤ 100 ∧ ∀ (ns : List Int) x' y', JOk x' y' → 1 ≤ ns.length → (ns.length : Int) ≤ most → ns.Pairwise (· < ·) → (∀ n ∈ ns, 0 ≤ n ∧ n < 1000000000000000) → post (.lr 1) [jar x' y', .lst (ns.map .int)]
theorem len_ldrawn_numbers : ∀ ds S post, sp_ldrawn_numbers ds S post → ds.length = 2 := by
  rintro _ _ _ ⟨_, _, _, rfl, _⟩
  rfl
theorem of_six {r : Int} {d : D} (h : d ∈ [D.int 1, D.int 1, D.int 1, D.int 2, D.int 3, D.int (1 + r)]) : ∃ z, d = .int z ∧ (z = 1 ∨ z = 2 ∨ z = 3 ∨ z = 1 + r) := by
  simp only [List.mem_cons, List.not_mem_nil, or_false] at h
  rcases h with rfl | rfl | rfl | rfl | rfl | rfl <;> exact ⟨_, rfl, by simp⟩
theorem hd_ldrawn_numbers : ∀ ds S post, sp_ldrawn_numbers ds S post → b_ldrawn_numbers (endsD S post) (startD ["jar", "most", "found", "at", "turn"] ds) S := by
  rintro ds S post ⟨x, y, most, rfl, rfl, ok, h1, h2, h⟩
  unfold b_ldrawn_numbers
  walk_at "dgo"
  refine ⟨by decide, _, _, rfl, call_take (j := 0) rfl ok h1 (by omega) fun r x' y' ok' a b => ?_⟩
  walk_at "dgo"
  refine ⟨by omega, by omega, for_inv (fun i ρ S => ∃ (at_ : Int) (t : Option D) (ns : List Int) (u v : Int), ρ = [some (.lr 0), some (.int most), some (.lr 1), some (.int at_), t] ∧ S = [jar u v, .lst (ns.map .int)] ∧ JOk u v ∧ ns.length = i ∧ ns.Pairwise (· < ·) ∧ (∀ n ∈ ns, 0 ≤ n ∧ n ≤ at_) ∧ -1 ≤ at_ ∧ at_ < 1000000000000 * (i : Int))
    ⟨-1, _, [], x', y', rfl, rfl, ok', rfl, List.Pairwise.nil, fun n hn => (nomatch hn), by decide, by decide⟩ (fun _ _ _ _ _ => trivial) (fun i d ρ S hd hI => ?_) fun ρ S hI => ?_⟩
  · obtain ⟨at_, t, ns, u, v, rfl, rfl, ok2, hl, hp, hn, ha1, ha2⟩ := hI
    obtain ⟨hi, rfl⟩ := upTo_get hd
    walk_at "dgo"
    refine ⟨⟨by decide, by decide, by decide⟩, call_take (j := 0) rfl ok2 (by decide) (by decide) fun r2 x2 y2 ok3 a2 b2 => ?_⟩
    have b2' : r2 < 1000000000000 := b2
    walk_at "dgo"
    refine ⟨by decide, call_lone (j := 0) (k := 2) (by decide) rfl rfl ok3 (by simp) (by simp) (by simp [belows, below]) fun d hd x3 y3 ok4 => ?_⟩
    obtain ⟨z, rfl, hz⟩ := of_six hd
    walk_at "dgo"
    refine ⟨by omega, at_ + z, ⟨_, rfl⟩, ns ++ [at_ + z], x3, y3, by simp, ok4, by simp [hl], ?_, fun n hm => ?_, by omega, by omega⟩
    · refine List.pairwise_append.mpr ⟨hp, by simp, fun p hp q hq => ?_⟩
      rw [List.mem_singleton.mp hq]
      have := (hn p hp).2
      omega
    · rcases List.mem_append.mp hm with hm | hm
      · have := hn n hm
        omega
      · rw [List.mem_singleton.mp hm]
        omega
  · obtain ⟨at_, t, ns, u, v, rfl, rfl, ok2, hl, hp, hn, ha1, ha2⟩ := hI
    rw [upTo_len] at hl ha2
    walk_at "dgo"
    exact end_new (.lst (ns.map .int)) (Nat.le_refl 1) rfl (belows_ints _ _) (by simp [belowE, belows, below]) (h ns u v ok2 (by omega) (by omega) hp fun n hm => ⟨(hn n hm).1, by have := (hn n hm).2; omega⟩)
theorem ok_ldrawn_numbers {P : Program} {w : World} {K : PySem.W.Frag} {mg : Str → Option Value} {base : Heap} {f : Addr} {fd : FuncData} (F : Fun K "_law_drawn_numbers" "_law_drawn_numbers" s_ldrawn_numbers f fd) (W : Bl mg) (C_ltake : CalG P w K mg base 1 "_law_take" sp_ltake) (C_lone : CalG P w K mg base 2 "_law_one" sp_lone) :
    FnG P w K mg base CX0 3 f fd ["jar", "most"] (spL K sp_ldrawn_numbers) := by
  refine fn_okG (tb := b_ldrawn_numbers) F sc_ldrawn_numbers len_ldrawn_numbers (fun cdv A outer s H E hgd hr => ?_) hd_ldrawn_numbers
  have sc := sc_ldrawn_numbers
  have hu := hr.units
  have hu1 := Nat.lt_of_le_of_lt (Nat.add_le_add_left (show 1 ≤ 64 by decide) _) hu
  have hu65 := units65 hr
  exact (dss_cons (ds_par2 (i := 2) (j := 3) rfl sc.nd (da_cons (de_lst da_nil) (da_cons (de_un un_neg rul_neg de_int) da_nil)))
      (dss_cons (ds_for PassesOwn.never rfl (di_rng1 (by rfl) W.range_ (da_cons (de_op op_add4 rul_add4 de_int (de_cal C_ltake hgd hr (by decide) (by rfl) (da_cons (de_var 0) (da_cons (de_var 1) da_nil)))) da_nil)) (dg_name 4 sc.nd) (dss_cons (ds_set 3 sc.nd (de_op op_add4 rul_add4 (de_var 3) (de_gc0 (de_cal C_lone hgd hr (by decide) (by rfl) (da_cons (de_var 0) (da_cons (de_lst (da_cons de_int (da_cons de_int (da_cons de_int (da_cons de_int (da_cons de_int (da_cons (de_op op_add4 rul_add4 de_int (de_cal C_ltake hgd hr (by decide) (by rfl) (da_cons (de_var 0) (da_cons (de_op op_pow rul_pow de_int de_int) da_nil)))) da_nil))))))) da_nil))))))
      (dss_one (ds_expr (de_app (de_var 2) (de_var 3))))))
      (dss_one (ds_ret (de_var 2)))))

theorem call_numbers {S : Store} {j : Nat} {x y most : Int} {post : DK} (hj : S[j]? = some (jar x y)) (ok : JOk x y) (h1 : 1 ≤ most) (h2 : most ≤ 100) (h : ∀ (ns : List Int) x' y', JOk x' y' → 1 ≤ ns.length → (ns.length : Int) ≤ most → ns.Pairwise (· < ·) → (∀ n ∈ ns, 0 ≤ n ∧ n < 1000000000000000) → post (.lr S.length) (S.set j (jar x' y') ++ [.lst (ns.map .int)])) : callD sp_ldrawn_numbers [.lr j, .int most] S post :=
  call_one hj (by simp [belows, below]) (by simp [belowE, belows, below]) ⟨x, y, most, rfl, rfl, ok, h1, h2, fun ns x' y' k a b c d => by
    have := h ns x' y' k a b c d
    simp only [List.take_succ_cons, List.take_zero, List.drop_succ_cons, List.drop_zero, List.map_cons, List.map_nil, setAll]
    rw [renE_below _ (jar x' y') (by simp [belowE, belows, below]), renE_below _ (.lst (ns.map .int)) (belows_ints 0 ns)]
    have e : ren (rn [j] S.length) (.lr 1) = .lr S.length := by
      rw [ren]
      rfl
    rw [e]
    exact this⟩
/-! _law_renaming -/
theorem merge_nd : ∀ (kvs acc : List (Key × D)), ((acc ++ kvs).map (·.1)).Nodup → mergeD acc kvs = acc ++ kvs
  | [], acc, _ => by simp [mergeD]
  | kv :: kvs, acc, h => by
    have e : putD acc kv.1 kv.2 = acc ++ [kv] := by
      unfold putD
      rw [if_neg ?_]
      intro q
      rw [List.any_eq_true] at q
      obtain ⟨kw, hm, hk⟩ := q
      rw [List.map_append, List.nodup_append] at h
      exact h.2.2 kw.1 (List.mem_map.mpr ⟨kw, hm, rfl⟩) kv.1 (by simp) (by simpa using hk)
    show mergeD (putD acc kv.1 kv.2) kvs = _
    rw [e, merge_nd kvs (acc ++ [kv]) (by simpa [List.append_assoc] using h)]
    simp [List.append_assoc]
def kvI (ns cs : List Int) : List (Key × D) := (ns.zip cs).map fun p => ((Sum.inl p.1 : Key), D.int p.2)
def b_lrenaming : DS :=
  (dSeq (dAsg (dCall sp_lmixed (dCons (dVar 0) (dCons (dLc (wRng1 (dCons (dCB cLen (dCons (dVar 1) dNil)) dNil)) (gName 3) dYes (dOp oAdd2 (dOp oMul (dC (.int 3)) (dVar 3)) (dCall sp_ltake (dCons (dVar 0) (dCons (dC (.int 3)) dNil)))) [3]) dNil))) (gName 2))
    (dRet (dCB cDictT (dCons (dLc (wRng1 (dCons (dCB cLen (dCons (dVar 1) dNil)) dNil)) (gName 3) dYes (dTup (dCons (dOp oIx (dVar 1) (dVar 3)) (dCons (dOp oIx (dVar 2) (dVar 3)) dNil))) [3]) dNil))))
def sp_lrenaming : DSp := fun ds S post => ∃ x y ns, ds = [.lr 0, .lr 1] ∧ S = [jar x y, .lst (ns.map .int)] ∧ JOk x y ∧ ns.length ≤ 60 ∧ ns.Nodup ∧ ∀ (cs : List Int) x' y', JOk x' y' → cs.length = ns.length → cs.Nodup → (∀ c ∈ cs, 0 ≤ c ∧ c < 1000) → post (.lr 2) [jar x' y', .lst (ns.map .int), .dct (kvI ns cs)]
theorem len_lrenaming : ∀ ds S post, sp_lrenaming ds S post → ds.length = 2 := by
  rintro _ _ _ ⟨_, _, _, rfl, _⟩
  rfl
theorem perm_ints {ns : List Int} {ys : List D} (h : ys.Perm (ns.map D.int)) : ∃ ms : List Int, ys = ms.map D.int ∧ ms.Perm ns := by
  refine ⟨ys.map fun d => match d with | .int i => i | _ => 0, ?_, ?_⟩
  · rw [List.map_map]
    conv => lhs; rw [← List.map_id ys]
    refine List.map_congr_left fun d hd => ?_
    obtain ⟨i, _, rfl⟩ := List.mem_map.mp (h.mem_iff.mp hd)
    rfl
  · have := h.map fun d => match d with | .int i => i | _ => (0 : Int)
    rw [List.map_map] at this
    have e : ((fun d => match d with | .int i => i | _ => (0 : Int)) ∘ D.int) = id := rfl
    rwa [e, List.map_id] at this
theorem hd_lrenaming : ∀ ds S post, sp_lrenaming ds S post → b_lrenaming (endsD S post) (startD ["jar", "numbers", "calls", "k"] ds) S := by
  rintro ds S post ⟨x, y, ns, rfl, rfl, ok, hl, hnd, h⟩
  unfold b_lrenaming
  walk_at "dgo"
  refine ⟨by omega, by omega, lc_inv (fun i acc S => ∃ (vs : List Int) (u v : Int), acc = vs.map .int ∧ S = [jar u v, .lst (ns.map .int)] ∧ JOk u v ∧ vs.length = i ∧ vs.Pairwise (· < ·) ∧ ∀ w ∈ vs, 0 ≤ w ∧ w < 3 * (i : Int)) ⟨[], x, y, rfl, rfl, ok, rfl, List.Pairwise.nil, fun w hw => nomatch hw⟩ (fun _ _ _ _ _ => trivial) (fun i d acc S hd hI => ?_) fun acc S hI => ?_⟩
  · obtain ⟨vs, u, v, rfl, rfl, ok2, hvl, hp, hv⟩ := hI
    obtain ⟨hi, rfl⟩ := upTo_get hd
    walk_at "dgo"
    refine ⟨.inl ⟨by decide, by decide⟩, call_take (j := 0) rfl ok2 (by decide) (by decide) fun r x' y' ok' a b => ?_⟩
    walk_at "dgo"
    refine ⟨by omega, vs ++ [3 * (0 + (i : Int)) + r], by simp, x', y', rfl, ok', by simp [hvl], ?_, fun w hw => ?_⟩
    · refine List.pairwise_append.mpr ⟨hp, by simp, fun p hp q hq => ?_⟩
      rw [List.mem_singleton.mp hq]
      have := (hv p hp).2
      omega
    · rcases List.mem_append.mp hw with hw | hw
      · have := hv w hw
        omega
      · rw [List.mem_singleton.mp hw]
        omega
  · obtain ⟨vs, u, v, rfl, rfl, ok2, hvl, hp, hv⟩ := hI
    rw [upTo_len] at hvl hv
    refine call_mixed (j := 0) (k := 2) (by decide) rfl rfl ok2 (by rw [List.length_map]; omega) (belows_ints 0 vs) fun ys x' y' ok' hpy => ?_
    obtain ⟨cs, rfl, hpc⟩ := perm_ints hpy
    have hcl : cs.length = ns.length := by
      have := hpc.length_eq
      omega
    walk_at "dgo"
    refine ⟨by omega, by omega, lc_pure (fun _ => true) (fun i => D.tup [.int (ns.getD i 0), .int (cs.getD i 0)]) trivial (by rw [upTo_len]; omega) (fun i d acc J hd hacc g1 _ => ?_) ?_⟩
    · obtain ⟨hi, rfl⟩ := upTo_get hd
      have hi2 : i < ns.length := by omega
      have q1 : L2.atI (ns.map D.int) (0 + (i : Int)) = some (.int (ns.getD i 0)) := atI_of (by omega) (by
        have e : (0 + (i : Int)).toNat = i := by omega
        rw [e, List.getElem?_map, List.getElem?_eq_getElem hi2, getD_some (List.getElem?_eq_getElem hi2)]
        rfl)
      have hi3 : i < cs.length := by omega
      have q2 : L2.atI (cs.map D.int) (0 + (i : Int)) = some (.int (cs.getD i 0)) := atI_of (by omega) (by
        have e : (0 + (i : Int)).toNat = i := by omega
        rw [e, List.getElem?_map, List.getElem?_eq_getElem hi3, getD_some (List.getElem?_eq_getElem hi3)]
        rfl)
      walk_at "dgo"
      exact ⟨_, q1, _, q2, by decide, hacc, g1 rfl⟩
    · rw [upTo_len, flt_all]
      have e1 : ((List.range (ns.length : Int).toNat).map fun i => D.tup [.int (ns.getD i 0), .int (cs.getD i 0)]) = (kvI ns cs).map DL.pairD := by
        have e0 : (ns.length : Int).toNat = ns.length := by omega
        rw [e0]
        unfold kvI
        rw [List.map_map]
        refine List.ext_getElem (by simp [hcl]) fun i h1 h2 => ?_
        have a1 : i < ns.length := by simpa using h1
        have a2 : i < cs.length := by omega
        simp
        rw [List.getElem?_eq_getElem a1, List.getElem?_eq_getElem a2]
        rfl
      rw [e1]
      have hk : ((kvI ns cs).map (·.1)).Nodup := by
        unfold kvI
        rw [List.map_map]
        have : (((fun x : Key × D => x.1) ∘ fun p : Int × Int => ((Sum.inl p.1 : Key), D.int p.2))) = (fun v : Int => (Sum.inl v : Key)) ∘ Prod.fst := rfl
        rw [this, ← List.map_map, List.map_fst_zip (by omega)]
        exact nd_map hnd fun p _ q _ e => Sum.inl.inj e
      refine .inl ⟨_, kvI ns cs, rfl, seqOf_lr.mpr (by rfl), by unfold kvI; rw [List.length_map, List.length_zip]; omega, ?_⟩
      rw [merge_nd _ [] (by simpa using hk), List.nil_append]
      have hb : belowE 2 (.dct (kvI ns cs)) = true := by
        show belows 2 ((kvI ns cs).map (·.2)) = true
        unfold kvI
        rw [List.map_map]
        exact belows_map _ (fun p => by show below 2 (.int p.2) = true; rw [below] <;> simp) _
      refine end_new (.dct (kvI ns cs)) (by simp) (by rfl) hb (by simp [belowE, belows, below, belows_ints]) ?_
      exact h cs x' y' ok' hcl (hpc.nodup_iff.mpr (srt_nd hp)) fun c hc => by
        have := hv c (hpc.mem_iff.mp hc)
        omega
theorem call_renaming {S : Store} {j k : Nat} {x y : Int} {ns : List Int} {post : DK} (hjk : j ≠ k) (hj : S[j]? = some (jar x y)) (hk : S[k]? = some (.lst (ns.map .int))) (ok : JOk x y) (hl : ns.length ≤ 60) (hnd : ns.Nodup) (h : ∀ (cs : List Int) x' y', JOk x' y' → cs.length = ns.length → cs.Nodup → (∀ c ∈ cs, 0 ≤ c ∧ c < 1000) → post (.lr S.length) (S.set j (jar x' y') ++ [.dct (kvI ns cs)])) : callD sp_lrenaming [.lr j, .lr k] S post := by
  refine call_two hjk hj hk (by simp [belows]) (by simp [belowE, belows, below]) (belows_ints 0 ns) ⟨x, y, ns, rfl, rfl, ok, hl, hnd, fun cs x' y' ok' a b c => ?_⟩
  have e : (S.set j (jar x' y')).set k (.lst (ns.map .int)) = S.set j (jar x' y') := by
    have : (S.set j (jar x' y'))[k]? = some (.lst (ns.map .int)) := by
      rw [List.getElem?_set_ne hjk]
      exact hk
    obtain ⟨hl, he⟩ := List.getElem?_eq_some_iff.mp this
    rw [← he]
    exact List.set_getElem_self hl
  have hb : belowE 0 (.dct (kvI ns cs)) = true := by
    show belows 0 ((kvI ns cs).map (·.2)) = true
    unfold kvI
    rw [List.map_map]
    exact belows_map _ (fun p => by show below 0 (.int p.2) = true; rw [below] <;> simp) _
  simp only [List.take_succ_cons, List.take_zero, List.drop_succ_cons, List.drop_zero, List.map_cons, List.map_nil, setAll]
  rw [renE_below _ (jar x' y') (by simp [belowE, belows, below]), renE_below _ (.lst (ns.map .int)) (belows_ints 0 ns), renE_below _ (.dct (kvI ns cs)) hb, e]
  have : ren (rn [j, k] S.length) (.lr 2) = .lr S.length := by
    rw [ren]
    rfl
  rw [this]
  exact h cs x' y' ok' a b c
theorem ok_lrenaming {P : Program} {w : World} {K : PySem.W.Frag} {mg : Str → Option Value} {base : Heap} {f : Addr} {fd : FuncData} (F : Fun K "_law_renaming" "_law_renaming" s_lrenaming f fd) (W : Bl mg) (C_ltake : CalG P w K mg base 1 "_law_take" sp_ltake) (C_lmixed : CalG P w K mg base 2 "_law_mixed" sp_lmixed) :
    FnG P w K mg base CX0 3 f fd ["jar", "numbers"] (spL K sp_lrenaming) := by
  refine fn_okG (tb := b_lrenaming) F sc_lrenaming len_lrenaming (fun cdv A outer s H E hgd hr => ?_) hd_lrenaming
  have sc := sc_lrenaming
  have hu := hr.units
  have hu1 := Nat.lt_of_le_of_lt (Nat.add_le_add_left (show 1 ≤ 64 by decide) _) hu
  have hu65 := units65 hr
  exact (dss_cons (ds_set 2 sc.nd (de_cal C_lmixed hgd hr (by decide) (by rfl) (da_cons (de_var 0) (da_cons (de_lc (own := [("k", 3)]) (ws := [3]) (by decide) rfl sc.nd (di_rng1 (by rfl) W.range_ (da_cons (de_callB call_len_seq rul_len (by rfl) W.len_ PySem.boot_len (da_cons (de_var 1) da_nil)) da_nil)) (blkOk_by (by rfl)) (fun _ _ _ _ _ => (dg_name 3 sc.nd)) (fun _ _ _ _ _ => dts_nil) (fun _ _ _ _ _ => (de_op op_add4 rul_add4 (de_op op_mul rul_mul de_int (de_var 3)) (de_cal C_ltake hgd hr (by decide) (by rfl) (da_cons (de_var 0) (da_cons de_int da_nil)))))) da_nil))))
      (dss_one (ds_ret (de_callTy (call_dictB rfl hu65) rul_dictT (by rfl) W.dict_ PyProof.Rows.boot_dict (da_cons (de_lc (own := [("k", 3)]) (ws := [3]) (by decide) rfl sc.nd (di_rng1 (by rfl) W.range_ (da_cons (de_callB call_len_seq rul_len (by rfl) W.len_ PySem.boot_len (da_cons (de_var 1) da_nil)) da_nil)) (blkOk_by (by rfl)) (fun _ _ _ _ _ => (dg_name 3 sc.nd)) (fun _ _ _ _ _ => dts_nil) (fun _ _ _ _ _ => (de_tup (da_cons (de_ix ix_seq rul_ix (de_var 1) (de_var 3)) (da_cons (de_ix ix_seq rul_ix (de_var 2) (de_var 3)) da_nil))))) da_nil)))))
--@@split
/-! _law_formed_pairs -/
theorem set_same {S : Store} {k : Nat} {e : Ent} (h : S[k]? = some e) : S.set k e = S := by
  obtain ⟨hl, he⟩ := List.getElem?_eq_some_iff.mp h
  rw [← he]
  exact List.set_getElem_self hl
theorem call_three {sp : DSp} {ds : List D} {S : Store} {j k l : Nat} {e e2 e3 : Ent} {post : DK} (hjk : j ≠ k) (hjl : j ≠ l) (hkl : k ≠ l) (hj : S[j]? = some e) (hk : S[k]? = some e2) (hl : S[l]? = some e3) (hb : belows 0 ds = true) (he : belowE 0 e = true) (he2 : belowE 0 e2 = true) (he3 : belowE 0 e3 = true)
    (h : sp (.lr 0 :: .lr 1 :: .lr 2 :: ds) [e, e2, e3] fun d S' => post (ren (rn [j, k, l] S.length) d) (setAll [j, k, l] ((S'.take 3).map (renE (rn [j, k, l] S.length))) S ++ (S'.drop 3).map (renE (rn [j, k, l] S.length)))) : callD sp (.lr j :: .lr k :: .lr l :: ds) S post := by
  refine ⟨[j, k, l], .lr 0 :: .lr 1 :: .lr 2 :: ds, [e, e2, e3], by simp [hjk, hjl, hkl], ?_, rfl, fun i n e' h1 h2 => ?_, h⟩
  · rw [rens, rens, rens, rens_belows _ ds hb, ren, ren, ren]
    simp [rn]
  · have hi : i < 3 := (List.getElem?_eq_some_iff.mp h1).1
    match i, hi with
    | 0, _ =>
      simp at h1 h2
      subst h1 h2
      rw [renE_below _ _ he]
      exact hj
    | 1, _ =>
      simp at h1 h2
      subst h1 h2
      rw [renE_below _ _ he2]
      exact hk
    | 2, _ =>
      simp at h1 h2
      subst h1 h2
      rw [renE_below _ _ he3]
      exact hl
def ltP (p q : Int × Int) : Prop := p.1 < q.1 ∨ (p.1 = q.1 ∧ p.2 < q.2)
theorem rect_up {F G : List Int} (hf : F.Pairwise (· < ·)) (hg : G.Pairwise (· < ·)) : (rect F G).Pairwise ltP := by
  unfold rect
  rw [List.pairwise_flatMap]
  refine ⟨fun a ha => ?_, hf.imp fun {a b} hab p hp q hq => ?_⟩
  · rw [List.pairwise_map]
    exact hg.imp fun {x y} h => .inr ⟨rfl, h⟩
  · obtain ⟨x, _, rfl⟩ := List.mem_map.mp hp
    obtain ⟨y, _, rfl⟩ := List.mem_map.mp hq
    exact .inl hab
theorem mem_rect {F G : List Int} {p : Int × Int} : p ∈ rect F G ↔ p.1 ∈ F ∧ p.2 ∈ G := by
  unfold rect
  rw [List.mem_flatMap]
  constructor
  · rintro ⟨a, ha, h⟩
    obtain ⟨b, hb, rfl⟩ := List.mem_map.mp h
    exact ⟨ha, hb⟩
  · exact fun h => ⟨p.1, h.1, List.mem_map.mpr ⟨p.2, h.2, rfl⟩⟩
theorem fst_zip_sub : ∀ F G : List Int, ((F.zip G).map Prod.fst).Sublist F
  | [], _ => by simp
  | a :: F, [] => by simp
  | a :: F, b :: G => by
    rw [List.zip_cons_cons, List.map_cons]
    exact (fst_zip_sub F G).cons_cons a
theorem zip_up {F G : List Int} (hf : F.Pairwise (· < ·)) : (F.zip G).Pairwise ltP := by
  have h : ((F.zip G).map Prod.fst).Pairwise (· < ·) := hf.sublist (fst_zip_sub F G)
  rw [List.pairwise_map] at h
  exact h.imp fun {p q} h => .inl h
theorem dE_sub {ys : List D} {ps : List (Int × Int)} (h : ys.Sublist (ps.map dE)) : ∃ qs : List (Int × Int), ys = qs.map dE ∧ qs.Sublist ps := by
  obtain ⟨qs, h1, h2⟩ := List.sublist_map_iff.mp h
  exact ⟨qs, h2, h1⟩
theorem flt_filter {α β : Type} (f : α → Bool) (v : α → β) (z : α) (xs : List α) : flt (fun i => f (xs.getD i z)) (fun i => v (xs.getD i z)) xs.length = (xs.filter f).map v := by
  have e : ∀ xs : List α, ((List.range xs.length).map fun i => xs.getD i z) = xs := fun xs => List.ext_getElem (by simp) fun i h1 h2 => by
    simp
    rw [List.getElem?_eq_getElem h2]
    rfl
  have : (((List.range xs.length).map fun i => xs.getD i z).filter f).map v = (xs.filter f).map v := by rw [e]
  rw [← this, List.filter_map, List.map_map]
  rfl
def b_lformed_pairs : DS :=
  (dSeq (dPar2 3 4 (dCons (dCall sp_lproduct (dCons (dVar 1) (dCons (dVar 2) dNil))) (dCons (dCall sp_ltake (dCons (dVar 0) (dCons (dC (.int 4)) dNil))) dNil)))
    (dSeq (dIfS (dTest (dOp (oEq false) (dVar 4) (dC (.int 0)))) (dRet (dVar 3)) dNext)
    (dSeq (dIfS (dTest (dOp (oEq false) (dVar 4) (dC (.int 1)))) (dSeq (dAsg (dCall sp_lmixed (dCons (dVar 0) (dCons (dVar 2) dNil))) (gName 5))
    (dRet (dLc (wRng1 (dCons (dCB cMin (dCons (dCB cLen (dCons (dVar 1) dNil)) (dCons (dCB cLen (dCons (dVar 2) dNil)) dNil))) dNil)) (gName 6) dYes (dTup (dCons (dOp oIx (dVar 1) (dVar 6)) (dCons (dOp oIx (dVar 5) (dVar 6)) dNil))) [6]))) dNext)
    (dSeq (dIfS (dTest (dOp (oEq false) (dVar 4) (dC (.int 2)))) (dSeq (dAsg (dTup (dCons (dCall sp_lone (dCons (dVar 0) (dCons (dVar 1) dNil))) (dCons (dCall sp_lone (dCons (dVar 0) (dCons (dVar 2) dNil))) dNil))) (gTup 2 (gCons (gName 7) (gCons (gName 8) gNil))))
    (dRet (dLc (wSeq (dVar 3)) (gName 9) (dOr (dTest (dOp (oEq false) (dOp oIx (dVar 9) (dC (.int 0))) (dVar 7))) (dTest (dOp (oEq false) (dOp oIx (dVar 9) (dC (.int 1))) (dVar 8)))) (dVar 9) [9]))) dNext)
    (dSeq (dAsg (dCall sp_lsome (dCons (dVar 0) (dCons (dVar 3) dNil))) (gName 10))
    (dRet (dIf (dTest (dOp (oEq true) (dVar 10) (dLst dNil))) (dVar 10) (dLst (dCons (dCall sp_lone (dCons (dVar 0) (dCons (dVar 3) dNil))) dNil)))))))))
def sp_lformed_pairs : DSp := fun ds S post => ∃ x y as bs, ds = [.lr 0, .lr 1, .lr 2] ∧ S = [jar x y, .lst (as.map .int), .lst (bs.map .int)] ∧ JOk x y ∧ as.length ≤ 5 ∧ bs.length ≤ 5 ∧ as ≠ [] ∧ bs ≠ [] ∧ as.Pairwise (· < ·) ∧ bs.Pairwise (· < ·) ∧ (∀ a ∈ as, a.natAbs < 2 ^ 62) ∧ (∀ a ∈ bs, a.natAbs < 2 ^ 62) ∧
  ∀ (ps : List (Int × Int)) x' y', JOk x' y' → ps ≠ [] → ps.length ≤ 25 → ps.Pairwise ltP → (∀ p ∈ ps, p.1 ∈ as ∧ p.2 ∈ bs) → post (.lr 3) [jar x' y', .lst (as.map .int), .lst (bs.map .int), .lst (ps.map dE)]
theorem len_lformed_pairs : ∀ ds S post, sp_lformed_pairs ds S post → ds.length = 3 := by
  rintro _ _ _ ⟨_, _, _, _, rfl, _⟩
  rfl
theorem end_formed {S0 : Store} {x y : Int} {as bs : List Int} {ps : List (Int × Int)} {j : Nat} {S : Store} {post : DK} (hj : 3 ≤ j) (hjS : S[j]? = some (.lst (ps.map dE))) (ht : S.take 3 = [jar x y, .lst (as.map .int), .lst (bs.map .int)]) (hS : S0.length = 3) (h : post (.lr 3) [jar x y, .lst (as.map .int), .lst (bs.map .int), .lst (ps.map dE)]) : fnEnd S0 post (.lr j) S := by
  refine end_new (.lst (ps.map dE)) (by omega) hjS (by rw [hS]; exact belows_map _ (below_dE _) _) ?_ ?_
  · rw [hS, ht]
    simp [belowE, belows, below, belows_ints]
  · rw [hS, ht]
    exact h
theorem hd_lformed_pairs : ∀ ds S post, sp_lformed_pairs ds S post → b_lformed_pairs (endsD S post) (startD ["jar", "ones", "twos", "every", "way", "others", "k", "a", "b", "pair", "found"] ds) S := by
  rintro ds S post ⟨x, y, as, bs, rfl, rfl, ok, ha, hb, na, nb, ua, ub, ga, gb, h⟩
  have hr : (rect as bs).length ≤ 25 := by
    rw [rect_len]
    exact Nat.le_trans (Nat.mul_le_mul ha hb) (by decide)
  have hne : rect as bs ≠ [] := by
    obtain ⟨a, ha⟩ := List.exists_mem_of_ne_nil _ na
    obtain ⟨b, hb⟩ := List.exists_mem_of_ne_nil _ nb
    exact List.ne_nil_of_mem (mem_rect.mpr ⟨ha, hb⟩ : (a, b) ∈ rect as bs)
  unfold b_lformed_pairs
  rw [go_seqS]
  walk_at "dgo1"
  refine call_product (j := 1) (k := 2) (by decide) rfl rfl (by omega) (by omega) ?_
  walk_at "dgo1"
  refine call_take (j := 0) rfl ok (by decide) (by decide) fun r x' y' ok' a b => ?_
  walk_at "dgo1"
  refine ⟨_, _, rfl, ?_⟩
  rw [go_seqS]
  walk_at "dgo1"
  split
  · exact end_formed (ps := rect as bs) (Nat.le_refl 3) rfl rfl rfl (h _ _ _ ok' hne hr (rect_up ua ub) fun p hp => mem_rect.mp hp)
  rw [go_seqS]
  walk_at "dgo1"
  split
  · walk_at "dgo"
    refine call_mixed (j := 0) (k := 2) (by decide) rfl rfl ok' (by rw [List.length_map]; omega) (belows_ints 0 bs) fun ys x2 y2 ok2 hp => ?_
    obtain ⟨ms, rfl, hpm⟩ := perm_ints hp
    have hml := hpm.length_eq
    refine ⟨_, rfl, _, rfl, ?_⟩
    rw [List.length_map, List.length_map]
    have hN : (if (bs.length : Int) < (as.length : Int) then (bs.length : Int) else (as.length : Int)) = ((min as.length ms.length : Nat) : Int) := by
      split <;> omega
    rw [hN]
    refine ⟨by omega, by omega, lc_pure (fun _ => true) (fun i => dE (as.getD i 0, ms.getD i 0)) trivial (by rw [upTo_len]; omega) (fun i d acc J hd hacc g1 _ => ?_) ?_⟩
    · obtain ⟨hi, rfl⟩ := upTo_get hd
      have hi2 : i < as.length := by omega
      have hi3 : i < ms.length := by omega
      have q1 : L2.atI (as.map D.int) (0 + (i : Int)) = some (.int (as.getD i 0)) := atI_of (by omega) (by
        have e : (0 + (i : Int)).toNat = i := by omega
        rw [e, List.getElem?_map, List.getElem?_eq_getElem hi2, getD_some (List.getElem?_eq_getElem hi2)]
        rfl)
      have q2 : L2.atI (ms.map D.int) (0 + (i : Int)) = some (.int (ms.getD i 0)) := atI_of (by omega) (by
        have e : (0 + (i : Int)).toNat = i := by omega
        rw [e, List.getElem?_map, List.getElem?_eq_getElem hi3, getD_some (List.getElem?_eq_getElem hi3)]
        rfl)
      walk_at "dgo"
      exact ⟨_, q1, _, q2, by decide, hacc, g1 rfl⟩
    · have e1 : flt (fun _ => true) (fun i => dE (as.getD i 0, ms.getD i 0)) (DL.upTo 0 ((min as.length ms.length : Nat) : Int).toNat).length = (as.zip ms).map dE := by
        rw [upTo_len, flt_all]
        refine List.ext_getElem (by simp) fun i h1 h2 => ?_
        have a0 : i < min as.length ms.length := by simpa using h1
        have a1 : i < as.length := by omega
        have a2 : i < ms.length := by omega
        simp
        rw [List.getElem?_eq_getElem a1, List.getElem?_eq_getElem a2]
        rfl
      rw [e1]
      refine end_formed (ps := as.zip ms) (by simp) (by rfl) rfl rfl (h _ _ _ ok2 ?_ ?_ (zip_up ua) fun p hp => ?_)
      · intro e
        have e2 : (as.zip ms).length = 0 := by rw [e]; rfl
        rw [List.length_zip] at e2
        have := List.length_pos_iff.mpr na
        have := List.length_pos_iff.mpr nb
        omega
      · rw [List.length_zip]
        omega
      · obtain ⟨q1, q2⟩ := List.of_mem_zip (show (p.1, p.2) ∈ as.zip ms from hp)
        exact ⟨q1, hpm.mem_iff.mp q2⟩
  rw [go_seqS]
  walk_at "dgo1"
  split
  · walk_at "dgo"
    refine call_lone (j := 0) (k := 1) (by decide) rfl rfl ok' (by simpa using na) (by rw [List.length_map]; omega) (belows_ints 0 as) fun d hd x2 y2 ok2 => ?_
    obtain ⟨u, hu, rfl⟩ := List.mem_map.mp hd
    refine call_lone (j := 0) (k := 2) (by decide) rfl rfl ok2 (by simpa using nb) (by rw [List.length_map]; omega) (belows_ints 0 bs) fun d hd x3 y3 ok3 => ?_
    obtain ⟨v, hv, rfl⟩ := List.mem_map.mp hd
    refine ⟨by decide, _, rfl, lc_pure (fun i => (fun p : Int × Int => decide (p.1 = u) || decide (p.2 = v)) ((rect as bs).getD i (0, 0))) (fun i => dE ((rect as bs).getD i (0, 0))) rfl (by rw [List.length_map]; omega) (fun i d acc J hi hacc g1 g2 => ?_) ?_⟩
    · obtain ⟨p, hp, rfl⟩ := at_dE hi
      rw [getD_some hp] at g1 g2
      walk_at "dgo"
      by_cases c1 : p.1 = u
      · have := g1 (by simp [c1])
        simp [c1]
        refine ⟨hacc, ?_⟩
        rw [← c1]
        exact this
      · by_cases c2 : p.2 = v
        · have := g1 (by simp [c2])
          simp [c1, c2]
          refine ⟨hacc, ?_⟩
          rw [← c2]
          exact this
        · have := g2 (by simp [c1, c2])
          simpa [c1, c2] using this
    · rw [List.length_map]
      have e := flt_filter (fun p : Int × Int => decide (p.1 = u) || decide (p.2 = v)) dE (0, 0) (rect as bs)
      refine end_formed (ps := (rect as bs).filter fun p : Int × Int => decide (p.1 = u) || decide (p.2 = v)) (by simp) (congrArg (fun l => some (Ent.lst l)) e) rfl rfl (h _ _ _ ok3 ?_ ?_ ((rect_up ua ub).filter _) fun p hp => mem_rect.mp (List.mem_filter.mp hp).1)
      · exact List.ne_nil_of_mem (List.mem_filter.mpr ⟨mem_rect.mpr ⟨hu, hv⟩, by simp⟩ : (u, v) ∈ _)
      · exact Nat.le_trans (List.length_filter_le ..) hr
  walk_at "dgo"
  refine call_some (j := 0) (k := 3) (by decide) rfl rfl ok' (by rw [List.length_map]; omega) (belows_map _ (below_dE _) _) fun ys x2 y2 ok2 hs => ?_
  obtain ⟨qs, rfl, hqs⟩ := dE_sub hs
  refine ⟨by decide, oEq_lr_nil (c := 130) (k := 1) (n := 4) (m := 5) rfl rfl (fun d hd => ?_) (by decide) ?_⟩
  · obtain ⟨p, hp, rfl⟩ := List.mem_map.mp hd
    have := mem_rect.mp (hqs.subset hp)
    exact fine_dE' (ga _ this.1) (gb _ this.2)
  · simp only [go_bl]
    cases hq : qs with
    | cons q qs2 =>
      rw [← hq]
      have e : (true ^^ (qs.map dE).isEmpty) = true := by rw [hq]; rfl
      rw [e, if_pos rfl]
      exact end_formed (ps := qs) (by simp) rfl rfl rfl (h _ _ _ ok2 (by rw [hq]; simp) (Nat.le_trans hqs.length_le hr) ((rect_up ua ub).sublist hqs) fun p hp => mem_rect.mp (hqs.subset hp))
    | nil =>
      rw [if_neg (by decide)]
      refine call_lone (j := 0) (k := 3) (by decide) rfl rfl ok2 (by simpa using hne) (by rw [List.length_map]; omega) (belows_map _ (below_dE _) _) fun d hd x3 y3 ok3 => ?_
      obtain ⟨p, hp, rfl⟩ := List.mem_map.mp hd
      refine ⟨by decide, end_formed (ps := [p]) (by simp) (by rfl) rfl rfl (h _ _ _ ok3 (by simp) (by simp) (by simp) fun p' hp' => ?_)⟩
      rw [List.mem_singleton.mp hp']
      exact mem_rect.mp hp
theorem ok_lformed_pairs {P : Program} {w : World} {K : PySem.W.Frag} {mg : Str → Option Value} {base : Heap} {f : Addr} {fd : FuncData} (F : Fun K "_law_formed_pairs" "_law_formed_pairs" s_lformed_pairs f fd) (W : Bl mg) (C_lone : CalG P w K mg base 2 "_law_one" sp_lone) (C_lsome : CalG P w K mg base 2 "_law_some" sp_lsome) (C_lmixed : CalG P w K mg base 2 "_law_mixed" sp_lmixed) (C_ltake : CalG P w K mg base 1 "_law_take" sp_ltake) (C_lproduct : CalG P w K mg base 1 "_law_product" sp_lproduct) :
    FnG P w K mg base CX0 3 f fd ["jar", "ones", "twos"] (spL K sp_lformed_pairs) := by
  refine fn_okG (tb := b_lformed_pairs) F sc_lformed_pairs len_lformed_pairs (fun cdv A outer s H E hgd hr => ?_) hd_lformed_pairs
  have sc := sc_lformed_pairs
  have hu := hr.units
  have hu1 := Nat.lt_of_le_of_lt (Nat.add_le_add_left (show 1 ≤ 64 by decide) _) hu
  have hu65 := units65 hr
  exact (dss_cons (ds_par2 (i := 3) (j := 4) rfl sc.nd (da_cons (de_cal C_lproduct hgd hr (by decide) (by rfl) (da_cons (de_var 1) (da_cons (de_var 2) da_nil))) (da_cons (de_cal C_ltake hgd hr (by decide) (by rfl) (da_cons (de_var 0) (da_cons de_int da_nil))) da_nil)))
      (dss_cons (ds_if (dt_cmp (op_eq2 hu) rul_eq (de_var 4) de_int (nomark _)) (dss_one (ds_ret (de_var 3))) dss_nil)
      (dss_cons (ds_if (dt_cmp (op_eq2 hu) rul_eq (de_var 4) de_int (nomark _)) (dss_cons (ds_set 5 sc.nd (de_cal C_lmixed hgd hr (by decide) (by rfl) (da_cons (de_var 0) (da_cons (de_var 2) da_nil))))
      (dss_one (ds_ret (de_lc (own := [("k", 6)]) (ws := [6]) (by decide) rfl sc.nd (di_rng1 (by rfl) W.range_ (da_cons (de_callB (DL.cr_min rfl) rul_min (by rfl) W.min_ PyProof.Rows.boot_min (da_cons (de_callB call_len_seq rul_len (by rfl) W.len_ PySem.boot_len (da_cons (de_var 1) da_nil)) (da_cons (de_callB call_len_seq rul_len (by rfl) W.len_ PySem.boot_len (da_cons (de_var 2) da_nil)) da_nil))) da_nil)) (blkOk_by (by rfl)) (fun _ _ _ _ _ => (dg_name 6 sc.nd)) (fun _ _ _ _ _ => dts_nil) (fun _ _ _ _ _ => (de_tup (da_cons (de_ix ix_seq rul_ix (de_var 1) (de_var 6)) (da_cons (de_ix ix_seq rul_ix (de_var 5) (de_var 6)) da_nil)))))))) dss_nil)
      (dss_cons (ds_if (dt_cmp (op_eq2 hu) rul_eq (de_var 4) de_int (nomark _)) (dss_cons (ds_asg (de_tup (da_cons (de_cal C_lone hgd hr (by decide) (by rfl) (da_cons (de_var 0) (da_cons (de_var 1) da_nil))) (da_cons (de_cal C_lone hgd hr (by decide) (by rfl) (da_cons (de_var 0) (da_cons (de_var 2) da_nil))) da_nil))) (dg_tup rfl (dgs_cons (dg_name 7 sc.nd) (dgs_cons (dg_name 8 sc.nd) dgs_nil))))
      (dss_one (ds_ret (de_lc (own := [("pair", 9)]) (ws := [9]) (by decide) rfl sc.nd (di_seq (de_var 3)) (blkOk_by (by rfl)) (fun _ _ _ _ _ => (dg_name 9 sc.nd)) (fun _ _ _ _ _ => (dts_one (PW.pt (dw_or (dt_cmp (op_eq2 hu) rul_eq (de_ix ix_seq rul_ix (de_var 9) de_int) (de_var 7) (nomark _)) (dw_or1 (dt_cmp (op_eq2 hu) rul_eq (de_ix ix_seq rul_ix (de_var 9) de_int) (de_var 8) (nomark _))))))) (fun _ _ _ _ _ => (de_var 9)))))) dss_nil)
      (dss_cons (ds_set 10 sc.nd (de_cal C_lsome hgd hr (by decide) (by rfl) (da_cons (de_var 0) (da_cons (de_var 3) da_nil))))
      (dss_one (ds_ret (de_ifExp (dt_cmp (op_ne2 hu) rul_ne (de_var 10) (de_lst da_nil) (nomark _)) (de_var 10) (de_lst (da_cons (de_cal C_lone hgd hr (by decide) (by rfl) (da_cons (de_var 0) (da_cons (de_var 3) da_nil))) da_nil))))))))))
--@@split
/-! pairs: in, ==; comprehensions over known things -/
section
variable {g : DG} {tt : DT} {te : DE} {vs : List Nat} {ρ : DEnv} {post : DK} {C : Store → Prop} {S1 : Store} {α : Type} {es : List α} {f v : α → D}
/-- a comprehension over known things that leaves the store alone -/
theorem lc_fm (c : α → Bool) (hC : C S1) (hl : es.length ≤ 100000)
    (step : ∀ (a : α) (acc : List D) (J : List D → Store → Prop), a ∈ es → acc.length ≤ 100000 → (c a = true → J (acc ++ [v a]) S1) → (c a = false → J acc S1) →
      g (f a) (wipeD ρ vs) S1 fun ρ2 S2 => tt ρ2 S2 fun b S3 => if b = true then te ρ2 S3 fun y S4 => acc.length ≤ 100000 ∧ J (acc ++ [y]) S4 else J acc S3)
    (fin : post (.lr S1.length) (S1 ++ [.lst ((es.filter c).map v)])) : lcK g tt te vs ρ post (es.map f) C S1 := by
  refine lc_inv (fun i acc S => S = S1 ∧ acc = ((es.take i).filter c).map v) ⟨rfl, rfl⟩ (fun i acc S _ h => by rw [h.1]; exact hC) (fun i d acc S hd h => ?_) fun acc S h => ?_
  · obtain ⟨rfl, rfl⟩ := h
    rw [List.getElem?_map] at hd
    cases q : es[i]? with
    | none =>
      rw [q] at hd
      cases hd
    | some a =>
      rw [q] at hd
      cases hd
      have ht : es.take (i + 1) = es.take i ++ [a] := by rw [List.take_add_one, q]; rfl
      refine step a _ (fun acc S' => S' = S ∧ acc = ((es.take (i + 1)).filter c).map v) (List.mem_iff_getElem?.mpr ⟨i, q⟩) ?_ (fun h => ?_) fun h => ?_
      · rw [List.length_map]
        have h1 := List.length_filter_le c (es.take i)
        have h2 := List.length_take_le i es
        have h3 := List.length_take_le' i es
        omega
      · refine ⟨rfl, ?_⟩
        rw [ht, List.filter_append, List.map_append, List.filter_cons_of_pos h]
        rfl
      · refine ⟨rfl, ?_⟩
        rw [ht, List.filter_append, List.filter_cons_of_neg (by rw [h]; decide), List.filter_nil, List.append_nil]
  · obtain ⟨rfl, rfl⟩ := h
    rw [List.length_map, List.take_length]
    exact fin
end
theorem filter_true {α : Type} (es : List α) : es.filter (fun _ => true) = es := List.filter_eq_self.mpr fun _ _ => rfl
abbrev pP (p : Int × Int) : PyData := .tuple [.int p.1, .int p.2]
theorem toP_dE (p : Int × Int) : toP (dE p) = pP p := by simp [dE, toP, toPs]
theorem toPs_dE (es : List (Int × Int)) : toPs (es.map dE) = es.map pP := by
  induction es with
  | nil => rfl
  | cons p es ih => rw [List.map_cons, toPs, ih, toP_dE, List.map_cons]
theorem plains_dE (es : List (Int × Int)) : plains (es.map dE) = true := by
  induction es with
  | nil => rfl
  | cons p es ih => rw [List.map_cons, plains, ih]; rfl
theorem eqv_pP (p q : Int × Int) : PyData.eqv (pP p) (pP q) = decide (p = q) := by
  obtain ⟨a, b⟩ := p
  obtain ⟨c, d⟩ := q
  simp only [PyData.eqv, PyData.eqvAll, Bool.and_true, Prod.mk.injEq]
  rw [Bool.eq_iff_iff]
  simp
theorem any_dE (p : Int × Int) (es : List (Int × Int)) : ((es.map pP).any fun z => PyData.eqv z (pP p)) = decide (p ∈ es) := by
  induction es with
  | nil => rfl
  | cons q es ih =>
    rw [List.map_cons, List.any_cons, ih, eqv_pP]
    by_cases h : q = p
    · subst h
      simp
    · have h' : ¬ p = q := fun e => h e.symm
      simp [h, h']
theorem lay_dE : ∀ es : List (Int × Int), PyData.canLayAll0 (es.map pP) = true ∧ PyData.depthAll (es.map pP) ≤ 1
  | [] => ⟨rfl, by decide⟩
  | p :: es => by
    obtain ⟨a, b⟩ := lay_dE es
    refine ⟨?_, ?_⟩
    · rw [List.map_cons, PyData.canLayAll0, a]
      rfl
    · rw [List.map_cons, PyData.depthAll]
      have : (pP p).depth = 1 := rfl
      omega
theorem shaped_dE (es : List (Int × Int)) : SeqAt.shaped (.list (es.map pP)) = true := by
  obtain ⟨a, b⟩ := lay_dE es
  unfold SeqAt.shaped
  rw [PyData.canLay0, PyData.depth, a, decide_eq_true (by omega)]
  rfl
theorem in_lr {neg : Bool} {p : Int × Int} {es : List (Int × Int)} {n : Nat} {S : Store} {post : DK} (hn : S[n]? = some (.lst (es.map dE))) (h : post (.bl (neg ^^ decide (p ∈ es))) S) : oIn neg (dE p) (.lr n) S post :=
  .inl ⟨es.map dE, pP p, seqOf_lr.mpr hn, plains_dE es, .inl ⟨rfl, (toP_dE p).symm⟩, rfl, by rw [toPs_dE]; exact shaped_dE es, by rw [toPs_dE, any_dE]; exact h⟩
theorem oEq_dE {neg : Bool} {p q : Int × Int} {S : Store} {post : DK} (h : post (.bl (neg ^^ decide (p = q))) S) : oEq neg (dE p) (dE q) S post := by
  refine ⟨pP p, pP q, .inl ⟨rfl, (toP_dE p).symm⟩, .inl ⟨rfl, (toP_dE q).symm⟩, rfl, rfl, ?_⟩
  rw [eqv_pP]
  exact h
theorem call_formed {S : Store} {j k l : Nat} {x y : Int} {as bs : List Int} {post : DK} (hjk : j ≠ k) (hjl : j ≠ l) (hkl : k ≠ l) (hj : S[j]? = some (jar x y)) (hk : S[k]? = some (.lst (as.map .int))) (hl : S[l]? = some (.lst (bs.map .int))) (ok : JOk x y) (ha : as.length ≤ 5) (hb : bs.length ≤ 5) (na : as ≠ []) (nb : bs ≠ []) (ua : as.Pairwise (· < ·)) (ub : bs.Pairwise (· < ·)) (ga : ∀ a ∈ as, a.natAbs < 2 ^ 62) (gb : ∀ a ∈ bs, a.natAbs < 2 ^ 62)
    (h : ∀ (ps : List (Int × Int)) x' y', JOk x' y' → ps ≠ [] → ps.length ≤ 25 → ps.Pairwise ltP → (∀ p ∈ ps, p.1 ∈ as ∧ p.2 ∈ bs) → post (.lr S.length) (S.set j (jar x' y') ++ [.lst (ps.map dE)])) : callD sp_lformed_pairs [.lr j, .lr k, .lr l] S post := by
  refine call_three hjk hjl hkl hj hk hl (by simp [belows]) (by simp [belowE, belows, below]) (belows_ints 0 as) (belows_ints 0 bs) ⟨x, y, as, bs, rfl, rfl, ok, ha, hb, na, nb, ua, ub, ga, gb, fun ps x' y' ok' a b c d => ?_⟩
  have e1 : (S.set j (jar x' y'))[k]? = some (.lst (as.map .int)) := by
    rw [List.getElem?_set_ne hjk]
    exact hk
  have e2 : (S.set j (jar x' y'))[l]? = some (.lst (bs.map .int)) := by
    rw [List.getElem?_set_ne hjl]
    exact hl
  simp only [List.take_succ_cons, List.take_zero, List.drop_succ_cons, List.drop_zero, List.map_cons, List.map_nil, setAll]
  rw [renE_below _ (jar x' y') (by simp [belowE, belows, below]), renE_below _ (.lst (as.map .int)) (belows_ints 0 as), renE_below _ (.lst (bs.map .int)) (belows_ints 0 bs), renE_below _ (.lst (ps.map dE)) (belows_map _ (below_dE _) _), set_same e1, set_same e2]
  have : ren (rn [j, k, l] S.length) (.lr 3) = .lr S.length := by
    rw [ren]
    rfl
  rw [this]
  exact h ps x' y' ok' a b c d
/-! _law_drawn_pairs -/
structure Vp (ps : List (Int × Int)) : Prop where
  ne : ps ≠ []
  len : ps.length ≤ 26
  up : ps.Pairwise ltP
  pos : ∀ p ∈ ps, 0 ≤ p.1 ∧ 0 ≤ p.2
  lt : ∀ p ∈ ps, p.1 < 2000000000000000 ∧ p.2 < 2000000000000000
theorem ltP_ne {p q : Int × Int} (h : ltP p q) : p ≠ q := fun e => by
  subst e
  unfold ltP at h
  omega
theorem Vp.nd {ps : List (Int × Int)} (h : Vp ps) : ps.Nodup := h.up.imp ltP_ne
theorem sorted_lt {qs : List (Int × Int)} (nd : qs.Nodup) (le : qs.Pairwise lexLe) : qs.Pairwise ltP := (List.Pairwise.and le nd).imp fun {p q} ⟨h, ne⟩ => by
  unfold lexLe at h
  unfold ltP
  by_cases c : p.2 = q.2
  · by_cases c1 : p.1 = q.1
    · exact absurd (Prod.ext c1 c) ne
    · omega
  · omega
theorem Vp.drop {ps : List (Int × Int)} (h : Vp ps) (hl : 1 < ps.length) (q : Int × Int) : Vp (ps.filter fun p => decide (p ≠ q)) := by
  refine ⟨fun e => ?_, Nat.le_trans (List.length_filter_le ..) h.len, h.up.filter _, fun p hp => h.pos p (List.mem_filter.mp hp).1, fun p hp => h.lt p (List.mem_filter.mp hp).1⟩
  rw [List.filter_eq_nil_iff] at e
  match ps, h, hl, e with
  | a :: b :: rest, h, _, e =>
    have h1 := ltP_ne ((List.pairwise_cons.mp h.up).1 b (by simp))
    have e1 : a = q := by simpa using e a (by simp)
    have e2 : b = q := by simpa using e b (by simp)
    exact h1 (by rw [e1, e2])
theorem Vp.add {ps qs : List (Int × Int)} (h : Vp ps) (hl : ps.length ≤ 25) {q : Int × Int} (hq : q ∉ ps) (p1 : 0 ≤ q.1 ∧ 0 ≤ q.2) (p2 : q.1 < 2000000000000000 ∧ q.2 < 2000000000000000) (hp : qs.Perm (ps ++ [q])) (le : qs.Pairwise lexLe) : Vp qs := by
  have hm : ∀ p ∈ qs, p ∈ ps ∨ p = q := fun p h => by simpa using hp.mem_iff.mp h
  refine ⟨fun e => ?_, ?_, sorted_lt (hp.nodup_iff.mpr ?_) le, fun p h1 => ?_, fun p h1 => ?_⟩
  · rw [e] at hp
    simpa using hp.length_eq
  · have := hp.length_eq
    rw [List.length_append, List.length_singleton] at this
    omega
  · rw [List.nodup_append]
    exact ⟨h.nd, by simp, fun a ha b hb e => hq (by rw [← List.mem_singleton.mp hb, ← e]; exact ha)⟩
  · rcases hm p h1 with h1 | rfl
    · exact h.pos p h1
    · exact p1
  · rcases hm p h1 with h1 | rfl
    · exact h.lt p h1
    · exact p2
theorem last_max {bs : List Int} (h : bs.Pairwise (· < ·)) (hn : bs ≠ []) : ∃ b ∈ bs, bs[bs.length - 1]? = some b ∧ ∀ x ∈ bs, x ≤ b := by
  rcases List.eq_nil_or_concat bs with e | ⟨l, b, e⟩
  · exact absurd e hn
  · rw [List.concat_eq_append] at e
    subst e
    refine ⟨b, by simp, by simp, fun x hx => ?_⟩
    rw [List.pairwise_append] at h
    rcases List.mem_append.mp hx with hx | hx
    · exact Int.le_of_lt (h.2.2 x hx b (by simp))
    · rw [List.mem_singleton.mp hx]
      exact Int.le_refl b
def b_ldrawn_pairs : DS :=
  (dSeq (dPar3 1 2 3 (dCons (dCall sp_ldrawn_numbers (dCons (dVar 0) (dCons (dC (.int 5)) dNil))) (dCons (dCall sp_ldrawn_numbers (dCons (dVar 0) (dCons (dC (.int 5)) dNil))) (dCons (dCall sp_ltake (dCons (dVar 0) (dCons (dC (.int 4)) dNil))) dNil))))
    (dSeq (dAsg (dCall sp_lformed_pairs (dCons (dVar 0) (dCons (dVar 1) (dCons (dVar 2) dNil)))) (gName 4))
    (dSeq (dIfS (dAnd (dTest (dOp (oEq false) (dVar 3) (dC (.int 0)))) (dTest (dOp oGt (dCB cLen (dCons (dVar 4) dNil)) (dC (.int 1))))) (dSeq (dAsg (dCall sp_lone (dCons (dVar 0) (dCons (dVar 4) dNil))) (gName 5))
    (dAsg (dLc (wSeq (dVar 4)) (gName 6) (dTest (dOp (oEq true) (dVar 6) (dVar 5))) (dVar 6) [6]) (gName 4))) dNext)
    (dSeq (dIfS (dTest (dOp (oEq false) (dVar 3) (dC (.int 1)))) (dSeq (dAsg (dCall sp_lproduct (dCons (dVar 1) (dCons (dOp oAdd (dVar 2) (dLst (dCons (dOp oAdd (dOp oIx (dVar 2) (dOp oSub (dCB cLen (dCons (dVar 2) dNil)) (dC (.int 1)))) (dC (.int 1))) dNil))) dNil))) (gName 7))
    (dAsg (dCB cSortedB (dCons (dOp oAdd (dVar 4) (dLst (dCons (dGc0 (dCall sp_lone (dCons (dVar 0) (dCons (dLc (wSeq (dVar 7)) (gName 6) (dTest (dOp (oInT true) (dVar 6) (dVar 4))) (dVar 6) [6]) dNil)))) dNil))) dNil)) (gName 4))) dNext)
    (dRet (dCB cTuple (dCons (dVar 4) dNil)))))))
def sp_ldrawn_pairs : DSp := fun ds S post => ∃ x y, ds = [.lr 0] ∧ S = [jar x y] ∧ JOk x y ∧ ∀ ps x' y', JOk x' y' → Vp ps → post (tE ps) [jar x' y']
theorem len_ldrawn_pairs : ∀ ds S post, sp_ldrawn_pairs ds S post → ds.length = 1 := by
  rintro _ _ _ ⟨_, _, rfl, _⟩
  rfl
theorem end_drawn {S : Store} {x y x' y' : Int} {ps : List (Int × Int)} {T : Store} {post : DK} (h : S = jar x' y' :: T) (hv : Vp ps) (hp : post (tE ps) [jar x' y']) : fnEnd [jar x y] post (.tup (ps.map dE)) S := by
  subst h
  refine end_take (by show below 1 (tE ps) = true; exact below_tE 1 ps) (by simp [belowE, belows, below]) hp
theorem hd_ldrawn_pairs : ∀ ds S post, sp_ldrawn_pairs ds S post → b_ldrawn_pairs (endsD S post) (startD ["jar", "ones", "twos", "way", "pairs", "gone", "pair", "others"] ds) S := by
  rintro ds S post ⟨x, y, rfl, rfl, ok, h⟩
  unfold b_ldrawn_pairs
  rw [go_seqS]
  walk_at "dgo1"
  refine call_numbers (j := 0) rfl ok (by decide) (by decide) fun as x1 y1 ok1 la1 la2 ua ga => ?_
  refine call_numbers (j := 0) rfl ok1 (by decide) (by decide) fun bs x2 y2 ok2 lb1 lb2 ub gb => ?_
  walk_at "dgo1"
  refine call_take (j := 0) rfl ok2 (by decide) (by decide) fun r x3 y3 ok3 ra rb => ?_
  walk_at "dgo1"
  refine ⟨_, _, _, rfl, ?_⟩
  rw [go_seqS]
  walk_at "dgo1"
  refine call_formed (j := 0) (k := 1) (l := 2) (by decide) (by decide) (by decide) rfl rfl rfl ok3 (by omega) (by omega) (List.length_pos_iff.mp (by omega)) (List.length_pos_iff.mp (by omega)) ua ub (fun a ha => by have := ga a ha; omega) (fun b hb => by have := gb b hb; omega) fun ps x4 y4 ok4 hne hl hup hm => ?_
  have hv : Vp ps := ⟨hne, by omega, hup, fun p hp => ⟨(ga _ (hm p hp).1).1, (gb _ (hm p hp).2).1⟩, fun p hp => ⟨by have := (ga _ (hm p hp).1).2; omega, by have := (gb _ (hm p hp).2).2; omega⟩⟩
  by_cases r0 : r = 0
  · subst r0
    walk_at "dgo"
    simp only [(by decide : ((0 : Int) = 1) = False), if_false]
    split
    · rename_i hl1
      refine call_lone (j := 0) (k := 3) (by decide) rfl rfl ok4 (by simpa using hne) (by rw [List.length_map]; omega) (belows_map _ (below_dE _) _) fun d hd x5 y5 ok5 => ?_
      obtain ⟨q, hq, rfl⟩ := List.mem_map.mp hd
      refine ⟨_, rfl, lc_fm (es := ps) (f := dE) (v := dE) (fun p => decide (p ≠ q)) rfl (by omega) (fun p acc J hp hacc g1 g2 => ?_) ?_⟩
      · walk_at "dgo"
        refine oEq_dE (p := p) (q := q) ?_
        simp only [go_bl]
        by_cases c : p = q
        · rw [decide_eq_true c, if_neg (by decide)]
          exact g2 (by simp [c])
        · rw [decide_eq_false c, if_pos (by decide)]
          exact ⟨hacc, g1 (by simp [c])⟩
      · refine ⟨_, seqOf_lr.mpr (by rfl), end_drawn (T := [_, _, _, _]) rfl (hv.drop (by omega) q) (h _ _ _ ok5 (hv.drop (by omega) q))⟩
    · exact end_drawn (T := [_, _, _]) rfl hv (h _ _ _ ok4 hv)
  by_cases r1 : r = 1
  · subst r1
    walk_at "dgo"
    rw [if_neg (by decide)]
    obtain ⟨b, hb, hlast, hmax⟩ := last_max ub (List.length_pos_iff.mp (by omega))
    refine ⟨.int b, atI_of (by omega) (by
      have e : ((bs.length : Int) - 1).toNat = bs.length - 1 := by omega
      rw [e, List.getElem?_map, hlast]
      rfl), ?_⟩
    walk_at "dgo"
    have hbs : bs.map D.int ++ [D.int (b + 1)] = (bs ++ [b + 1]).map D.int := by simp
    rw [hbs]
    have hb' := gb b hb
    refine ⟨by decide, by omega, call_product (j := 1) (k := 5) (by decide) rfl rfl (by omega) (by rw [List.length_append, List.length_singleton]; omega) ?_⟩
    refine ⟨_, seqOf_lr.mpr (by rfl), lc_fm (es := rect as (bs ++ [b + 1])) (f := dE) (v := dE) (fun p => decide (p ∉ ps)) (seqOf_lr.mpr (by rfl)) (by
      rw [rect_len, List.length_append, List.length_singleton]
      exact Nat.le_trans (Nat.mul_le_mul (show as.length ≤ 5 by omega) (show bs.length + 1 ≤ 6 by omega)) (by decide)) (fun p acc J hp hacc g1 g2 => ?_) ?_⟩
    · walk_at "dgo"
      refine .inl (in_lr (p := p) (es := ps) (by rfl) ?_)
      simp only [go_bl]
      by_cases c : p ∈ ps
      · rw [decide_eq_true c, if_neg (by decide)]
        exact g2 (by simp [c])
      · rw [decide_eq_false c, if_pos (by decide)]
        exact ⟨hacc, g1 (by simp [c])⟩
    · obtain ⟨a, haa⟩ := List.exists_mem_of_ne_nil _ (List.length_pos_iff.mp (show 0 < as.length by omega))
      have hnew : ((a, b + 1) : Int × Int) ∈ (rect as (bs ++ [b + 1])).filter fun p => decide (p ∉ ps) := List.mem_filter.mpr ⟨mem_rect.mpr ⟨haa, by simp⟩, by
        have : ((a, b + 1) : Int × Int) ∉ ps := fun q => by
          have h1 : b + 1 ≤ b := hmax _ (hm _ q).2
          omega
        simpa using this⟩
      refine call_lone (j := 0) (k := 7) (by decide) rfl rfl ok4 (fun e => ?_) ?_ (belows_map _ (below_dE _) _) fun d hd x5 y5 ok5 => ?_
      · rw [List.map_eq_nil_iff] at e
        rw [e] at hnew
        cases hnew
      · rw [List.length_map]
        refine Nat.le_trans (List.length_filter_le ..) ?_
        rw [rect_len, List.length_append, List.length_singleton]
        exact Nat.le_trans (Nat.mul_le_mul (show as.length ≤ 5 by omega) (show bs.length + 1 ≤ 6 by omega)) (by decide)
      · obtain ⟨q, hq, rfl⟩ := List.mem_map.mp hd
        obtain ⟨hq1, hq2⟩ := List.mem_filter.mp hq
        have hq3 : q ∉ ps := by simpa using hq2
        obtain ⟨m1, m2⟩ := mem_rect.mp hq1
        have b1 := ga _ m1
        have b2 : 0 ≤ q.2 ∧ q.2 < 2000000000000000 := by
          rcases List.mem_append.mp m2 with m2 | m2
          · have := gb _ m2
            omega
          · rw [List.mem_singleton.mp m2]
            omega
        refine ⟨below_dE _ _, ?_, by decide, _, rfl, _, rfl, ?_, .inr ⟨_, ps ++ [q], rfl, seqOf_lr.mpr ?_, (fun ys z => nomatch z), fun qs hqp hqs => ?_⟩⟩
        · simp [belowE, belows, below, belows_ints, belows_map dE (below_dE _)]
          rw [hbs]
          exact belows_ints _ _
        · simp
          omega
        · simp [pT, dE]
        · have hv2 := hv.add hl hq3 ⟨b1.1, b2.1⟩ ⟨by omega, b2.2⟩ hqp hqs
          exact ⟨_, seqOf_lr.mpr (by rfl), end_drawn (T := [_, _, _, _, _, _, _, _, _]) rfl hv2 (h _ _ _ ok5 hv2)⟩
  walk_at "dgo"
  rw [if_neg r0, if_neg r1]
  exact end_drawn (T := [_, _, _]) rfl hv (h _ _ _ ok4 hv)
theorem ok_ldrawn_pairs {P : Program} {w : World} {K : PySem.W.Frag} {mg : Str → Option Value} {base : Heap} {f : Addr} {fd : FuncData} (F : Fun K "_law_drawn_pairs" "_law_drawn_pairs" s_ldrawn_pairs f fd) (W : Bl mg) (C_lone : CalG P w K mg base 2 "_law_one" sp_lone) (C_lproduct : CalG P w K mg base 1 "_law_product" sp_lproduct) (C_lformed_pairs : CalG P w K mg base 3 "_law_formed_pairs" sp_lformed_pairs) (C_ltake : CalG P w K mg base 1 "_law_take" sp_ltake) (C_ldrawn_numbers : CalG P w K mg base 3 "_law_drawn_numbers" sp_ldrawn_numbers) :
    FnG P w K mg base CX0 4 f fd ["jar"] (spL K sp_ldrawn_pairs) := by
  refine fn_okG (tb := b_ldrawn_pairs) F sc_ldrawn_pairs len_ldrawn_pairs (fun cdv A outer s H E hgd hr => ?_) hd_ldrawn_pairs
  have sc := sc_ldrawn_pairs
  have hu := hr.units
  have hu1 := Nat.lt_of_le_of_lt (Nat.add_le_add_left (show 1 ≤ 64 by decide) _) hu
  have hu65 := units65 hr
  exact (dss_cons (ds_par3 (i := 1) (j := 2) (l := 3) rfl sc.nd (da_cons (de_cal C_ldrawn_numbers hgd hr (by decide) (by rfl) (da_cons (de_var 0) (da_cons de_int da_nil))) (da_cons (de_cal C_ldrawn_numbers hgd hr (by decide) (by rfl) (da_cons (de_var 0) (da_cons de_int da_nil))) (da_cons (de_cal C_ltake hgd hr (by decide) (by rfl) (da_cons (de_var 0) (da_cons de_int da_nil))) da_nil))))
      (dss_cons (ds_set 4 sc.nd (de_cal C_lformed_pairs hgd hr (by decide) (by rfl) (da_cons (de_var 0) (da_cons (de_var 1) (da_cons (de_var 2) da_nil)))))
      (dss_cons (ds_if (PW.pt (dw_and (dt_cmp (op_eq2 hu) rul_eq (de_var 3) de_int (nomark _)) (dw_and1 (dt_cmp op_gt rul_gt (de_callB call_len_seq rul_len (by rfl) W.len_ PySem.boot_len (da_cons (de_var 4) da_nil)) de_int (nomark _))))) (dss_cons (ds_set 5 sc.nd (de_cal C_lone hgd hr (by decide) (by rfl) (da_cons (de_var 0) (da_cons (de_var 4) da_nil))))
      (dss_one (ds_set 4 sc.nd (de_lc (own := [("pair", 6)]) (ws := [6]) (by decide) rfl sc.nd (di_seq (de_var 4)) (blkOk_by (by rfl)) (fun _ _ _ _ _ => (dg_name 6 sc.nd)) (fun _ _ _ _ _ => (dts_one (dt_cmp (op_ne2 hu) rul_ne (de_var 6) (de_var 5) (nomark _)))) (fun _ _ _ _ _ => (de_var 6)))))) dss_nil)
      (dss_cons (ds_if (dt_cmp (op_eq2 hu) rul_eq (de_var 3) de_int (nomark _)) (dss_cons (ds_set 7 sc.nd (de_cal C_lproduct hgd hr (by decide) (by rfl) (da_cons (de_var 1) (da_cons (de_op op_add3 rul_add (de_var 2) (de_lst (da_cons (de_op op_add3 rul_add (de_ix ix_seq rul_ix (de_var 2) (de_op op_sub rul_sub (de_callB call_len_seq rul_len (by rfl) W.len_ PySem.boot_len (da_cons (de_var 2) da_nil)) de_int)) de_int) da_nil))) da_nil))))
      (dss_one (ds_set 4 sc.nd (de_callB (call_sortedB rfl) rul_sortedB (by rfl) W.sorted_ PyProof.Rows.boot_sorted (da_cons (de_op op_add3 rul_add (de_var 4) (de_lst (da_cons (de_gc0 (de_cal C_lone hgd hr (by decide) (by rfl) (da_cons (de_var 0) (da_cons (de_lc (own := [("pair", 6)]) (ws := [6]) (by decide) rfl sc.nd (di_seq (de_var 7)) (blkOk_by (by rfl)) (fun _ _ _ _ _ => (dg_name 6 sc.nd)) (fun _ _ _ _ _ => (dts_one (dt_cmp (op_notIn3 hu65) rul_in3 (de_var 6) (de_var 4) (by with_unfolding_all rfl)))) (fun _ _ _ _ _ => (de_var 6))) da_nil)))) da_nil))) da_nil))))) dss_nil)
      (dss_one (ds_ret (de_callTy call_tupleP rul_tuple (by rfl) W.tuple_ PyProof.Rows.boot_tuple (da_cons (de_var 4) da_nil))))))))
--@@split
theorem call_drawn {S : Store} {j : Nat} {x y : Int} {post : DK} (hj : S[j]? = some (jar x y)) (ok : JOk x y) (h : ∀ ps x' y', JOk x' y' → Vp ps → post (tE ps) (S.set j (jar x' y'))) : callD sp_ldrawn_pairs [.lr j] S post :=
  call_one hj (by simp [belows]) (by simp [belowE, belows, below]) ⟨x, y, rfl, rfl, ok, fun ps x' y' k v => by
    have := h ps x' y' k v
    show post (ren (rn [j] S.length) (tE ps)) _
    rw [ren_below _ _ (below_tE 0 _)]
    simpa [setAll, renE, rens, ren] using this⟩
/-! what is a row of pairs -/
theorem ltP2_iff {p q : Int × Int} : ltP2 p q = true ↔ ltP p q := by
  unfold ltP2 ltP
  rw [HT.lexLt_cons, HT.lexLt_cons]
  by_cases c : p.1 = q.1
  · rw [if_pos c]
    by_cases c2 : p.2 = q.2
    · rw [if_pos c2]
      have e : HT.lexLt [] [] = false := rfl
      rw [e]
      constructor
      · intro h
        cases h
      · intro h
        omega
    · rw [if_neg c2, decide_eq_true_iff]
      omega
  · rw [if_neg c, decide_eq_true_iff]
    omega
theorem ltP_trans {p q r : Int × Int} (h1 : ltP p q) (h2 : ltP q r) : ltP p r := by
  unfold ltP at *
  omega
theorem ltP_asym {p q : Int × Int} (h1 : ltP p q) (h2 : ltP q p) : False := by
  unfold ltP at *
  omega
theorem rises_cons {a b : Int × Int} {l : List (Int × Int)} : risesP (a :: b :: l) = (ltP2 a b && risesP (b :: l)) := by
  unfold risesP
  show (List.range (l.length + 1)).all _ = _
  rw [List.range_succ_eq_map, List.all_cons, List.all_map]
  rfl
theorem rises_iff : ∀ {ps : List (Int × Int)}, risesP ps = true ↔ ps.Pairwise ltP
  | [] => by simp [risesP]
  | [a] => by simp [risesP]
  | a :: b :: l => by
    rw [rises_cons, Bool.and_eq_true, ltP2_iff, rises_iff (ps := b :: l)]
    constructor
    · rintro ⟨h1, h2⟩
      refine List.pairwise_cons.mpr ⟨fun c hc => ?_, h2⟩
      rcases List.mem_cons.mp hc with rfl | hc
      · exact h1
      · exact ltP_trans h1 ((List.pairwise_cons.mp h2).1 c hc)
    · intro h
      exact ⟨(List.pairwise_cons.mp h).1 b (by simp), (List.pairwise_cons.mp h).2⟩
theorem unp_dE (p : Int × Int) : unp (dE p) = p := rfl
theorem parts_tE (ps : List (Int × Int)) : (partsD (tE ps)).map unp = ps := by
  show (ps.map dE).map unp = ps
  rw [List.map_map]
  exact List.map_id _
theorem np_dE {p : Int × Int} (h : 0 ≤ p.1 ∧ 0 ≤ p.2) : npD (dE p) = true := by
  simp [npD, isPr, partsD, dE, numD, h]
theorem are_vp {ps : List (Int × Int)} (h : Vp ps) : areD (tE ps) = true := by
  have e1 : (partsD (tE ps)).isEmpty = false := by
    show (ps.map dE).isEmpty = false
    cases hps : ps with
    | nil => exact absurd hps h.ne
    | cons p ps => rfl
  have e2 : (partsD (tE ps)).all npD = true := by
    rw [List.all_eq_true]
    intro d hd
    obtain ⟨p, hp, rfl⟩ := List.mem_map.mp (show d ∈ ps.map dE from hd)
    exact np_dE (h.pos p hp)
  unfold areD
  rw [e1, e2, parts_tE, rises_iff.mpr h.up]
  rfl
theorem are_up {ps : List (Int × Int)} (h : areD (tE ps) = true) : ps.Pairwise ltP := by
  unfold areD at h
  rw [parts_tE] at h
  simp only [Bool.and_eq_true] at h
  exact rises_iff.mp h.2.2.2
theorem not_are_up {ps : List (Int × Int)} (h : ¬ ps.Pairwise ltP) : areD (tE ps) = false := by
  cases q : areD (tE ps) with
  | false => rfl
  | true => exact absurd (are_up q) h
theorem not_are_mem {ds : List D} {d : D} (hd : d ∈ ds) (h : npD d = false) : areD (.tup ds) = false := by
  have e : (partsD (.tup ds)).all npD = false := by
    rw [List.all_eq_false]
    exact ⟨d, hd, by simp [h]⟩
  unfold areD
  rw [e]
  simp
theorem if_if_neg {p q : Prop} [Decidable p] [Decidable q] {A B : Prop} (h : ¬ (p ∧ q)) : (if p then (if q then A else B) else B) = B := by
  by_cases hp : p
  · rw [if_pos hp, if_neg fun hq => h ⟨hp, hq⟩]
  · rw [if_neg hp]
/-! _law_bent_pairs -/
def b_lbent_pairs : DS :=
  (dSeq (dPar2 2 3 (dCons (dCall sp_ltake (dCons (dVar 0) (dCons (dCB cLen (dCons (dVar 1) dNil)) dNil))) (dCons (dCall sp_ltake (dCons (dVar 0) (dCons (dC (.int 6)) dNil))) dNil)))
    (dSeq (dAsg (dOp oIx (dVar 1) (dVar 2)) (gTup 2 (gCons (gName 4) (gCons (gName 5) gNil))))
    (dSeq (dIfS (dTest (dOp (oEq false) (dVar 3) (dC (.int 0)))) (dRet (dGc0 (dCall sp_lone (dCons (dVar 0) (dCons (dLst (dCons (dTup dNil) (dCons (dC .non) (dCons (dC (.str "pairs")) (dCons (dVar 4) (dCons (dTup (dCons (dVar 4) (dCons (dVar 5) dNil))) dNil)))))) dNil))))) dNext)
    (dSeq (dIfS (dTest (dOp (oEq false) (dVar 3) (dC (.int 1)))) (dRet (dOp oAdd2 (dVar 1) (dTup (dCons (dOp oIx (dVar 1) (dVar 2)) dNil)))) dNext)
    (dSeq (dIfS (dAnd (dTest (dOp (oEq false) (dVar 3) (dC (.int 2)))) (dTest (dOp oGt (dCB cLen (dCons (dVar 1) dNil)) (dC (.int 1))))) (dRet (dOp oAdd2 (dSl (dVar 1) (dPart (dOp oSub (dCB cLen (dCons (dVar 1) dNil)) (dC (.int 1)))) dNoPart) (dSl (dVar 1) dNoPart (dPart (dOp oSub (dCB cLen (dCons (dVar 1) dNil)) (dC (.int 1))))))) dNext)
    (dSeq (dAsg (dGc0 (dCall sp_lone (dCons (dVar 0) (dCons (dLst (dCons (dTup (dCons (dVar 4) dNil)) (dCons (dTup (dCons (dVar 4) (dCons (dVar 5) (dCons (dVar 5) dNil)))) (dCons (dTup (dCons (dOp oSub (dUn oNeg (dC (.int 1))) (dVar 4)) (dCons (dVar 5) dNil))) (dCons (dTup (dCons (dVar 4) (dCons (dOp oSub (dUn oNeg (dC (.int 1))) (dVar 5)) dNil))) (dCons (dTup dNil) (dCons (dC .non) (dCons (dC (.str "pair")) (dCons (dVar 4) (dCons (dTup (dCons (dVar 4) (dCons (dC .non) dNil))) (dCons (dTup (dCons (dC (.str "0")) (dCons (dVar 5) dNil))) (dCons (dTup (dCons (dVar 4) (dCons (dTup (dCons (dVar 5) dNil)) dNil))) dNil)))))))))))) dNil)))) (gName 6))
    (dRet (dOp oAdd2 (dOp oAdd2 (dSl (dVar 1) dNoPart (dPart (dVar 2))) (dTup (dCons (dVar 6) dNil))) (dSl (dVar 1) (dPart (dOp oAdd2 (dVar 2) (dC (.int 1)))) dNoPart)))))))))
def Bent (d : D) : Prop := okT d = true ∧ (partsD d).length ≤ 1000 ∧ areD d = false
def sp_lbent_pairs : DSp := fun ds S post => ∃ x y ps, ds = [.lr 0, tE ps] ∧ S = [jar x y] ∧ JOk x y ∧ Vp ps ∧ ∀ d x' y', JOk x' y' → Bent d → post d [jar x' y']
theorem len_lbent_pairs : ∀ ds S post, sp_lbent_pairs ds S post → ds.length = 2 := by
  rintro _ _ _ ⟨_, _, _, rfl, _⟩
  rfl
theorem end_bent {S0 : Store} {x y x' y' : Int} {d : D} {post : DK} (h : Bent d) (hS : S0 = [jar x' y']) (hp : post d [jar x' y']) : fnEnd [jar x y] post d S0 := by
  subst hS
  exact end_jar (okT_below 0 d h.1) hp
theorem hd_lbent_pairs : ∀ ds S post, sp_lbent_pairs ds S post → b_lbent_pairs (endsD S post) (startD ["jar", "pairs", "at", "way", "x", "y", "odd"] ds) S := by
  rintro ds S post ⟨x, y, ps, rfl, rfl, ok, hv, h⟩
  unfold b_lbent_pairs
  have hl := hv.len
  have hn := List.length_pos_iff.mpr hv.ne
  rw [go_seqS]
  walk_at "dgo1"
  refine call_take (j := 0) rfl ok (by omega) (by omega) fun r x1 y1 ok1 ra rb => ?_
  walk_at "dgo1"
  refine call_take (j := 0) rfl ok1 (by decide) (by decide) fun w x2 y2 ok2 wa wb => ?_
  walk_at "dgo1"
  refine ⟨_, _, rfl, ?_⟩
  rw [go_seqS]
  walk_at "dgo1"
  have hi : r.toNat < ps.length := by omega
  have hq : ps[r.toNat]? = some ps[r.toNat] := List.getElem?_eq_getElem hi
  generalize ps[r.toNat] = q at hq
  have hix : L2.atI (List.map dE ps) r = some (dE q) := atI_of (by omega) (by
    rw [List.getElem?_map, hq]
    rfl)
  refine ⟨_, hix, ?_⟩
  have hm : q ∈ ps := List.mem_of_getElem? hq
  have hp := hv.pos q hm
  walk_at "dgo1"
  rw [go_seqS]
  walk_at "dgo1"
  split
  · refine ⟨by decide, by decide, by decide, call_lone (j := 0) (k := 1) (by decide) rfl rfl ok2 (by simp) (by simp) (by simp [belows, below]) fun d hd x3 y3 ok3 => ?_⟩
    have hb : Bent d := by
      simp only [List.mem_cons, List.not_mem_nil, or_false] at hd
      rcases hd with rfl | rfl | rfl | rfl | rfl <;> exact ⟨by simp [okT, okTs], by simp [partsD], rfl⟩
    refine ⟨okT_below _ _ hb.1, by simp [belowE, belows, below], end_bent hb rfl (h _ _ _ ok3 hb)⟩
  rw [go_seqS]
  walk_at "dgo1"
  split
  · refine ⟨_, hix, ?_⟩
    walk_at "dgo1"
    have hb : Bent (tE (ps ++ [q])) := by
      refine ⟨okT_tE _, ?_, not_are_up fun hu => ?_⟩
      · show ((ps ++ [q]).map dE).length ≤ 1000
        rw [List.length_map, List.length_append, List.length_singleton]
        omega
      · exact ltP_ne ((List.pairwise_append.mp hu).2.2 q hm q (by simp)) rfl
    have e : D.tup (ps.map dE ++ [D.tup [D.int q.1, D.int q.2]]) = tE (ps ++ [q]) := by
      unfold tE
      rw [List.map_append]
      rfl
    rw [e]
    exact ⟨by decide, by omega, end_bent hb rfl (h _ _ _ ok2 hb)⟩
  rw [go_seqS]
  walk_at "dgo1"
  by_cases c : w = 2 ∧ 1 < (ps.length : Int)
  · rw [if_pos c.1, if_pos c.2]
    have hlt := c.2
    rw [cut_from (by omega), cut_to (by omega)]
    have e0 : ((ps.length : Int) - 1).toNat = ps.length - 1 := by omega
    rw [e0]
    have e : D.tup ((ps.map dE).drop (ps.length - 1) ++ (ps.map dE).take (ps.length - 1)) = tE (ps.drop (ps.length - 1) ++ ps.take (ps.length - 1)) := by
      unfold tE
      rw [List.map_append, List.map_drop, List.map_take]
    rw [e]
    have hb : Bent (tE (ps.drop (ps.length - 1) ++ ps.take (ps.length - 1))) := by
      refine ⟨okT_tE _, ?_, not_are_up fun hu => ?_⟩
      · show ((ps.drop (ps.length - 1) ++ ps.take (ps.length - 1)).map dE).length ≤ 1000
        simp
        omega
      · have h2 := hv.up
        rw [← List.take_append_drop (ps.length - 1) ps] at h2
        obtain ⟨a, ha⟩ := List.exists_mem_of_ne_nil (ps.take (ps.length - 1)) (List.length_pos_iff.mp (by rw [List.length_take]; omega))
        obtain ⟨b, hb⟩ := List.exists_mem_of_ne_nil (ps.drop (ps.length - 1)) (List.length_pos_iff.mp (by rw [List.length_drop]; omega))
        exact ltP_asym ((List.pairwise_append.mp h2).2.2 a ha b hb) ((List.pairwise_append.mp hu).2.2 b hb a ha)
    refine ⟨?_, end_bent hb rfl (h _ _ _ ok2 hb)⟩
    simp
    omega
  rw [if_if_neg c]
  walk_at "dgo"
  refine ⟨by decide, by decide, by decide, by decide, by decide, by decide, by decide, by decide, by decide, by decide, call_lone (j := 0) (k := 1) (by decide) rfl rfl ok2 (by simp) (by simp) (by simp [belows, below]) fun d hd x3 y3 ok3 => ?_⟩
  have hd' : okT d = true ∧ npD d = false := by
    simp only [List.mem_cons, List.not_mem_nil, or_false] at hd
    rcases hd with rfl | rfl | rfl | rfl | rfl | rfl | rfl | rfl | rfl | rfl | rfl
    · exact ⟨by simp [okT, okTs], rfl⟩
    · exact ⟨by simp [okT, okTs], rfl⟩
    · exact ⟨by simp [okT, okTs], by simp [npD, isPr, partsD, numD]; omega⟩
    · exact ⟨by simp [okT, okTs], by simp [npD, isPr, partsD, numD]; omega⟩
    all_goals exact ⟨by simp [okT, okTs], by simp [npD, isPr, partsD, numD]⟩
  rw [cut_to ra, cut_from (by omega)]
  have hb : Bent (.tup ((ps.map dE).take r.toNat ++ [d] ++ (ps.map dE).drop (r + 1).toNat)) := by
    refine ⟨?_, ?_, not_are_mem (d := d) (by simp) hd'.2⟩
    · rw [okT, okTs_iff]
      intro e he
      rcases List.mem_append.mp he with he | he
      · rcases List.mem_append.mp he with he | he
        · obtain ⟨p, _, rfl⟩ := List.mem_map.mp (List.mem_of_mem_take he)
          exact okT_dE p
        · rw [List.mem_singleton.mp he]
          exact hd'.1
      · obtain ⟨p, _, rfl⟩ := List.mem_map.mp (List.mem_of_mem_drop he)
        exact okT_dE p
    · show ((ps.map dE).take r.toNat ++ [d] ++ (ps.map dE).drop (r + 1).toNat).length ≤ 1000
      simp
      omega
  refine ⟨okT_below _ _ hd'.1, by simp [belowE, belows, below], by decide, ?_, ?_, end_bent hb rfl (h _ _ _ ok3 hb)⟩
  · simp
    omega
  · simp
    omega
theorem ok_lbent_pairs {P : Program} {w : World} {K : PySem.W.Frag} {mg : Str → Option Value} {base : Heap} {f : Addr} {fd : FuncData} (F : Fun K "_law_bent_pairs" "_law_bent_pairs" s_lbent_pairs f fd) (W : Bl mg) (C_lone : CalG P w K mg base 2 "_law_one" sp_lone) (C_ltake : CalG P w K mg base 1 "_law_take" sp_ltake) :
    FnG P w K mg base CX0 3 f fd ["jar", "pairs"] (spL K sp_lbent_pairs) := by
  refine fn_okG (tb := b_lbent_pairs) F sc_lbent_pairs len_lbent_pairs (fun cdv A outer s H E hgd hr => ?_) hd_lbent_pairs
  have sc := sc_lbent_pairs
  have hu := hr.units
  have hu1 := Nat.lt_of_le_of_lt (Nat.add_le_add_left (show 1 ≤ 64 by decide) _) hu
  have hu65 := units65 hr
  exact (dss_cons (ds_par2 (i := 2) (j := 3) rfl sc.nd (da_cons (de_cal C_ltake hgd hr (by decide) (by rfl) (da_cons (de_var 0) (da_cons (de_callB call_len_seq rul_len (by rfl) W.len_ PySem.boot_len (da_cons (de_var 1) da_nil)) da_nil))) (da_cons (de_cal C_ltake hgd hr (by decide) (by rfl) (da_cons (de_var 0) (da_cons de_int da_nil))) da_nil)))
      (dss_cons (ds_asg (de_ix ix_seq rul_ix (de_var 1) (de_var 2)) (dg_tup rfl (dgs_cons (dg_name 4 sc.nd) (dgs_cons (dg_name 5 sc.nd) dgs_nil))))
      (dss_cons (ds_if (dt_cmp (op_eq2 hu) rul_eq (de_var 3) de_int (nomark _)) (dss_one (ds_ret (de_gc0 (de_cal C_lone hgd hr (by decide) (by rfl) (da_cons (de_var 0) (da_cons (de_lst (da_cons (de_tup da_nil) (da_cons de_non (da_cons de_str (da_cons (de_var 4) (da_cons (de_tup (da_cons (de_var 4) (da_cons (de_var 5) da_nil))) da_nil)))))) da_nil)))))) dss_nil)
      (dss_cons (ds_if (dt_cmp (op_eq2 hu) rul_eq (de_var 3) de_int (nomark _)) (dss_one (ds_ret (de_op op_add4 rul_add4 (de_var 1) (de_tup (da_cons (de_ix ix_seq rul_ix (de_var 1) (de_var 2)) da_nil))))) dss_nil)
      (dss_cons (ds_if (PW.pt (dw_and (dt_cmp (op_eq2 hu) rul_eq (de_var 3) de_int (nomark _)) (dw_and1 (dt_cmp op_gt rul_gt (de_callB call_len_seq rul_len (by rfl) W.len_ PySem.boot_len (da_cons (de_var 1) da_nil)) de_int (nomark _))))) (dss_one (ds_ret (de_op op_add4 rul_add4 (de_sl (de_var 1) (do_some (de_op op_sub rul_sub (de_callB call_len_seq rul_len (by rfl) W.len_ PySem.boot_len (da_cons (de_var 1) da_nil)) de_int)) do_none) (de_sl (de_var 1) do_none (do_some (de_op op_sub rul_sub (de_callB call_len_seq rul_len (by rfl) W.len_ PySem.boot_len (da_cons (de_var 1) da_nil)) de_int)))))) dss_nil)
      (dss_cons (ds_set 6 sc.nd (de_gc0 (de_cal C_lone hgd hr (by decide) (by rfl) (da_cons (de_var 0) (da_cons (de_lst (da_cons (de_tup (da_cons (de_var 4) da_nil)) (da_cons (de_tup (da_cons (de_var 4) (da_cons (de_var 5) (da_cons (de_var 5) da_nil)))) (da_cons (de_tup (da_cons (de_op op_sub rul_sub (de_un un_neg rul_neg de_int) (de_var 4)) (da_cons (de_var 5) da_nil))) (da_cons (de_tup (da_cons (de_var 4) (da_cons (de_op op_sub rul_sub (de_un un_neg rul_neg de_int) (de_var 5)) da_nil))) (da_cons (de_tup da_nil) (da_cons de_non (da_cons de_str (da_cons (de_var 4) (da_cons (de_tup (da_cons (de_var 4) (da_cons de_non da_nil))) (da_cons (de_tup (da_cons de_str (da_cons (de_var 5) da_nil))) (da_cons (de_tup (da_cons (de_var 4) (da_cons (de_tup (da_cons (de_var 5) da_nil)) da_nil))) da_nil)))))))))))) da_nil)))))
      (dss_one (ds_ret (de_op op_add4 rul_add4 (de_op op_add4 rul_add4 (de_sl (de_var 1) do_none (do_some (de_var 2))) (de_tup (da_cons (de_var 6) da_nil))) (de_sl (de_var 1) (do_some (de_op op_add4 rul_add4 (de_var 2) de_int)) do_none))))))))))
--@@split
def Small (xs : List Int) : Prop := ∀ x ∈ xs, 0 ≤ x ∧ x < 4294967296
theorem fine_tI {xs : List Int} (h : ∀ x ∈ xs, x.natAbs < 2 ^ 64) : Fine (xs.length * 65) 1 (tI xs) := by
  have q := fine_tup (c := 64) (k := 0) (ds := xs.map D.int) fun d hd => by
    obtain ⟨x, hx, rfl⟩ := List.mem_map.mp hd
    exact fine_int (h x hx)
  rwa [List.length_map] at q
theorem fine_dE {p : Int × Int} (h1 : p.1.natAbs < 2 ^ 64) (h2 : p.2.natAbs < 2 ^ 64) : Fine 130 1 (dE p) := by
  have q := fine_tup (c := 64) (k := 0) (ds := [D.int p.1, D.int p.2]) fun d hd => by
    simp only [List.mem_cons, List.not_mem_nil, or_false] at hd
    rcases hd with rfl | rfl
    · exact fine_int h1
    · exact fine_int h2
  exact q
theorem fine_tE {es : List (Int × Int)} (h : ∀ p ∈ es, p.1.natAbs < 2 ^ 64 ∧ p.2.natAbs < 2 ^ 64) : Fine (es.length * 131) 2 (tE es) := by
  have q := fine_tup (c := 130) (k := 1) (ds := es.map dE) fun d hd => by
    obtain ⟨x, hx, rfl⟩ := List.mem_map.mp hd
    exact fine_dE (h x hx).1 (h x hx).2
  rwa [List.length_map] at q
theorem go_repr {d : D} {c k : Nat} {S : Store} {post : DK} (h : Fine c k d) (hc : c ≤ 100000) (hk : k ≤ 60) (p : post (.str (toP d).shown) S) : cRepr [d] S post := ⟨d, toP d, rfl, .inl ⟨h.1, rfl⟩, h.2.mono hc hk, p⟩
theorem oEq_same {neg : Bool} {c k : Nat} {d : D} {S : Store} {post : DK} (hf : Fine c k d) (hd : ∃ ds, d = .tup ds) (hk : k ≤ 64) (h : post (.bl (neg ^^ true)) S) : oEq neg d d S post := by
  obtain ⟨ds, rfl⟩ := hd
  refine oEq_fine hf hf hk hk ?_
  rw [PySem.SeqAt.eqv_refl _ hf.2.cl]
  exact h
/-! _law_is_refused -/
theorem call_pureX {sp : DSpX} {ds : List D} {S : Store} {post : DK} {ex : Value → D → Store → Prop} (hb : belows 0 ds = true) (h : sp ds [] (fun d S' => post (ren (fun i => S.length + i) d) (S ++ S'.map (renE fun i => S.length + i))) fun c d S' => ex c (ren (fun i => S.length + i) d) (S ++ S'.map (renE fun i => S.length + i))) : callDX sp ds S post ex := by
  have e : rn [] S.length = fun i => S.length + i := by
    funext i
    simp [rn]
  refine ⟨[], ds, [], List.nodup_nil, rens_belows _ ds hb, rfl, fun i n e h1 _ => by simp at h1, ?_⟩
  rw [e]
  exact h
theorem call_bad {cl : CL} {d : D} {S : Store} {post : DK} {ex : Value → D → Store → Prop} (hb : Bent d) (h : ex (.ref cl.c_BadPairs) (.int (-1)) S) : callDX (sp_sort_of cl) [d] S post ex :=
  call_pureX (by simp [belows, okT_below 0 d hb.1]) ⟨d, rfl, rfl, hb.1, hb.2.1, fun _ => by simpa [ren] using h, fun q => by rw [hb.2.2] at q; cases q⟩
theorem call_sortV {cl : CL} {ps : List (Int × Int)} {F G : List Int} {S : Store} {post : DK} (hv : Vp ps) (hP : Pairs ps F G) (h : post (sortC ps F G) S) : callD (noX (sp_sort_of cl)) [tE ps] S post := by
  refine call_pure (by simp [belows, below_tE]) ⟨tE ps, rfl, rfl, okT_tE ps, ?_, fun q => ?_, fun _ qs r1 r2 e h1 h2 => ?_⟩
  · show (ps.map dE).length ≤ 1000
    rw [List.length_map]
    have := hv.len
    omega
  · rw [are_vp hv] at q
    cases q
  · have e' := tE_inj e
    subst e'
    rw [rows_canon h1 hP.f, rows_canon h2 hP.g]
    show post (ren _ (sortC ps F G)) _
    rw [ren_below _ _ (below_sortC ps F G)]
    simpa using h
def b_lis_refused (K : PySem.W.Frag) (cl : CL) : DS :=
  (dSeq (dTry (PySem.W.exmOne K) ((dDropX (dCallX (sp_sort_of cl) (dToXs (dCons (dVar 0) dNil))))) [⟨.ref cl.c_BadPairs, (some 1), fun a cls d => (dRet (dAndV (dIsX K a cls d (.ref cl.c_Refused) (dVar 1)) (dOp (oEq false) (dCB cRepr (dCons (dWhatS K a cls d (dVar 1)) dNil)) (dC (.str "-1")))))⟩, ⟨.ref cl.c_Refused, none, fun a cls d => (dRet (dC (.bl false)))⟩])
    (dRet (dC (.bl false))))
def sp_lis_refused : DSp := fun ds S post => ∃ d, ds = [d] ∧ S = [] ∧ Bent d ∧ post (.bl true) []
theorem len_lis_refused : ∀ ds S post, sp_lis_refused ds S post → ds.length = 1 := by
  rintro _ _ _ ⟨_, rfl, _⟩
  rfl
theorem hd_lis_refused {K : PySem.W.Frag} {cl : CL} (hC : Clf K cl) : ∀ ds S post, sp_lis_refused ds S post → b_lis_refused K cl (endsD S post) (startD ["thing", "e"] ds) S := by
  rintro ds S post ⟨d, rfl, rfl, hb, h⟩
  unfold b_lis_refused
  rw [go_seqS]
  walk_at "dgo1"
  refine call_bad hb ?_
  refine ⟨true, exm_of hC.h_BadPairs hC.s_BadPairs_BadPairs, fun _ a dd => ?_, fun q => nomatch q⟩
  walk_at "dgo1"
  refine ⟨_, rfl, cl.c_BadPairs, dd, ⟨_, rfl⟩, rfl, hC.t_BadPairs.ex, rfl, true, kit_of hC.h_Refused hC.s_BadPairs_Refused, ?_⟩
  rw [if_pos rfl]
  refine ⟨⟨_, rfl, hC.t_BadPairs.xf, hC.t_BadPairs.no⟩, _, rfl, dd, _, rfl, rfl, go_repr (c := 64) (k := 0) (fine_int (by decide)) (by decide) (by decide) ?_⟩
  refine go_eq_str.mpr ?_
  have e : (toP (.int (-1))).shown = Str.ofString "-1" := by decide +kernel
  rw [e, decide_eq_true rfl]
  exact end_none (by simp [below]) h
theorem ok_lis_refused {P : Program} {w : World} {K : PySem.W.Frag} {mg : Str → Option Value} {base : Heap} {f : Addr} {fd : FuncData} (F : Fun K "_law_is_refused" "_law_is_refused" s_lis_refused f fd) (W : Bl mg) (cl : CL) (M : Clm mg cl) (hC : Clf K cl) (C_sort_of : CalX P w K mg base 4 "sort_of" (sp_sort_of cl)) :
    FnG P w K mg base CX0 5 f fd ["thing"] (spL K sp_lis_refused) := by
  refine fn_okG (tb := b_lis_refused K cl) F sc_lis_refused len_lis_refused (fun cdv A outer s H E hgd hr => ?_) (hd_lis_refused hC)
  have sc := sc_lis_refused
  have hu := hr.units
  have hu1 := Nat.lt_of_le_of_lt (Nat.add_le_add_left (show 1 ≤ 64 by decide) _) hu
  have hu65 := units65 hr
  exact (dss_cons (ds_try (l := [⟨.ref cl.c_BadPairs, (some 1), fun a cls d => (dRet (dAndV (dIsX K a cls d (.ref cl.c_Refused) (dVar 1)) (dOp (oEq false) (dCB cRepr (dCons (dWhatS K a cls d (dVar 1)) dNil)) (dC (.str "-1")))))⟩, ⟨.ref cl.c_Refused, none, fun a cls d => (dRet (dC (.bl false)))⟩]) rfl rfl takesD0 (fun W pn xe tk hpo => by exact (dss_one (ds_exprX (de_calX C_sort_of hgd hr (by decide) (by rfl) tk (da_toX (da_cons (de_var 0) da_nil)))))) (by exact (HdlsOk.cons (h := DHdl.up _ _ ⟨.ref cl.c_BadPairs, (some 1), fun a cls d => (dRet (dAndV (dIsX K a cls d (.ref cl.c_Refused) (dVar 1)) (dOp (oEq false) (dCB cRepr (dCons (dWhatS K a cls d (dVar 1)) dNil)) (dC (.str "-1")))))⟩) ⟨by rfl, by decide, .inl M.g_BadPairs⟩ (.yes (i := 1) sc.nd rfl rfl) (fun a oe cls d pn hz hf => by show PSs _ _ (liftS _ _ ((dRet (dAndV (dIsX K a cls d (.ref cl.c_Refused) (dVar 1)) (dOp (oEq false) (dCB cRepr (dCons (dWhatS K a cls d (dVar 1)) dNil)) (dC (.str "-1"))))))); exact (dss_one (ds_ret (de_and (de_isOwn hz hf (de_var 1) (by rfl) W.isinstance_ (by rfl) M.g_Refused) (de_one (de_cmp (op_eq2 (by exact hu)) rul_eq (de_callB (call_repr_dp (by exact hgd) (by exact hu)) rul_repr (by rfl) W.repr_ PyProof.Rows.boot_repr (da_cons (de_whatS hz hf (de_var 1)) da_nil)) de_str (nomark _))))))) (HdlsOk.cons (h := DHdl.up _ _ ⟨.ref cl.c_Refused, none, fun a cls d => (dRet (dC (.bl false)))⟩) ⟨by rfl, by decide, .inl M.g_Refused⟩ .no (fun a oe cls d pn hz hf => by show PSs _ _ (liftS _ _ ((dRet (dC (.bl false))))); exact (dss_one (ds_ret de_bl))) .nil))))
      (dss_one (ds_ret de_bl)))
theorem call_refused {d : D} {S : Store} {post : DK} (hb : Bent d) (h : post (.bl true) S) : callD sp_lis_refused [d] S post :=
  call_pure (by simp [belows, okT_below 0 d hb.1]) ⟨d, rfl, rfl, hb, by simpa [ren] using h⟩
--@@split
/-! the law's mathematics: turned about, renamed -/
theorem rowsC_perm {F ns ms : List Int} (h : ns.Perm ms) : rowsC F ns = rowsC F ms := by
  unfold rowsC
  refine List.map_congr_left fun v _ => ?_
  rw [h.count_eq]
def swp (p : Int × Int) : Int × Int := (p.2, p.1)
def turnD : D → D
  | .tup [.str s, .int a, .int b] => .tup [.str s, .int b, .int a]
  | d => d
def renD (f g : Int → Int) : D → D
  | .tup [.str s, .int a, .int b] => .tup [.str s, .int (f a), .int (g b)]
  | d => d
theorem eit_turn (r1 r2 : List (Int × Int)) : eitD r2 r1 = turnD (eitD r1 r2) := by
  unfold eitD
  cases cfind r1 r2.length <;> cases cfind r2 r1.length <;> rfl
theorem sortR_turn (n : Nat) (r1 r2 : List (Int × Int)) : sortR n r2 r1 = turnD (sortR n r1 r2) := by
  unfold sortR
  by_cases c1 : (n : Int) = (r1.length : Int) * (r2.length : Int)
  · rw [if_pos c1, if_pos (by rw [Int.mul_comm]; exact c1)]
    rfl
  · rw [if_neg c1, if_neg (by rw [Int.mul_comm]; exact c1)]
    by_cases c2 : (n : Int) = (r1.length : Int) ∧ (n : Int) = (r2.length : Int)
    · rw [if_pos c2, if_pos ⟨c2.2, c2.1⟩]
      rfl
    · rw [if_neg c2, if_neg fun q => c2 ⟨q.2, q.1⟩]
      by_cases c3 : (n : Int) = (r1.length : Int) + (r2.length : Int) - 1
      · rw [if_pos c3, if_pos (by omega)]
        exact eit_turn r1 r2
      · rw [if_neg c3, if_neg (by omega)]
        rfl
section
variable {ps qs : List (Int × Int)} {F G F' G' : List Int}
theorem sort_turn (h : Pairs ps F G) (hq : qs.Perm (ps.map swp)) : Pairs qs G F ∧ sortC qs G F = turnD (sortC ps F G) := by
  have e1 : (fsts qs).Perm (snds ps) := by
    have := hq.map Prod.fst
    rw [List.map_map] at this
    exact this
  have e2 : (snds qs).Perm (fsts ps) := by
    have := hq.map Prod.snd
    rw [List.map_map] at this
    exact this
  refine ⟨⟨hq.nodup_iff.mpr (nd_map h.nd fun p _ q _ e => ?_), ⟨h.g.1, fun v => by rw [h.g.2, e1.mem_iff]⟩, ⟨h.f.1, fun v => by rw [h.f.2, e2.mem_iff]⟩⟩, ?_⟩
  · unfold swp at e
    exact Prod.ext (congrArg Prod.snd e) (congrArg Prod.fst e)
  · unfold sortC
    rw [rowsC_perm e1, rowsC_perm e2, hq.length_eq, List.length_map, sortR_turn]
theorem ex_FG (ps : List (Int × Int)) (hn : ps.Nodup) : ∃ F G, Pairs ps F G := by
  obtain ⟨F, hF, _⟩ := srt_ex (fsts ps)
  obtain ⟨G, hG, _⟩ := srt_ex (snds ps)
  exact ⟨F, G, hn, hF, hG⟩
theorem one_le {b : Int} {G : List Int} (hn : G.Nodup) (h : ∀ c ∈ G, c = b) (hb : b ∈ G) : G.length = 1 := by
  have h1 := sub_len hn (ys := [b]) fun c hc => by simp [h c hc]
  have h2 := List.length_pos_of_mem hb
  simp at h1
  omega
theorem eit_uniq (h : Pairs ps F G) (hn : ps.length + 1 = F.length + G.length) (hne : ps.length ≠ F.length * G.length) {a b : Int} (ha : a ∈ F) (hb : b ∈ G) (he : HE ps (·.1) (·.2) a b) : eitD (rowsC F (fsts ps)) (rowsC G (snds ps)) = .tup [.str "either", .int a, .int b] := by
  obtain ⟨a', b', ha', hb', he', e⟩ := eit_some h hn ha hb he
  have g := h.grid
  obtain ⟨c1, c2⟩ := (g.he_iff hn ha hb).mp he
  obtain ⟨d1, d2⟩ := (g.he_iff hn ha' hb').mp he'
  have x1 := (g.he_iff hn ha' hb).mpr ⟨d1, c2⟩
  have x2 := (g.he_iff hn ha hb').mpr ⟨c1, d2⟩
  have ea : a' = a := Decidable.byContradiction fun q => hne (by
    have hall : ∀ c ∈ G, c = b := fun c hc => by
      obtain ⟨p, hp, rfl⟩ := (g.mg c).mp hc
      rcases he p hp with r1 | r1
      · rcases x1 p hp with r2 | r2
        · exact absurd (r2.symm.trans r1) q
        · exact r2
      · exact r1
    have := one_le g.ng hall hb
    rw [this, Nat.mul_one]
    omega)
  have eb : b' = b := Decidable.byContradiction fun q => hne (by
    have hall : ∀ c ∈ F, c = a := fun c hc => by
      obtain ⟨p, hp, rfl⟩ := (g.mf c).mp hc
      rcases he p hp with r1 | r1
      · exact r1
      · rcases x2 p hp with r2 | r2
        · exact r2
        · exact absurd (r2.symm.trans r1) q
    have := one_le g.nf hall ha
    rw [this, Nat.one_mul]
    omega)
  rw [e, ea, eb]
theorem sort_ren {f g : Int → Int} (h : Pairs ps F G) (h' : Pairs qs F' G') (hq : qs.Perm (ps.map fun p => (f p.1, g p.2))) (fi : ∀ a ∈ F, ∀ b ∈ F, f a = f b → a = b) (gi : ∀ a ∈ G, ∀ b ∈ G, g a = g b → a = b) : sortC qs F' G' = renD f g (sortC ps F G) := by
  have hn : qs.length = ps.length := by
    rw [hq.length_eq, List.length_map]
  have gr := h.grid
  have gr' := h'.grid
  have mq : ∀ q, q ∈ qs ↔ ∃ p ∈ ps, (f p.1, g p.2) = q := fun q => by
    rw [hq.mem_iff, List.mem_map]
  have m1 : ∀ v, v ∈ F' ↔ ∃ a ∈ F, f a = v := fun v => by
    rw [gr'.mf]
    constructor
    · rintro ⟨q, hqm, rfl⟩
      obtain ⟨p, hp, rfl⟩ := (mq q).mp hqm
      exact ⟨p.1, (gr.mf _).mpr ⟨p, hp, rfl⟩, rfl⟩
    · rintro ⟨a, ha, rfl⟩
      obtain ⟨p, hp, rfl⟩ := (gr.mf a).mp ha
      exact ⟨_, (mq _).mpr ⟨p, hp, rfl⟩, rfl⟩
  have m2 : ∀ v, v ∈ G' ↔ ∃ a ∈ G, g a = v := fun v => by
    rw [gr'.mg]
    constructor
    · rintro ⟨q, hqm, rfl⟩
      obtain ⟨p, hp, rfl⟩ := (mq q).mp hqm
      exact ⟨p.2, (gr.mg _).mpr ⟨p, hp, rfl⟩, rfl⟩
    · rintro ⟨a, ha, rfl⟩
      obtain ⟨p, hp, rfl⟩ := (gr.mg a).mp ha
      exact ⟨_, (mq _).mpr ⟨p, hp, rfl⟩, rfl⟩
  have len : ∀ {X X' : List Int} {k : Int → Int}, X.Nodup → X'.Nodup → (∀ v, v ∈ X' ↔ ∃ a ∈ X, k a = v) → (∀ a ∈ X, ∀ b ∈ X, k a = k b → a = b) → X'.length = X.length := fun {X X' k} n1 n2 m i => by
    have q1 := sub_len n2 (ys := X.map k) fun v hv => List.mem_map.mpr ((m v).mp hv)
    have q2 := sub_len (nd_map n1 i) (ys := X') fun v hv => (m v).mpr (List.mem_map.mp hv)
    rw [List.length_map] at q1 q2
    omega
  have hl1 := len gr.nf gr'.nf m1 fi
  have hl2 := len gr.ng gr'.ng m2 gi
  unfold sortC sortR
  rw [rowsC_len, rowsC_len, rowsC_len, rowsC_len, hn, hl1, hl2]
  by_cases q1 : (ps.length : Int) = (F.length : Int) * (G.length : Int)
  · rw [if_pos q1, if_pos q1]
    rfl
  rw [if_neg q1, if_neg q1]
  by_cases q2 : (ps.length : Int) = (F.length : Int) ∧ (ps.length : Int) = (G.length : Int)
  · rw [if_pos q2, if_pos q2]
    rfl
  rw [if_neg q2, if_neg q2]
  by_cases q3 : (ps.length : Int) = (F.length : Int) + (G.length : Int) - 1
  · rw [if_pos q3, if_pos q3]
    have n1 : ps.length ≠ F.length * G.length := fun e => q1 (by rw [e]; exact Int.natCast_mul _ _)
    by_cases e : ∃ a ∈ F, ∃ b ∈ G, HE ps (·.1) (·.2) a b
    · obtain ⟨a, ha, b, hb, he⟩ := e
      rw [eit_uniq h (by omega) n1 ha hb he, eit_uniq h' (by omega) (by rw [hn, hl1, hl2]; exact n1) ((m1 _).mpr ⟨a, ha, rfl⟩) ((m2 _).mpr ⟨b, hb, rfl⟩) fun q hqm => ?_]
      · rfl
      · obtain ⟨p, hp, rfl⟩ := (mq q).mp hqm
        rcases he p hp with r | r
        · exact .inl (congrArg f r)
        · exact .inr (congrArg g r)
    · rw [eit_none h (by omega) fun a ha b hb he => e ⟨a, ha, b, hb, he⟩, eit_none h' (by omega) fun a' ha' b' hb' he' => ?_]
      · rfl
      · obtain ⟨a, ha, rfl⟩ := (m1 a').mp ha'
        obtain ⟨b, hb, rfl⟩ := (m2 b').mp hb'
        refine e ⟨a, ha, b, hb, fun p hp => ?_⟩
        rcases he' _ ((mq _).mpr ⟨p, hp, rfl⟩) with r | r
        · exact .inl (fi _ ((gr.mf _).mpr ⟨p, hp, rfl⟩) _ ha r)
        · exact .inr (gi _ ((gr.mg _).mpr ⟨p, hp, rfl⟩) _ hb r)
  · rw [if_neg q3, if_neg q3]
    rfl
theorem sort_cases (h : Pairs ps F G) : sortC ps F G = .non ∨ sortC ps F G = .tup [.str "free"] ∨ sortC ps F G = .tup [.str "tied"] ∨ ∃ a b, a ∈ F ∧ b ∈ G ∧ sortC ps F G = .tup [.str "either", .int a, .int b] := by
  unfold sortC sortR
  split
  · exact .inr (.inl rfl)
  · split
    · exact .inr (.inr (.inl rfl))
    · split
      · rw [eit_is]
        cases q1 : F.find? (fun a => decide (cA ps (·.1) a = G.length)) with
        | none => exact .inl rfl
        | some a =>
          cases q2 : G.find? (fun b => decide (cA ps (·.2) b = F.length)) with
          | none => exact .inl rfl
          | some b => exact .inr (.inr (.inr ⟨a, b, List.mem_of_find?_eq_some q1, List.mem_of_find?_eq_some q2, rfl⟩))
      · exact .inl rfl
end
/-! what a renaming's dict tells -/
def fI (F cs : List Int) (x : Int) : Int := (((F.zip cs).find? fun p => decide (p.1 = x)).map (·.2)).getD 0
theorem fI_zip {F cs : List Int} {x : Int} (hl : cs.length = F.length) (hx : x ∈ F) : (F.zip cs).find? (fun p => decide (p.1 = x)) = some (x, fI F cs x) := by
  cases q : (F.zip cs).find? (fun p => decide (p.1 = x)) with
  | none =>
    exfalso
    obtain ⟨i, hi, e⟩ := List.mem_iff_getElem.mp hx
    have hz : i < (F.zip cs).length := by rw [List.length_zip]; omega
    have := List.find?_eq_none.mp q _ (List.getElem_mem hz)
    rw [List.getElem_zip] at this
    exact this (by simpa using e)
  | some p =>
    have h1 : p.1 = x := by simpa using List.find?_some q
    unfold fI
    rw [q]
    subst h1
    rfl
theorem fI_mem {F cs : List Int} {x : Int} (hl : cs.length = F.length) (hx : x ∈ F) : (x, fI F cs x) ∈ F.zip cs := List.mem_of_find?_eq_some (fI_zip hl hx)
theorem valD_kvI {F cs : List Int} {x : Int} (hl : cs.length = F.length) (hx : x ∈ F) : valD (kvI F cs) (Sum.inl x) = some (.int (fI F cs x)) := by
  unfold valD kvI
  rw [List.find?_map]
  have e : ((fun kv : Key × D => decide (kv.1 = Sum.inl x)) ∘ fun p : Int × Int => ((Sum.inl p.1 : Key), D.int p.2)) = fun p => decide (p.1 = x) := by
    funext p
    show decide ((Sum.inl p.1 : Key) = Sum.inl x) = decide (p.1 = x)
    by_cases c : p.1 = x
    · rw [decide_eq_true c, decide_eq_true (by rw [c])]
    · rw [decide_eq_false c, decide_eq_false fun q => c (Sum.inl.inj q)]
  rw [e, fI_zip hl hx]
  rfl
theorem fI_inj {F cs : List Int} (hl : cs.length = F.length) (hc : cs.Nodup) {x y : Int} (hx : x ∈ F) (hy : y ∈ F) (e : fI F cs x = fI F cs y) : x = y := by
  obtain ⟨i, hi, e1⟩ := List.mem_iff_getElem.mp (fI_mem hl hx)
  obtain ⟨j, hj, e2⟩ := List.mem_iff_getElem.mp (fI_mem hl hy)
  rw [List.getElem_zip] at e1 e2
  have hi2 : i < cs.length := by rw [List.length_zip] at hi; omega
  have hj2 : j < cs.length := by rw [List.length_zip] at hj; omega
  have a1 : cs[i] = fI F cs x := congrArg Prod.snd e1
  have a2 : cs[j] = fI F cs y := congrArg Prod.snd e2
  have hij : i = j := by
    rcases Nat.lt_trichotomy i j with c | c | c
    · exact absurd (by rw [a1, a2, e]) ((List.pairwise_iff_getElem.mp hc) i j hi2 hj2 c)
    · exact c
    · exact absurd (by rw [a1, a2, e]) ((List.pairwise_iff_getElem.mp hc) j i hj2 hi2 c)
  subst hij
  exact (congrArg Prod.fst e1).symm.trans (congrArg Prod.fst e2)
theorem Vp.of {ps qs : List (Int × Int)} {m : Int × Int → Int × Int} (h : Vp ps) (hq : qs.Perm (ps.map m)) (le : qs.Pairwise lexLe) (inj : ∀ p ∈ ps, ∀ q ∈ ps, m p = m q → p = q) (b1 : ∀ p ∈ ps, 0 ≤ (m p).1 ∧ 0 ≤ (m p).2) (b2 : ∀ p ∈ ps, (m p).1 < 2000000000000000 ∧ (m p).2 < 2000000000000000) : Vp qs := by
  have hl := hq.length_eq
  rw [List.length_map] at hl
  have hm : ∀ q ∈ qs, ∃ p ∈ ps, m p = q := fun q hqm => List.mem_map.mp (hq.mem_iff.mp hqm)
  refine ⟨fun e => ?_, by have := h.len; omega, sorted_lt (hq.nodup_iff.mpr (nd_map h.nd inj)) le, fun q hqm => ?_, fun q hqm => ?_⟩
  · rw [e] at hl
    exact h.ne (List.length_eq_zero_iff.mp hl.symm)
  · obtain ⟨p, hp, rfl⟩ := hm q hqm
    exact b1 p hp
  · obtain ⟨p, hp, rfl⟩ := hm q hqm
    exact b2 p hp
theorem Vp.big {ps : List (Int × Int)} (h : Vp ps) : Big ps := ⟨by have := h.len; omega, fun p hp => by
  have a := h.pos p hp
  have b := h.lt p hp
  omega⟩
theorem fine_sort {ps : List (Int × Int)} {F G : List Int} (h : Pairs ps F G) (hv : Vp ps) : Fine 200 1 (sortC ps F G) := by
  have big : ∀ {c k : Nat} {d : D}, Fine c k d → c ≤ 200 → k ≤ 1 → Fine 200 1 d := fun h a b => ⟨h.1, h.2.mono a b⟩
  rcases sort_cases h with e | e | e | ⟨a, b, ha, hb, e⟩ <;> rw [e]
  · exact big fine_non (by decide) (by decide)
  · exact big (fine_tup (c := 64) (k := 0) (ds := [.str "free"]) fun d hd => by
      rw [List.mem_singleton.mp hd]
      exact fine_str (by decide +kernel)) (by decide) (by decide)
  · exact big (fine_tup (c := 64) (k := 0) (ds := [.str "tied"]) fun d hd => by
      rw [List.mem_singleton.mp hd]
      exact fine_str (by decide +kernel)) (by decide) (by decide)
  · obtain ⟨p, hp, rfl⟩ := (h.grid.mf a).mp ha
    obtain ⟨q, hq, rfl⟩ := (h.grid.mg b).mp hb
    have p1 := hv.pos p hp
    have p2 := hv.lt p hp
    have q1 := hv.pos q hq
    have q2 := hv.lt q hq
    exact big (fine_tup (c := 64) (k := 0) (ds := [.str "either", .int p.1, .int q.2]) fun d hd => by
      simp only [List.mem_cons, List.not_mem_nil, or_false] at hd
      rcases hd with rfl | rfl | rfl
      · exact fine_str (by decide +kernel)
      · exact fine_int (by omega)
      · exact fine_int (by omega)) (by simp) (by simp)
--@@split
/-! the law -/
theorem put_vals {acc : List (Key × D)} {k : Key} (h : ∀ kv ∈ acc, kv.2 = D.bl true) : ∀ kv ∈ putD acc k (.bl true), kv.2 = D.bl true := fun kv hkv => by
  unfold putD at hkv
  split at hkv
  · obtain ⟨kw, hm, rfl⟩ := List.mem_map.mp hkv
    split
    · rfl
    · exact h kw hm
  · rcases List.mem_append.mp hkv with hm | hm
    · exact h kv hm
    · rw [List.mem_singleton.mp hm]
theorem merge_vals : ∀ (ns : List Int) (acc : List (Key × D)), (∀ kv ∈ acc, kv.2 = D.bl true) → ∀ kv ∈ mergeD acc (ns.map fun v => ((Sum.inl v : Key), D.bl true)), kv.2 = D.bl true
  | [], acc, h => h
  | n :: ns, acc, h => merge_vals ns (putD acc (Sum.inl n) (.bl true)) (put_vals h)
/-- sorted(dict([(v, True) ..])), the dict's things hang on nothing -/
theorem go_sdict2 {ns F : List Int} {S : Store} {post : DK} (hl : ns.length < 64) (hF : SrtOf F ns) (h : ∀ kvs, belowE 0 (.dct kvs) = true → post (.lr (S.length + 2)) (S ++ [.lst (ns.map fun v => D.tup [.int v, .bl true]), .dct kvs, .lst (F.map .int)])) :
    cDictT [.lr S.length] (S ++ [.lst (ns.map fun v => D.tup [.int v, .bl true])]) fun d S1 => cSortedB [d] S1 post := by
  refine .inl ⟨.lr S.length, ns.map fun v => ((Sum.inl v : Key), D.bl true), rfl, seqOf_lr.mpr ?_, by rw [List.length_map]; omega, ?_⟩
  · rw [List.getElem?_append_right (Nat.le_refl _), Nat.sub_self, List.map_map]
    rfl
  · obtain ⟨ks, k1, k2, k3, k4⟩ := merge_keys ns [] [] rfl List.nodup_nil
    refine .inl (.inr ⟨_, mergeD [] (ns.map fun v => ((Sum.inl v : Key), D.bl true)), ks, rfl, ?_, k1, by simp at k4; omega, fun ms hp hs => ?_⟩)
    · rw [List.getElem?_append_right (Nat.le_refl _), Nat.sub_self]
      rfl
    · have hms : ms = F := by
        have hnd : ms.Nodup := hp.nodup_iff.mpr k2
        refine srt_uniq ?_ hF.1 fun v => by rw [hp.mem_iff, k3, hF.2]; simp
        have := List.Pairwise.and hs hnd
        exact this.imp fun {a b} hab => by omega
      subst hms
      have hb : belowE 0 (.dct (mergeD [] (ns.map fun v => ((Sum.inl v : Key), D.bl true)))) = true := by
        show belows 0 ((mergeD [] (ns.map fun v => ((Sum.inl v : Key), D.bl true))).map (·.2)) = true
        rw [belows_iff]
        intro d hd
        obtain ⟨kv, hkv, rfl⟩ := List.mem_map.mp hd
        rw [merge_vals ns [] (fun kv h => nomatch h) kv hkv]
        simp [below]
      have := h (mergeD [] (ns.map fun v => ((Sum.inl v : Key), D.bl true))) hb
      simpa [List.append_assoc] using this
theorem below_kvI (ns cs : List Int) : belowE 0 (.dct (kvI ns cs)) = true := by
  show belows 0 ((kvI ns cs).map (·.2)) = true
  unfold kvI
  rw [List.map_map]
  exact belows_map _ (fun p => by show below 0 (.int p.2) = true; rw [below] <;> simp) _
theorem oIsN_b {x : D} {b : Bool} {S : Store} {post : DK} (h1 : b = true → x ≠ .non) (h2 : b = false → x = .non) (h : post (.bl b) S) : oIsN true x .non S post := by
  unfold oIsN
  cases b with
  | false =>
    rw [h2 rfl]
    exact h
  | true =>
    have := h1 rfl
    cases x <;> first | exact absurd rfl this | exact h
section
variable {ps : List (Int × Int)} {F G : List Int} {ρ : DEnv} {S : Store} {post : DK}
theorem turn_go (hP : Pairs ps F G) (hx : ρ[4]? = some (some (sortC ps F G))) (h : post (turnD (sortC ps F G)) S) :
    dIf (dOr (dTest (dOp (oIsN false) (dVar 4) (dC .non))) (dTest (dOp (oEq true) (dOp oIx2 (dVar 4) (dC (.int 0))) (dC (.str "either"))))) (dVar 4) (dTup (dCons (dC (.str "either")) (dCons (dOp oIx2 (dVar 4) (dC (.int 2))) (dCons (dOp oIx2 (dVar 4) (dC (.int 1))) dNil)))) ρ S post := by
  have n1 : ¬ (Str.ofString "free" = Str.ofString "either") := by decide +kernel
  have n2 : ¬ (Str.ofString "tied" = Str.ofString "either") := by decide +kernel
  rcases sort_cases hP with e | e | e | ⟨a, b, ha, hb, e⟩ <;> rw [e] at hx h
  · exact ⟨_, hx, ⟨_, hx, h⟩⟩
  · refine ⟨_, hx, _, hx, .inl ?_⟩
    walk_at "dgo"
    rw [decide_eq_false n1, if_pos (by decide)]
    exact ⟨_, hx, h⟩
  · refine ⟨_, hx, _, hx, .inl ?_⟩
    walk_at "dgo"
    rw [decide_eq_false n2, if_pos (by decide)]
    exact ⟨_, hx, h⟩
  · refine ⟨_, hx, _, hx, .inl ?_⟩
    walk_at "dgo"
    rw [if_neg (by decide)]
    refine ⟨_, hx, .inl ?_⟩
    walk_at "dgo"
    refine ⟨_, hx, .inl ?_⟩
    walk_at "dgo"
    exact ⟨by decide, h⟩
theorem ren_go {j k : Nat} {cs ds : List Int} (hP : Pairs ps F G) (hx : ρ[4]? = some (some (sortC ps F G))) (h8 : ρ[8]? = some (some (.lr j))) (h10 : ρ[10]? = some (some (.lr k))) (hj : S[j]? = some (.dct (kvI F cs))) (hk : S[k]? = some (.dct (kvI G ds))) (l1 : cs.length = F.length) (l2 : ds.length = G.length) (h : post (renD (fI F cs) (fI G ds) (sortC ps F G)) S) :
    dIf (dOr (dTest (dOp (oIsN false) (dVar 4) (dC .non))) (dTest (dOp (oEq true) (dOp oIx2 (dVar 4) (dC (.int 0))) (dC (.str "either"))))) (dVar 4) (dTup (dCons (dC (.str "either")) (dCons (dOp oIx2 (dVar 8) (dOp oIx2 (dVar 4) (dC (.int 1)))) (dCons (dOp oIx2 (dVar 10) (dOp oIx2 (dVar 4) (dC (.int 2)))) dNil)))) ρ S post := by
  have n1 : ¬ (Str.ofString "free" = Str.ofString "either") := by decide +kernel
  have n2 : ¬ (Str.ofString "tied" = Str.ofString "either") := by decide +kernel
  rcases sort_cases hP with e | e | e | ⟨a, b, ha, hb, e⟩ <;> rw [e] at hx h
  · exact ⟨_, hx, ⟨_, hx, h⟩⟩
  · refine ⟨_, hx, _, hx, .inl ?_⟩
    walk_at "dgo"
    rw [decide_eq_false n1, if_pos (by decide)]
    exact ⟨_, hx, h⟩
  · refine ⟨_, hx, _, hx, .inl ?_⟩
    walk_at "dgo"
    rw [decide_eq_false n2, if_pos (by decide)]
    exact ⟨_, hx, h⟩
  · refine ⟨_, hx, _, hx, .inl ?_⟩
    walk_at "dgo"
    rw [if_neg (by decide)]
    refine ⟨_, h8, _, hx, .inl ?_⟩
    walk_at "dgo"
    refine .inr ⟨j, _, Sum.inl a, _, rfl, hj, rfl, valD_kvI l1 ha, ?_⟩
    refine ⟨_, h10, _, hx, .inl ?_⟩
    walk_at "dgo"
    refine .inr ⟨k, _, Sum.inl b, _, rfl, hk, rfl, valD_kvI l2 hb, ?_⟩
    walk_at "dgo"
    exact ⟨by decide, h⟩
theorem sorted_go {ms : List (Int × Int)} {P : DK} (h : ∀ qs : List (Int × Int), qs.Perm ms → qs.Pairwise lexLe → P (.lr (S.length + 1)) (S ++ [.lst (ms.map dE), .lst (qs.map dE)])) : cSortedB [.lr S.length] (S ++ [.lst (ms.map dE)]) P := by
  refine .inr ⟨_, ms, rfl, seqOf_lr.mpr ?_, (fun ys z => nomatch z), fun qs hq hs => ?_⟩
  · rw [List.getElem?_append_right (Nat.le_refl _), Nat.sub_self]
    rfl
  · have := h qs hq hs
    rw [List.append_assoc, List.length_append]
    exact this
end
theorem call_bent {S : Store} {j : Nat} {x y : Int} {ps : List (Int × Int)} {post : DK} (hj : S[j]? = some (jar x y)) (ok : JOk x y) (hv : Vp ps) (h : ∀ d x' y', JOk x' y' → Bent d → post d (S.set j (jar x' y'))) : callD sp_lbent_pairs [.lr j, tE ps] S post :=
  call_one hj (by simp [belows, below_tE]) (by simp [belowE, belows, below]) ⟨x, y, ps, rfl, rfl, ok, hv, fun d x' y' k hb => by
    have := h d x' y' k hb
    show post (ren (rn [j] S.length) d) _
    rw [ren_below _ _ (okT_below 0 d hb.1)]
    simpa [setAll, renE, rens, ren] using this⟩
theorem call_wr2 {S : Store} {ps : List (Int × Int)} {post : DK} [dec : Decidable (condT ps)] (hl : ps.length ≤ 60) (h : post (.bl (decide (condT ps))) S) : callD sp_lis_writable [tE ps] S post :=
  call_wr hl (fun c => by rwa [decide_eq_true c] at h) fun c => by rwa [decide_eq_false c] at h
def b_law (K : PySem.W.Frag) (cl : CL) : DS :=
  (dSeq (dPar2 1 2 (dCons (dCall sp_lpool (dCons (dVar 0) (dCons (dC (.int 0)) dNil))) (dCons (dCall sp_lpool (dCons (dVar 0) (dCons (dC (.int 1)) dNil))) dNil)))
    (dSeq (dAsg (dCall sp_ldrawn_pairs (dCons (dVar 1) dNil)) (gName 3))
    (dSeq (dAsg (dCall sp_lsort (dCons (dVar 3) dNil)) (gName 4))
    (dSeq (dIfS (dOr (dTest (dOp (oEq true) (dCB cRepr (dCons (dCall (noX (sp_sort_of cl)) (dCons (dVar 3) dNil)) dNil)) (dCB cRepr (dCons (dVar 4) dNil)))) (dTest (dOp (oEq true) (dOp (oIsN true) (dVar 4) (dC .non)) (dCall sp_lis_writable (dCons (dVar 3) dNil))))) (dRet (dC (.bl false))) dNext)
    (dSeq (dAsg (dIf (dOr (dTest (dOp (oIsN false) (dVar 4) (dC .non))) (dTest (dOp (oEq true) (dOp oIx2 (dVar 4) (dC (.int 0))) (dC (.str "either"))))) (dVar 4) (dTup (dCons (dC (.str "either")) (dCons (dOp oIx2 (dVar 4) (dC (.int 2))) (dCons (dOp oIx2 (dVar 4) (dC (.int 1))) dNil))))) (gName 5))
    (dSeq (dIfS (dTest (dOp (oEq true) (dGc0 (dCB cRepr (dCons (dGc0 (dCall (noX (sp_sort_of cl)) (dCons (dGc0 (dCB cTuple (dCons (dCB cSortedB (dCons (dLc (wSeq (dVar 3)) (gTup 2 (gCons (gName 6) (gCons (gName 7) gNil))) dYes (dTup (dCons (dVar 7) (dCons (dVar 6) dNil))) [6, 7]) dNil)) dNil))) dNil))) dNil))) (dCB cRepr (dCons (dVar 5) dNil)))) (dRet (dC (.bl false))) dNext)
    (dSeq (dAsg (dCall sp_lrenaming (dCons (dVar 2) (dCons (dCB cSortedB (dCons (dCB cDictT (dCons (dLc (wSeq (dVar 3)) (gName 9) dYes (dTup (dCons (dOp oIx2 (dVar 9) (dC (.int 0))) (dCons (dC (.bl true)) dNil))) [9]) dNil)) dNil)) dNil))) (gName 8))
    (dSeq (dAsg (dCall sp_lrenaming (dCons (dVar 2) (dCons (dCB cSortedB (dCons (dCB cDictT (dCons (dLc (wSeq (dVar 3)) (gName 9) dYes (dTup (dCons (dOp oIx2 (dVar 9) (dC (.int 1))) (dCons (dC (.bl true)) dNil))) [9]) dNil)) dNil)) dNil))) (gName 10))
    (dSeq (dAsg (dIf (dOr (dTest (dOp (oIsN false) (dVar 4) (dC .non))) (dTest (dOp (oEq true) (dOp oIx2 (dVar 4) (dC (.int 0))) (dC (.str "either"))))) (dVar 4) (dTup (dCons (dC (.str "either")) (dCons (dOp oIx2 (dVar 8) (dOp oIx2 (dVar 4) (dC (.int 1)))) (dCons (dOp oIx2 (dVar 10) (dOp oIx2 (dVar 4) (dC (.int 2)))) dNil))))) (gName 11))
    (dSeq (dIfS (dTest (dOp (oEq true) (dGc0 (dCB cRepr (dCons (dGc0 (dCall (noX (sp_sort_of cl)) (dCons (dGc0 (dCB cTuple (dCons (dCB cSortedB (dCons (dLc (wSeq (dVar 3)) (gTup 2 (gCons (gName 6) (gCons (gName 7) gNil))) dYes (dTup (dCons (dOp oIx2 (dVar 8) (dVar 6)) (dCons (dOp oIx2 (dVar 10) (dVar 7)) dNil))) [6, 7]) dNil)) dNil))) dNil))) dNil))) (dCB cRepr (dCons (dVar 11) dNil)))) (dRet (dC (.bl false))) dNext)
    (dRet (dAndV (dCall sp_lis_refused (dCons (dCall sp_lbent_pairs (dCons (dVar 2) (dCons (dVar 3) dNil))) dNil)) (dOp (oEq false) (dCB cRepr (dCons (dCall (noX (sp_sort_of cl)) (dCons (dVar 3) dNil)) dNil)) (dCB cRepr (dCons (dVar 4) dNil)))))))))))))))
def sp_law : DSp := fun ds S post => ∃ ns : List Int, ns.length ≤ 63 ∧ ds = [.rl (ns.map .int)] ∧ S = [] ∧ post (.bl true) []
theorem len_law : ∀ ds S post, sp_law ds S post → ds.length = 1 := by
  rintro _ _ _ ⟨_, _, rfl, _⟩
  rfl
theorem hd_law {K : PySem.W.Frag} {cl : CL} (hC : Clf K cl) : ∀ ds S post, sp_law ds S post → b_law K cl (endsD S post) (startD ["script", "first", "second", "pairs", "due", "turned_about", "x", "y", "ones", "pair", "twos", "renamed"] ds) S := by
  rintro ds S post ⟨ns, hn, rfl, rfl, h⟩
  unfold b_law
  rw [go_seqS]
  walk_at "dgo1"
  refine call_pool (by omega) (by decide) (by decide) fun x1 y1 ok1 => ?_
  walk_at "dgo1"
  refine call_pool (by omega) (by decide) (by decide) fun x2 y2 ok2 => ?_
  walk_at "dgo1"
  refine ⟨_, _, rfl, ?_⟩
  rw [go_seqS]
  walk_at "dgo1"
  refine call_drawn (j := 0) rfl ok1 fun ps x3 y3 ok3 hv => ?_
  obtain ⟨F, G, hP⟩ := ex_FG ps hv.nd
  rw [go_seqS]
  walk_at "dgo1"
  refine call_lsort hv.big hP ?_
  rw [go_seqS]
  walk_at "dgo1"
  refine call_sortV hv hP ?_
  refine go_repr (fine_sort hP hv) (by decide) (by decide) ?_
  refine go_repr (fine_sort hP hv) (by decide) (by decide) ?_
  refine go_eq_str.mpr ?_
  rw [decide_eq_true rfl]
  simp only [go_bl]
  rw [if_neg (by decide)]
  have dec : Decidable (condT ps) := Classical.propDecidable _
  refine oIsN_b (b := decide (condT ps)) (fun q => fun e => ((sortC_non hP hv.ne).mp e) (of_decide_eq_true q)) (fun q => (sortC_non hP hv.ne).mpr (of_decide_eq_false q)) ?_
  refine call_wr2 hv.big.1 ?_
  refine go_eq_bl.mpr ?_
  rw [decide_eq_true rfl]
  simp only [go_bl]
  rw [if_neg (by decide)]
  rw [go_seqS]
  refine turn_go hP rfl ?_
  walk_at "dgo1"
  rw [go_seqS]
  walk_at "dgo1"
  refine lc_fm (es := ps) (f := dE) (v := fun p => dE (swp p)) (fun _ => true) ?_ (by have := hv.len; omega) (fun p acc J hp hacc g1 _ => ?_) ?_
  · trivial
  · walk_at "dgo"
    exact ⟨by decide, hacc, g1 rfl⟩
  rw [filter_true]
  have e : (ps.map fun p => dE (swp p)) = (ps.map swp).map dE := by rw [List.map_map]; rfl
  rw [e]
  refine sorted_go (S := [Ent.lst [D.int x3, D.int y3], Ent.lst [D.int x2, D.int y2]]) fun qs hq hs => ?_
  obtain ⟨hP2, e2⟩ := sort_turn hP hq
  have hv2 : Vp qs := hv.of hq hs (fun p _ q _ e => Prod.ext (congrArg Prod.snd e) (congrArg Prod.fst e)) (fun p hp => ⟨(hv.pos p hp).2, (hv.pos p hp).1⟩) (fun p hp => ⟨(hv.lt p hp).2, (hv.lt p hp).1⟩)
  refine ⟨_, seqOf_lr.mpr rfl, belows_map _ (below_dE _) _, by simp [belowE, belows, below], ?_⟩
  refine call_sortV hv2 hP2 ?_
  refine ⟨below_mono (Nat.zero_le _) _ (below_sortC _ _ _), by simp [belowE, belows, below], go_repr (fine_sort hP2 hv2) (by decide) (by decide) ?_⟩
  refine ⟨by simp [below], by simp [belowE, belows, below], ?_⟩
  rw [← e2]
  refine go_repr (fine_sort hP2 hv2) (by decide) (by decide) ?_
  refine go_eq_str.mpr ?_
  rw [decide_eq_true rfl]
  simp only [go_bl]
  rw [if_neg (by decide)]
  have hFl : F.length ≤ 60 := by
    have := len_le hP.f.1 hP.f.2
    have := hv.len
    omega
  have hGl : G.length ≤ 60 := by
    have h1 := sub_len (srt_nd hP.g.1) (ys := snds ps) fun v hv => (hP.g.2 v).mp hv
    unfold snds at h1
    rw [List.length_map] at h1
    have := hv.len
    omega
  have hpl : ps.length < 64 := by have := hv.len; omega
  rw [go_seqS]
  walk_at "dgo1"
  refine lc_fm (es := ps) (f := dE) (v := fun p => D.tup [.int p.1, .bl true]) (fun _ => true) trivial (by omega) (fun p acc J hp hacc g1 _ => ?_) ?_
  · walk_at "dgo"
    refine .inl ?_
    walk_at "dgo"
    exact ⟨by decide, hacc, g1 rfl⟩
  rw [filter_true]
  have e3 : (ps.map fun p => D.tup [.int p.1, .bl true]) = (fsts ps).map fun v => D.tup [.int v, .bl true] := by unfold fsts; rw [List.map_map]; rfl
  rw [e3]
  refine go_sdict2 (S := [Ent.lst [D.int x3, D.int y3], Ent.lst [D.int x2, D.int y2]]) (by unfold fsts; rw [List.length_map]; exact hpl) hP.f fun kv1 hk1 => ?_
  refine call_renaming (j := 1) (k := 4) (by decide) rfl rfl ok2 hFl (srt_nd hP.f.1) fun cs x4 y4 ok4 lc nc bc => ?_
  walk_at "dgo1"
  rw [go_seqS]
  walk_at "dgo1"
  refine lc_fm (es := ps) (f := dE) (v := fun p => D.tup [.int p.2, .bl true]) (fun _ => true) trivial (by omega) (fun p acc J hp hacc g1 _ => ?_) ?_
  · walk_at "dgo"
    refine .inl ?_
    walk_at "dgo"
    exact ⟨by decide, hacc, g1 rfl⟩
  rw [filter_true]
  have e4 : (ps.map fun p => D.tup [.int p.2, .bl true]) = (snds ps).map fun v => D.tup [.int v, .bl true] := by unfold snds; rw [List.map_map]; rfl
  rw [e4]
  refine go_sdict2 (S := [Ent.lst [D.int x3, D.int y3], Ent.lst [D.int x4, D.int y4], Ent.lst (List.map (fun v => D.tup [D.int v, D.bl true]) (fsts ps)), Ent.dct kv1, Ent.lst (List.map D.int F), Ent.dct (kvI F cs)]) (by unfold snds; rw [List.length_map]; exact hpl) hP.g fun kv2 hk2 => ?_
  refine call_renaming (j := 1) (k := 8) (by decide) rfl rfl ok4 hGl (srt_nd hP.g.1) fun ds x5 y5 ok5 ld nd bd => ?_
  walk_at "dgo1"
  rw [go_seqS]
  refine ren_go (j := 5) (k := 9) (cs := cs) (ds := ds) hP rfl rfl rfl rfl rfl lc ld ?_
  walk_at "dgo1"
  rw [go_seqS]
  walk_at "dgo1"
  have mF : ∀ p ∈ ps, p.1 ∈ F := fun p hp => (hP.grid.mf _).mpr ⟨p, hp, rfl⟩
  have mG : ∀ p ∈ ps, p.2 ∈ G := fun p hp => (hP.grid.mg _).mpr ⟨p, hp, rfl⟩
  refine lc_fm (es := ps) (f := dE) (v := fun p => dE (fI F cs p.1, fI G ds p.2)) (fun _ => true) trivial (by omega) (fun p acc J hp hacc g1 _ => ?_) ?_
  · walk_at "dgo"
    refine .inr ⟨5, _, Sum.inl p.1, _, rfl, rfl, rfl, valD_kvI lc (mF p hp), ?_⟩
    refine .inr ⟨9, _, Sum.inl p.2, _, rfl, rfl, rfl, valD_kvI ld (mG p hp), ?_⟩
    exact ⟨by decide, hacc, g1 rfl⟩
  rw [filter_true]
  have e5 : (ps.map fun p => dE (fI F cs p.1, fI G ds p.2)) = (ps.map fun p => (fI F cs p.1, fI G ds p.2)).map dE := by rw [List.map_map]; rfl
  rw [e5]
  have hSb : List.all [Ent.lst [D.int x3, D.int y3], Ent.lst [D.int x5, D.int y5], Ent.lst (List.map (fun v => D.tup [D.int v, D.bl true]) (fsts ps)), Ent.dct kv1, Ent.lst (List.map D.int F), Ent.dct (kvI F cs), Ent.lst (List.map (fun v => D.tup [D.int v, D.bl true]) (snds ps)), Ent.dct kv2, Ent.lst (List.map D.int G), Ent.dct (kvI G ds)] (belowE 10) = true := by
    have b1 : ∀ ns : List Int, belowE 10 (.lst (ns.map fun v => D.tup [D.int v, D.bl true])) = true := fun ns => belows_map _ (fun v => by simp [below, belows]) _
    have b2 : ∀ ns : List Int, belowE 10 (.lst (ns.map D.int)) = true := fun ns => belows_ints _ _
    have b0 : ∀ a b : Int, belowE 10 (.lst [.int a, .int b]) = true := fun a b => by simp [belowE, belows, below]
    simp only [List.all_cons, List.all_nil, b0, b1, b2, belowE_mono (Nat.zero_le 10) _ hk1, belowE_mono (Nat.zero_le 10) _ hk2, belowE_mono (Nat.zero_le 10) _ (below_kvI F cs), belowE_mono (Nat.zero_le 10) _ (below_kvI G ds), Bool.and_self]
  refine sorted_go (S := [Ent.lst [D.int x3, D.int y3], Ent.lst [D.int x5, D.int y5], Ent.lst (List.map (fun v => D.tup [D.int v, D.bl true]) (fsts ps)), Ent.dct kv1, Ent.lst (List.map D.int F), Ent.dct (kvI F cs), Ent.lst (List.map (fun v => D.tup [D.int v, D.bl true]) (snds ps)), Ent.dct kv2, Ent.lst (List.map D.int G), Ent.dct (kvI G ds)]) fun rs hr hrs => ?_
  have fi : ∀ a ∈ F, ∀ b ∈ F, fI F cs a = fI F cs b → a = b := fun a ha b hb => fI_inj lc nc ha hb
  have gi : ∀ a ∈ G, ∀ b ∈ G, fI G ds a = fI G ds b → a = b := fun a ha b hb => fI_inj ld nd ha hb
  have bF : ∀ a ∈ F, 0 ≤ fI F cs a ∧ fI F cs a < 1000 := fun a ha => bc _ (List.of_mem_zip (fI_mem lc ha)).2
  have bG : ∀ a ∈ G, 0 ≤ fI G ds a ∧ fI G ds a < 1000 := fun a ha => bd _ (List.of_mem_zip (fI_mem ld ha)).2
  have hv3 : Vp rs := hv.of hr hrs (fun p hp q hq e => Prod.ext (fi _ (mF p hp) _ (mF q hq) (congrArg Prod.fst e)) (gi _ (mG p hp) _ (mG q hq) (congrArg Prod.snd e))) (fun p hp => ⟨(bF _ (mF p hp)).1, (bG _ (mG p hp)).1⟩) (fun p hp => ⟨by have := (bF _ (mF p hp)).2; show fI F cs p.1 < _; omega, by have := (bG _ (mG p hp)).2; show fI G ds p.2 < _; omega⟩)
  obtain ⟨F', G', hP3⟩ := ex_FG rs hv3.nd
  have e6 := sort_ren hP hP3 hr fi gi
  refine ⟨_, seqOf_lr.mpr rfl, belows_map _ (below_dE _) _, hSb, ?_⟩
  refine call_sortV hv3 hP3 ?_
  refine ⟨below_mono (Nat.zero_le _) _ (below_sortC _ _ _), hSb, go_repr (fine_sort hP3 hv3) (by decide) (by decide) ?_⟩
  refine ⟨by simp [below], hSb, ?_⟩
  rw [← e6]
  refine go_repr (fine_sort hP3 hv3) (by decide) (by decide) ?_
  refine go_eq_str.mpr ?_
  rw [decide_eq_true rfl]
  simp only [go_bl]
  rw [if_neg (by decide)]
  refine call_bent (j := 1) rfl ok5 hv fun d x6 y6 ok6 hbd => ?_
  refine call_refused hbd ?_
  simp only [go_bl]
  rw [if_pos trivial]
  refine call_sortV hv hP ?_
  refine go_repr (fine_sort hP hv) (by decide) (by decide) ?_
  refine go_repr (fine_sort hP hv) (by decide) (by decide) ?_
  refine go_eq_str.mpr ?_
  rw [decide_eq_true rfl]
  exact end_none (by simp [below]) h
theorem ok_law {P : Program} {w : World} {K : PySem.W.Frag} {mg : Str → Option Value} {base : Heap} {f : Addr} {fd : FuncData} (F : Fun K "law" "law" s_law f fd) (W : Bl mg) (cl : CL) (M : Clm mg cl) (hC : Clf K cl) (C_lbent_pairs : CalG P w K mg base 3 "_law_bent_pairs" sp_lbent_pairs) (C_lis_refused : CalG P w K mg base 5 "_law_is_refused" sp_lis_refused) (C_sort_of : CalX P w K mg base 4 "sort_of" (sp_sort_of cl)) (C_lrenaming : CalG P w K mg base 3 "_law_renaming" sp_lrenaming) (C_lis_writable : CalG P w K mg base 3 "_law_is_writable" sp_lis_writable) (C_lsort : CalG P w K mg base 2 "_law_sort" sp_lsort) (C_ldrawn_pairs : CalG P w K mg base 4 "_law_drawn_pairs" sp_ldrawn_pairs) (C_lpool : CalG P w K mg base 1 "_law_pool" sp_lpool) :
    FnG P w K mg base CX0 6 f fd ["script"] (spL K sp_law) := by
  refine fn_okG (tb := b_law K cl) F sc_law len_law (fun cdv A outer s H E hgd hr => ?_) (hd_law hC)
  have sc := sc_law
  have hu := hr.units
  have hu1 := Nat.lt_of_le_of_lt (Nat.add_le_add_left (show 1 ≤ 64 by decide) _) hu
  have hu65 := units65 hr
  exact (dss_cons (ds_par2 (i := 1) (j := 2) rfl sc.nd (da_cons (de_cal C_lpool hgd hr (by decide) (by rfl) (da_cons (de_var 0) (da_cons de_int da_nil))) (da_cons (de_cal C_lpool hgd hr (by decide) (by rfl) (da_cons (de_var 0) (da_cons de_int da_nil))) da_nil)))
      (dss_cons (ds_set 3 sc.nd (de_cal C_ldrawn_pairs hgd hr (by decide) (by rfl) (da_cons (de_var 1) da_nil)))
      (dss_cons (ds_set 4 sc.nd (de_cal C_lsort hgd hr (by decide) (by rfl) (da_cons (de_var 3) da_nil)))
      (dss_cons (ds_if (PW.pt (dw_or (dt_cmp (op_ne2 hu) rul_ne (de_callB (call_repr_dp hgd hu) rul_repr (by rfl) W.repr_ PyProof.Rows.boot_repr (da_cons (de_cal0 C_sort_of hgd hr (by decide) (by rfl) (da_cons (de_var 3) da_nil)) da_nil)) (de_callB (call_repr_dp hgd hu) rul_repr (by rfl) W.repr_ PyProof.Rows.boot_repr (da_cons (de_var 4) da_nil)) (nomark _)) (dw_or1 (dt_cmp (op_ne2 hu) rul_ne (de_cmp op_notN rul_notN (de_var 4) de_non (nomark _)) (de_cal C_lis_writable hgd hr (by decide) (by rfl) (da_cons (de_var 3) da_nil)) (nomark _))))) (dss_one (ds_ret de_bl)) dss_nil)
      (dss_cons (ds_set 5 sc.nd (de_ifExp (PW.pt (dw_or (dt_cmp op_isN rul_isN (de_var 4) de_non (nomark _)) (dw_or1 (dt_cmp (op_ne2 hu) rul_ne (de_ix (ix_any hu1) rul_ix2 (de_var 4) de_int) de_str (nomark _))))) (de_var 4) (de_tup (da_cons de_str (da_cons (de_ix (ix_any hu1) rul_ix2 (de_var 4) de_int) (da_cons (de_ix (ix_any hu1) rul_ix2 (de_var 4) de_int) da_nil))))))
      (dss_cons (ds_if (dt_cmp (op_ne2 hu) rul_ne (de_gc0 (de_callB (call_repr_dp hgd hu) rul_repr (by rfl) W.repr_ PyProof.Rows.boot_repr (da_cons (de_gc0 (de_cal0 C_sort_of hgd hr (by decide) (by rfl) (da_cons (de_gc0 (de_callTy call_tupleP rul_tuple (by rfl) W.tuple_ PyProof.Rows.boot_tuple (da_cons (de_callB (call_sortedB rfl) rul_sortedB (by rfl) W.sorted_ PyProof.Rows.boot_sorted (da_cons (de_lc (own := [("x", 6), ("y", 7)]) (ws := ([6] ++ ([7] ++ []))) (by decide) rfl sc.nd (di_seq (de_var 3)) (blkOk_by (by rfl)) (fun _ _ _ _ _ => (dg_tup rfl (dgs_cons (dg_name 6 sc.nd) (dgs_cons (dg_name 7 sc.nd) dgs_nil)))) (fun _ _ _ _ _ => dts_nil) (fun _ _ _ _ _ => (de_tup (da_cons (de_var 7) (da_cons (de_var 6) da_nil))))) da_nil)) da_nil))) da_nil))) da_nil))) (de_callB (call_repr_dp hgd hu) rul_repr (by rfl) W.repr_ PyProof.Rows.boot_repr (da_cons (de_var 5) da_nil)) (nomark _)) (dss_one (ds_ret de_bl)) dss_nil)
      (dss_cons (ds_set 8 sc.nd (de_cal C_lrenaming hgd hr (by decide) (by rfl) (da_cons (de_var 2) (da_cons (de_callB (call_sortedB rfl) rul_sortedB (by rfl) W.sorted_ PyProof.Rows.boot_sorted (da_cons (de_callTy (call_dictB rfl hu65) rul_dictT (by rfl) W.dict_ PyProof.Rows.boot_dict (da_cons (de_lc (own := [("pair", 9)]) (ws := [9]) (by decide) rfl sc.nd (di_seq (de_var 3)) (blkOk_by (by rfl)) (fun _ _ _ _ _ => (dg_name 9 sc.nd)) (fun _ _ _ _ _ => dts_nil) (fun _ _ _ _ _ => (de_tup (da_cons (de_ix (ix_any hu1) rul_ix2 (de_var 9) de_int) (da_cons de_bl da_nil))))) da_nil)) da_nil)) da_nil))))
      (dss_cons (ds_set 10 sc.nd (de_cal C_lrenaming hgd hr (by decide) (by rfl) (da_cons (de_var 2) (da_cons (de_callB (call_sortedB rfl) rul_sortedB (by rfl) W.sorted_ PyProof.Rows.boot_sorted (da_cons (de_callTy (call_dictB rfl hu65) rul_dictT (by rfl) W.dict_ PyProof.Rows.boot_dict (da_cons (de_lc (own := [("pair", 9)]) (ws := [9]) (by decide) rfl sc.nd (di_seq (de_var 3)) (blkOk_by (by rfl)) (fun _ _ _ _ _ => (dg_name 9 sc.nd)) (fun _ _ _ _ _ => dts_nil) (fun _ _ _ _ _ => (de_tup (da_cons (de_ix (ix_any hu1) rul_ix2 (de_var 9) de_int) (da_cons de_bl da_nil))))) da_nil)) da_nil)) da_nil))))
      (dss_cons (ds_set 11 sc.nd (de_ifExp (PW.pt (dw_or (dt_cmp op_isN rul_isN (de_var 4) de_non (nomark _)) (dw_or1 (dt_cmp (op_ne2 hu) rul_ne (de_ix (ix_any hu1) rul_ix2 (de_var 4) de_int) de_str (nomark _))))) (de_var 4) (de_tup (da_cons de_str (da_cons (de_ix (ix_any hu1) rul_ix2 (de_var 8) (de_ix (ix_any hu1) rul_ix2 (de_var 4) de_int)) (da_cons (de_ix (ix_any hu1) rul_ix2 (de_var 10) (de_ix (ix_any hu1) rul_ix2 (de_var 4) de_int)) da_nil))))))
      (dss_cons (ds_if (dt_cmp (op_ne2 hu) rul_ne (de_gc0 (de_callB (call_repr_dp hgd hu) rul_repr (by rfl) W.repr_ PyProof.Rows.boot_repr (da_cons (de_gc0 (de_cal0 C_sort_of hgd hr (by decide) (by rfl) (da_cons (de_gc0 (de_callTy call_tupleP rul_tuple (by rfl) W.tuple_ PyProof.Rows.boot_tuple (da_cons (de_callB (call_sortedB rfl) rul_sortedB (by rfl) W.sorted_ PyProof.Rows.boot_sorted (da_cons (de_lc (own := [("x", 6), ("y", 7)]) (ws := ([6] ++ ([7] ++ []))) (by decide) rfl sc.nd (di_seq (de_var 3)) (blkOk_by (by rfl)) (fun _ _ _ _ _ => (dg_tup rfl (dgs_cons (dg_name 6 sc.nd) (dgs_cons (dg_name 7 sc.nd) dgs_nil)))) (fun _ _ _ _ _ => dts_nil) (fun _ _ _ _ _ => (de_tup (da_cons (de_ix (ix_any hu1) rul_ix2 (de_var 8) (de_var 6)) (da_cons (de_ix (ix_any hu1) rul_ix2 (de_var 10) (de_var 7)) da_nil))))) da_nil)) da_nil))) da_nil))) da_nil))) (de_callB (call_repr_dp hgd hu) rul_repr (by rfl) W.repr_ PyProof.Rows.boot_repr (da_cons (de_var 11) da_nil)) (nomark _)) (dss_one (ds_ret de_bl)) dss_nil)
      (dss_one (ds_ret (de_and (de_cal C_lis_refused hgd hr (by decide) (by rfl) (da_cons (de_cal C_lbent_pairs hgd hr (by decide) (by rfl) (da_cons (de_var 2) (da_cons (de_var 3) da_nil))) da_nil)) (de_one (de_cmp (op_eq2 hu) rul_eq (de_callB (call_repr_dp hgd hu) rul_repr (by rfl) W.repr_ PyProof.Rows.boot_repr (da_cons (de_cal0 C_sort_of hgd hr (by decide) (by rfl) (da_cons (de_var 3) da_nil)) da_nil)) (de_callB (call_repr_dp hgd hu) rul_repr (by rfl) W.repr_ PyProof.Rows.boot_repr (da_cons (de_var 4) da_nil)) (nomark _))))))))))))))))
--@@split
theorem all_mk {l : PySem.W.OpenLaw} {w : World} {K : PySem.W.Frag} {h : Heap} {mg : Str → Option Value} {fa f0 f1 f2 f3 f4 f5 f6 f7 f8 f9 f10 f11 f12 f13 f14 f15 f16 f17 f18 f19 f20 f21 f22 f23 f24 f25 f26 : Addr} (X : K.In h) (G : h.Ns mainGlobals mg) (hfa : mg "law" = some (.ref fa))
    {od0 an0 od1 an1 od2 an2 od3 an3 od4 an4 od5 an5 od6 an6 od7 an7 od8 an8 od9 an9 od10 an10 od11 an11 od12 an12 od13 an13 od14 an14 od15 an15 od16 an16 od17 an17 od18 an18 od19 an19 od20 an20 od21 an21 od22 an22 od23 an23 od24 an24 od25 an25 od26 an26 : Option Addr} {sl0 sl1 sl2 sl3 sl4 sl5 sl6 sl7 sl8 sl9 sl10 sl11 sl12 sl13 sl14 sl15 sl16 sl17 sl18 sl19 sl20 sl21 sl22 sl23 sl24 sl25 sl26 : Array (Option Value)} {oc0 kV0 dc0 pm0 cd0 ct0 oc1 kV1 dc1 pm1 cd1 ct1 oc2 kV2 dc2 pm2 cd2 ct2 oc3 kV3 dc3 pm3 cd3 ct3 oc4 kV4 dc4 pm4 cd4 ct4 oc5 kV5 dc5 pm5 cd5 ct5 oc6 kV6 dc6 pm6 cd6 ct6 oc7 kV7 dc7 pm7 cd7 ct7 oc8 kV8 dc8 pm8 cd8 ct8 oc9 kV9 dc9 pm9 cd9 ct9 oc10 kV10 dc10 pm10 cd10 ct10 oc11 kV11 dc11 pm11 cd11 ct11 oc12 kV12 dc12 pm12 cd12 ct12 oc13 kV13 dc13 pm13 cd13 ct13 oc14 kV14 dc14 pm14 cd14 ct14 oc15 kV15 dc15 pm15 cd15 ct15 oc16 kV16 dc16 pm16 cd16 ct16 oc17 kV17 dc17 pm17 cd17 ct17 oc18 kV18 dc18 pm18 cd18 ct18 oc19 kV19 dc19 pm19 cd19 ct19 oc20 kV20 dc20 pm20 cd20 ct20 oc21 kV21 dc21 pm21 cd21 ct21 oc22 kV22 dc22 pm22 cd22 ct22 oc23 kV23 dc23 pm23 cd23 ct23 oc24 kV24 dc24 pm24 cd24 ct24 oc25 kV25 dc25 pm25 cd25 ct25 oc26 kV26 dc26 pm26 cd26 ct26 : Value}
    {k_BadPairs k_Refused : Addr}
    {nm_BadPairs qq_BadPairs : Str} {NN_BadPairs : Addr} {bs_BadPairs bm_BadPairs : List Value} {sn_BadPairs : List Str} {sub_BadPairs : List Value} {ab_BadPairs : Bool} {col_BadPairs : Option Bool} {dd_BadPairs : Option Addr} {m0_BadPairs m1_BadPairs m2_BadPairs m3_BadPairs m5_BadPairs : Option Value}
    {kI : Addr} {odI anI : Option Addr} {slI : Array (Option Value)} {ocI kVI dcI pmI cdI ctI : Value}
    (a0 : PySem.W.nsIn K mainGlobals "_law_take" = some (some (.ref f0))) (l0 : K.lookup f0 = some ⟨oc0, od0, .func (PySem.W.fnOf "_law_take" "_law_take" (defArgs s_ltake) (defBody s_ltake) (defScope s_ltake) .none kV0 dc0 pm0 an0 cd0 ct0), sl0⟩) (c0 : PySem.W.codeIn K cd0 "_law_take" = true) (k0 : PySem.W.keepIn K (.ref f0) = true)
    (a1 : PySem.W.nsIn K mainGlobals "_law_one" = some (some (.ref f1))) (l1 : K.lookup f1 = some ⟨oc1, od1, .func (PySem.W.fnOf "_law_one" "_law_one" (defArgs s_lone) (defBody s_lone) (defScope s_lone) .none kV1 dc1 pm1 an1 cd1 ct1), sl1⟩) (c1 : PySem.W.codeIn K cd1 "_law_one" = true) (k1 : PySem.W.keepIn K (.ref f1) = true)
    (a2 : PySem.W.nsIn K mainGlobals "_law_bent_pairs" = some (some (.ref f2))) (l2 : K.lookup f2 = some ⟨oc2, od2, .func (PySem.W.fnOf "_law_bent_pairs" "_law_bent_pairs" (defArgs s_lbent_pairs) (defBody s_lbent_pairs) (defScope s_lbent_pairs) .none kV2 dc2 pm2 an2 cd2 ct2), sl2⟩) (c2 : PySem.W.codeIn K cd2 "_law_bent_pairs" = true) (k2 : PySem.W.keepIn K (.ref f2) = true)
    (a3 : PySem.W.nsIn K mainGlobals "_counted" = some (some (.ref f3))) (l3 : K.lookup f3 = some ⟨oc3, od3, .func (PySem.W.fnOf "_counted" "_counted" (defArgs s_counted) (defBody s_counted) (defScope s_counted) .none kV3 dc3 pm3 an3 cd3 ct3), sl3⟩) (c3 : PySem.W.codeIn K cd3 "_counted" = true) (k3 : PySem.W.keepIn K (.ref f3) = true)
    (a4 : PySem.W.nsIn K mainGlobals "_either" = some (some (.ref f4))) (l4 : K.lookup f4 = some ⟨oc4, od4, .func (PySem.W.fnOf "_either" "_either" (defArgs s_either) (defBody s_either) (defScope s_either) .none kV4 dc4 pm4 an4 cd4 ct4), sl4⟩) (c4 : PySem.W.codeIn K cd4 "_either" = true) (k4 : PySem.W.keepIn K (.ref f4) = true)
    (a5 : PySem.W.nsIn K mainGlobals "_counts" = some (some (.ref f5))) (l5 : K.lookup f5 = some ⟨oc5, od5, .func (PySem.W.fnOf "_counts" "_counts" (defArgs s_counts) (defBody s_counts) (defScope s_counts) .none kV5 dc5 pm5 an5 cd5 ct5), sl5⟩) (c5 : PySem.W.codeIn K cd5 "_counts" = true) (k5 : PySem.W.keepIn K (.ref f5) = true)
    (a6 : PySem.W.nsIn K mainGlobals "plain_number" = some (some (.ref f6))) (l6 : K.lookup f6 = some ⟨oc6, od6, .func (PySem.W.fnOf "plain_number" "plain_number" (defArgs s_plain_number) (defBody s_plain_number) (defScope s_plain_number) .none kV6 dc6 pm6 an6 cd6 ct6), sl6⟩) (c6 : PySem.W.codeIn K cd6 "plain_number" = true) (k6 : PySem.W.keepIn K (.ref f6) = true)
    (a7 : PySem.W.nsIn K mainGlobals "plain_pair" = some (some (.ref f7))) (l7 : K.lookup f7 = some ⟨oc7, od7, .func (PySem.W.fnOf "plain_pair" "plain_pair" (defArgs s_plain_pair) (defBody s_plain_pair) (defScope s_plain_pair) .none kV7 dc7 pm7 an7 cd7 ct7), sl7⟩) (c7 : PySem.W.codeIn K cd7 "plain_pair" = true) (k7 : PySem.W.keepIn K (.ref f7) = true)
    (a8 : PySem.W.nsIn K mainGlobals "_number_pair" = some (some (.ref f8))) (l8 : K.lookup f8 = some ⟨oc8, od8, .func (PySem.W.fnOf "_number_pair" "_number_pair" (defArgs s_number_pair) (defBody s_number_pair) (defScope s_number_pair) .none kV8 dc8 pm8 an8 cd8 ct8), sl8⟩) (c8 : PySem.W.codeIn K cd8 "_number_pair" = true) (k8 : PySem.W.keepIn K (.ref f8) = true)
    (a9 : PySem.W.nsIn K mainGlobals "rises" = some (some (.ref f9))) (l9 : K.lookup f9 = some ⟨oc9, od9, .func (PySem.W.fnOf "rises" "rises" (defArgs s_rises) (defBody s_rises) (defScope s_rises) .none kV9 dc9 pm9 an9 cd9 ct9), sl9⟩) (c9 : PySem.W.codeIn K cd9 "rises" = true) (k9 : PySem.W.keepIn K (.ref f9) = true)
    (a10 : PySem.W.nsIn K mainGlobals "_are_pairs" = some (some (.ref f10))) (l10 : K.lookup f10 = some ⟨oc10, od10, .func (PySem.W.fnOf "_are_pairs" "_are_pairs" (defArgs s_are_pairs) (defBody s_are_pairs) (defScope s_are_pairs) .none kV10 dc10 pm10 an10 cd10 ct10), sl10⟩) (c10 : PySem.W.codeIn K cd10 "_are_pairs" = true) (k10 : PySem.W.keepIn K (.ref f10) = true)
    (a11 : PySem.W.nsIn K mainGlobals "sort_of" = some (some (.ref f11))) (l11 : K.lookup f11 = some ⟨oc11, od11, .func (PySem.W.fnOf "sort_of" "sort_of" (defArgs s_sort_of) (defBody s_sort_of) (defScope s_sort_of) .none kV11 dc11 pm11 an11 cd11 ct11), sl11⟩) (c11 : PySem.W.codeIn K cd11 "sort_of" = true) (k11 : PySem.W.keepIn K (.ref f11) = true)
    (a12 : PySem.W.nsIn K mainGlobals "_law_is_refused" = some (some (.ref f12))) (l12 : K.lookup f12 = some ⟨oc12, od12, .func (PySem.W.fnOf "_law_is_refused" "_law_is_refused" (defArgs s_lis_refused) (defBody s_lis_refused) (defScope s_lis_refused) .none kV12 dc12 pm12 an12 cd12 ct12), sl12⟩) (c12 : PySem.W.codeIn K cd12 "_law_is_refused" = true) (k12 : PySem.W.keepIn K (.ref f12) = true)
    (a13 : PySem.W.nsIn K mainGlobals "_law_mixed" = some (some (.ref f13))) (l13 : K.lookup f13 = some ⟨oc13, od13, .func (PySem.W.fnOf "_law_mixed" "_law_mixed" (defArgs s_lmixed) (defBody s_lmixed) (defScope s_lmixed) .none kV13 dc13 pm13 an13 cd13 ct13), sl13⟩) (c13 : PySem.W.codeIn K cd13 "_law_mixed" = true) (k13 : PySem.W.keepIn K (.ref f13) = true)
    (a14 : PySem.W.nsIn K mainGlobals "_law_renaming" = some (some (.ref f14))) (l14 : K.lookup f14 = some ⟨oc14, od14, .func (PySem.W.fnOf "_law_renaming" "_law_renaming" (defArgs s_lrenaming) (defBody s_lrenaming) (defScope s_lrenaming) .none kV14 dc14 pm14 an14 cd14 ct14), sl14⟩) (c14 : PySem.W.codeIn K cd14 "_law_renaming" = true) (k14 : PySem.W.keepIn K (.ref f14) = true)
    (a15 : PySem.W.nsIn K mainGlobals "_law_moved" = some (some (.ref f15))) (l15 : K.lookup f15 = some ⟨oc15, od15, .func (PySem.W.fnOf "_law_moved" "_law_moved" (defArgs s_lmoved) (defBody s_lmoved) (defScope s_lmoved) .none kV15 dc15 pm15 an15 cd15 ct15), sl15⟩) (c15 : PySem.W.codeIn K cd15 "_law_moved" = true) (k15 : PySem.W.keepIn K (.ref f15) = true)
    (a16 : PySem.W.nsIn K mainGlobals "_law_first_three" = some (some (.ref f16))) (l16 : K.lookup f16 = some ⟨oc16, od16, .func (PySem.W.fnOf "_law_first_three" "_law_first_three" (defArgs s_lfirst_three) (defBody s_lfirst_three) (defScope s_lfirst_three) .none kV16 dc16 pm16 an16 cd16 ct16), sl16⟩) (c16 : PySem.W.codeIn K cd16 "_law_first_three" = true) (k16 : PySem.W.keepIn K (.ref f16) = true)
    (a17 : PySem.W.nsIn K mainGlobals "_law_is_writable" = some (some (.ref f17))) (l17 : K.lookup f17 = some ⟨oc17, od17, .func (PySem.W.fnOf "_law_is_writable" "_law_is_writable" (defArgs s_lis_writable) (defBody s_lis_writable) (defScope s_lis_writable) .none kV17 dc17 pm17 an17 cd17 ct17), sl17⟩) (c17 : PySem.W.codeIn K cd17 "_law_is_writable" = true) (k17 : PySem.W.keepIn K (.ref f17) = true)
    (a18 : PySem.W.nsIn K mainGlobals "_law_has_either" = some (some (.ref f18))) (l18 : K.lookup f18 = some ⟨oc18, od18, .func (PySem.W.fnOf "_law_has_either" "_law_has_either" (defArgs s_lhas_either) (defBody s_lhas_either) (defScope s_lhas_either) .none kV18 dc18 pm18 an18 cd18 ct18), sl18⟩) (c18 : PySem.W.codeIn K cd18 "_law_has_either" = true) (k18 : PySem.W.keepIn K (.ref f18) = true)
    (a19 : PySem.W.nsIn K mainGlobals "_law_sort" = some (some (.ref f19))) (l19 : K.lookup f19 = some ⟨oc19, od19, .func (PySem.W.fnOf "_law_sort" "_law_sort" (defArgs s_lsort) (defBody s_lsort) (defScope s_lsort) .none kV19 dc19 pm19 an19 cd19 ct19), sl19⟩) (c19 : PySem.W.codeIn K cd19 "_law_sort" = true) (k19 : PySem.W.keepIn K (.ref f19) = true)
    (a20 : PySem.W.nsIn K mainGlobals "_law_product" = some (some (.ref f20))) (l20 : K.lookup f20 = some ⟨oc20, od20, .func (PySem.W.fnOf "_law_product" "_law_product" (defArgs s_lproduct) (defBody s_lproduct) (defScope s_lproduct) .none kV20 dc20 pm20 an20 cd20 ct20), sl20⟩) (c20 : PySem.W.codeIn K cd20 "_law_product" = true) (k20 : PySem.W.keepIn K (.ref f20) = true)
    (a21 : PySem.W.nsIn K mainGlobals "_law_some" = some (some (.ref f21))) (l21 : K.lookup f21 = some ⟨oc21, od21, .func (PySem.W.fnOf "_law_some" "_law_some" (defArgs s_lsome) (defBody s_lsome) (defScope s_lsome) .none kV21 dc21 pm21 an21 cd21 ct21), sl21⟩) (c21 : PySem.W.codeIn K cd21 "_law_some" = true) (k21 : PySem.W.keepIn K (.ref f21) = true)
    (a22 : PySem.W.nsIn K mainGlobals "_law_formed_pairs" = some (some (.ref f22))) (l22 : K.lookup f22 = some ⟨oc22, od22, .func (PySem.W.fnOf "_law_formed_pairs" "_law_formed_pairs" (defArgs s_lformed_pairs) (defBody s_lformed_pairs) (defScope s_lformed_pairs) .none kV22 dc22 pm22 an22 cd22 ct22), sl22⟩) (c22 : PySem.W.codeIn K cd22 "_law_formed_pairs" = true) (k22 : PySem.W.keepIn K (.ref f22) = true)
    (a23 : PySem.W.nsIn K mainGlobals "_law_drawn_numbers" = some (some (.ref f23))) (l23 : K.lookup f23 = some ⟨oc23, od23, .func (PySem.W.fnOf "_law_drawn_numbers" "_law_drawn_numbers" (defArgs s_ldrawn_numbers) (defBody s_ldrawn_numbers) (defScope s_ldrawn_numbers) .none kV23 dc23 pm23 an23 cd23 ct23), sl23⟩) (c23 : PySem.W.codeIn K cd23 "_law_drawn_numbers" = true) (k23 : PySem.W.keepIn K (.ref f23) = true)
    (a24 : PySem.W.nsIn K mainGlobals "_law_drawn_pairs" = some (some (.ref f24))) (l24 : K.lookup f24 = some ⟨oc24, od24, .func (PySem.W.fnOf "_law_drawn_pairs" "_law_drawn_pairs" (defArgs s_ldrawn_pairs) (defBody s_ldrawn_pairs) (defScope s_ldrawn_pairs) .none kV24 dc24 pm24 an24 cd24 ct24), sl24⟩) (c24 : PySem.W.codeIn K cd24 "_law_drawn_pairs" = true) (k24 : PySem.W.keepIn K (.ref f24) = true)
    (a25 : PySem.W.nsIn K mainGlobals "_law_pool" = some (some (.ref f25))) (l25 : K.lookup f25 = some ⟨oc25, od25, .func (PySem.W.fnOf "_law_pool" "_law_pool" (defArgs s_lpool) (defBody s_lpool) (defScope s_lpool) .none kV25 dc25 pm25 an25 cd25 ct25), sl25⟩) (c25 : PySem.W.codeIn K cd25 "_law_pool" = true) (k25 : PySem.W.keepIn K (.ref f25) = true)
    (a26 : PySem.W.nsIn K mainGlobals "law" = some (some (.ref f26))) (l26 : K.lookup f26 = some ⟨oc26, od26, .func (PySem.W.fnOf "law" "law" (defArgs s_law) (defBody s_law) (defScope s_law) .none kV26 dc26 pm26 an26 cd26 ct26), sl26⟩) (c26 : PySem.W.codeIn K cd26 "law" = true) (k26 : PySem.W.keepIn K (.ref f26) = true)
    (na_BadPairs : PySem.W.nsIn K mainGlobals "BadPairs" = some (some (.ref k_BadPairs)))
    (na_Refused : PySem.W.nsIn K mainGlobals "Refused" = some (some (.ref k_Refused)))
    (xl_BadPairs : K.lookup k_BadPairs = some (excClassObj nm_BadPairs qq_BadPairs k_BadPairs NN_BadPairs bs_BadPairs bm_BadPairs true sn_BadPairs sub_BadPairs ab_BadPairs col_BadPairs dd_BadPairs m0_BadPairs m1_BadPairs m2_BadPairs m3_BadPairs m5_BadPairs "ValueError.__new__"))
    (rf_BadPairs : PySem.HandSPX.refsVE bm_BadPairs = true)
    (sa_BadPairs : PySem.W.findIn K (.ref k_BadPairs) "__setattr__" = some (some (.builtin "object.__setattr__")))
    (eb_BadPairs : PySem.W.subIn K (.ref k_BadPairs) (.type "BaseException") = some true)
    (ty_BadPairs : PySem.W.typeIn K (.ref k_BadPairs) = some (.type "type"))
    (kp_BadPairs : PySem.W.keepIn K (.ref k_BadPairs) = true)
    (nw_BadPairs : PySem.W.findIn K (.ref k_BadPairs) "what" = some none)
    (in_BadPairs : PySem.W.findIn K (.ref k_BadPairs) "__init__" = some (some (.ref kI)))
    (ga_BadPairs : PySem.W.findIn K (.ref k_BadPairs) "__getattribute__" = some (some (.builtin "BaseException.__getattribute__")))
    (gg_BadPairs : PySem.W.findIn K (.ref k_BadPairs) "__getattr__" = some none)
    (hd_BadPairs : PySem.W.hasDictIn K k_BadPairs = true)
    (ca_BadPairs : PySem.W.findIn K (.ref k_BadPairs) "__class__" = some (some (.builtin "object.__class__")))
    (mr_BadPairs : PySem.W.mroIn K k_BadPairs (.type "object") = some true)
    (sv_BadPairs : PySem.W.subIn K (.ref k_BadPairs) (.type "ValueError") = some true)
    (sb_BadPairs_Refused : PySem.W.subIn K (.ref k_BadPairs) (.ref k_Refused) = some true)
    (sb_BadPairs_BadPairs : PySem.W.subIn K (.ref k_BadPairs) (.ref k_BadPairs) = some true)
    (hb_Refused : PySem.W.subIn K (.ref k_Refused) (.type "BaseException") = some true)
    (hc_Refused : PySem.W.isClsIn K k_Refused = true)
    (ht_Refused : PySem.W.typeIn K (.ref k_Refused) = some (.type "type"))
    (hs_Refused : PySem.W.subIn K (.ref k_Refused) (.ref k_Refused) = some true)
    (hb_BadPairs : PySem.W.subIn K (.ref k_BadPairs) (.type "BaseException") = some true)
    (hc_BadPairs : PySem.W.isClsIn K k_BadPairs = true)
    (ht_BadPairs : PySem.W.typeIn K (.ref k_BadPairs) = some (.type "type"))
    (hs_BadPairs : PySem.W.subIn K (.ref k_BadPairs) (.ref k_BadPairs) = some true)
    (spn : PySem.W.specialIn K (.builtin "object.__class__") "__get__" = some (some (.builtin "getset_descriptor.__get__")))
    (tkn : PySem.W.takesIn K (.builtin "object.__class__") = some true)
    (tI : PySem.W.typeIn K (.ref kI) = some (.type "function"))
    (lI : K.lookup kI = some ⟨ocI, odI, .func (PySem.W.fnOf "__init__" "Refused.__init__" (defArgs s_init) (defBody s_init) (defScope s_init) .none kVI dcI pmI anI cdI ctI), slI⟩)
    (cI : PySem.W.codeIn K cdI "Refused.__init__" = true)
    (kI2 : PySem.W.keepIn K (.ref kI) = true)
    (z_int : PySem.W.nsIn K mainGlobals "int" = some none)
    (z_len : PySem.W.nsIn K mainGlobals "len" = some none)
    (z_sorted : PySem.W.nsIn K mainGlobals "sorted" = some none)
    (z_type : PySem.W.nsIn K mainGlobals "type" = some none)
    (z_isinstance : PySem.W.nsIn K mainGlobals "isinstance" = some none)
    (z_tuple : PySem.W.nsIn K mainGlobals "tuple" = some none)
    (z_all : PySem.W.nsIn K mainGlobals "all" = some none)
    (z_zip : PySem.W.nsIn K mainGlobals "zip" = some none)
    (z_repr : PySem.W.nsIn K mainGlobals "repr" = some none)
    (z_range : PySem.W.nsIn K mainGlobals "range" = some none)
    (z_list : PySem.W.nsIn K mainGlobals "list" = some none)
    (z_dict : PySem.W.nsIn K mainGlobals "dict" = some none)
    (z_min : PySem.W.nsIn K mainGlobals "min" = some none)
    (z_max : PySem.W.nsIn K mainGlobals "max" = some none)
    : ∃ fd : FuncData, (∀ (s : Shared) (v : Value), BindsTo s fd ⟨[v], []⟩ [("script", v)]) ∧ ∀ base : Heap, K.In base → base.Ns mainGlobals mg → FnG l.prog w K mg base CX0 6 fa fd ["script"] (spL K sp_law) := by
  have e := hfa.symm.trans (PySem.W.mg_of X G a26)
  cases e
  have F0 := fun_mk (st := s_ltake) l0 c0 k0
  have B0 := F0.binds (ps := ["jar", "top"]) fun _ _ _ _ _ _ us hl => match us, hl with | [_, _], _ => rfl
  have F1 := fun_mk (st := s_lone) l1 c1 k1
  have B1 := F1.binds (ps := ["jar", "things"]) fun _ _ _ _ _ _ us hl => match us, hl with | [_, _], _ => rfl
  have F2 := fun_mk (st := s_lbent_pairs) l2 c2 k2
  have B2 := F2.binds (ps := ["jar", "pairs"]) fun _ _ _ _ _ _ us hl => match us, hl with | [_, _], _ => rfl
  have F3 := fun_mk (st := s_counted) l3 c3 k3
  have B3 := F3.binds (ps := ["counts", "many"]) fun _ _ _ _ _ _ us hl => match us, hl with | [_, _], _ => rfl
  have F4 := fun_mk (st := s_either) l4 c4 k4
  have B4 := F4.binds (ps := ["firsts", "seconds"]) fun _ _ _ _ _ _ us hl => match us, hl with | [_, _], _ => rfl
  have F5 := fun_mk (st := s_counts) l5 c5 k5
  have B5 := F5.binds (ps := ["numbers"]) fun _ _ _ _ _ _ us hl => match us, hl with | [_], _ => rfl
  have F6 := fun_mk (st := s_plain_number) l6 c6 k6
  have B6 := F6.binds (ps := ["thing"]) fun _ _ _ _ _ _ us hl => match us, hl with | [_], _ => rfl
  have F7 := fun_mk (st := s_plain_pair) l7 c7 k7
  have B7 := F7.binds (ps := ["thing"]) fun _ _ _ _ _ _ us hl => match us, hl with | [_], _ => rfl
  have F8 := fun_mk (st := s_number_pair) l8 c8 k8
  have B8 := F8.binds (ps := ["thing"]) fun _ _ _ _ _ _ us hl => match us, hl with | [_], _ => rfl
  have F9 := fun_mk (st := s_rises) l9 c9 k9
  have B9 := F9.binds (ps := ["parts"]) fun _ _ _ _ _ _ us hl => match us, hl with | [_], _ => rfl
  have F10 := fun_mk (st := s_are_pairs) l10 c10 k10
  have B10 := F10.binds (ps := ["thing"]) fun _ _ _ _ _ _ us hl => match us, hl with | [_], _ => rfl
  have F11 := fun_mk (st := s_sort_of) l11 c11 k11
  have B11 := F11.binds (ps := ["pairs"]) fun _ _ _ _ _ _ us hl => match us, hl with | [_], _ => rfl
  have F12 := fun_mk (st := s_lis_refused) l12 c12 k12
  have B12 := F12.binds (ps := ["thing"]) fun _ _ _ _ _ _ us hl => match us, hl with | [_], _ => rfl
  have F13 := fun_mk (st := s_lmixed) l13 c13 k13
  have B13 := F13.binds (ps := ["jar", "things"]) fun _ _ _ _ _ _ us hl => match us, hl with | [_, _], _ => rfl
  have F14 := fun_mk (st := s_lrenaming) l14 c14 k14
  have B14 := F14.binds (ps := ["jar", "numbers"]) fun _ _ _ _ _ _ us hl => match us, hl with | [_, _], _ => rfl
  have F15 := fun_mk (st := s_lmoved) l15 c15 k15
  have B15 := F15.binds (ps := ["x", "y", "z"]) fun _ _ _ _ _ _ us hl => match us, hl with | [_, _, _], _ => rfl
  have F16 := fun_mk (st := s_lfirst_three) l16 c16 k16
  have B16 := F16.binds (ps := ["kept"]) fun _ _ _ _ _ _ us hl => match us, hl with | [_], _ => rfl
  have F17 := fun_mk (st := s_lis_writable) l17 c17 k17
  have B17 := F17.binds (ps := ["kept"]) fun _ _ _ _ _ _ us hl => match us, hl with | [_], _ => rfl
  have F18 := fun_mk (st := s_lhas_either) l18 c18 k18
  have B18 := F18.binds (ps := ["pairs", "a", "b"]) fun _ _ _ _ _ _ us hl => match us, hl with | [_, _, _], _ => rfl
  have F19 := fun_mk (st := s_lsort) l19 c19 k19
  have B19 := F19.binds (ps := ["pairs"]) fun _ _ _ _ _ _ us hl => match us, hl with | [_], _ => rfl
  have F20 := fun_mk (st := s_lproduct) l20 c20 k20
  have B20 := F20.binds (ps := ["ones", "twos"]) fun _ _ _ _ _ _ us hl => match us, hl with | [_, _], _ => rfl
  have F21 := fun_mk (st := s_lsome) l21 c21 k21
  have B21 := F21.binds (ps := ["jar", "things"]) fun _ _ _ _ _ _ us hl => match us, hl with | [_, _], _ => rfl
  have F22 := fun_mk (st := s_lformed_pairs) l22 c22 k22
  have B22 := F22.binds (ps := ["jar", "ones", "twos"]) fun _ _ _ _ _ _ us hl => match us, hl with | [_, _, _], _ => rfl
  have F23 := fun_mk (st := s_ldrawn_numbers) l23 c23 k23
  have B23 := F23.binds (ps := ["jar", "most"]) fun _ _ _ _ _ _ us hl => match us, hl with | [_, _], _ => rfl
  have F24 := fun_mk (st := s_ldrawn_pairs) l24 c24 k24
  have B24 := F24.binds (ps := ["jar"]) fun _ _ _ _ _ _ us hl => match us, hl with | [_], _ => rfl
  have F25 := fun_mk (st := s_lpool) l25 c25 k25
  have B25 := F25.binds (ps := ["script", "k"]) fun _ _ _ _ _ _ us hl => match us, hl with | [_, _], _ => rfl
  have F26 := fun_mk (st := s_law) l26 c26 k26
  have W : Bl mg := ⟨PySem.W.mg_none_of X G z_int, PySem.W.mg_none_of X G z_len, PySem.W.mg_none_of X G z_sorted, PySem.W.mg_none_of X G z_type, PySem.W.mg_none_of X G z_isinstance, PySem.W.mg_none_of X G z_tuple, PySem.W.mg_none_of X G z_all, PySem.W.mg_none_of X G z_zip, PySem.W.mg_none_of X G z_repr, PySem.W.mg_none_of X G z_range, PySem.W.mg_none_of X G z_list, PySem.W.mg_none_of X G z_dict, PySem.W.mg_none_of X G z_min, PySem.W.mg_none_of X G z_max⟩
  let cl : CL := ⟨k_BadPairs, k_Refused⟩
  have M : Clm mg cl := ⟨PySem.W.mg_of X G na_BadPairs, PySem.W.mg_of X G na_Refused⟩
  have hC : Clf K cl := ⟨⟨⟨ga_BadPairs, gg_BadPairs, eb_BadPairs, hd_BadPairs⟩, ⟨ga_BadPairs, gg_BadPairs, eb_BadPairs, hd_BadPairs, ca_BadPairs, spn, tkn, mr_BadPairs⟩, nw_BadPairs⟩, ⟨hb_Refused, hc_Refused, ht_Refused, hs_Refused⟩, ⟨hb_BadPairs, hc_BadPairs, ht_BadPairs, hs_BadPairs⟩, sb_BadPairs_Refused, sb_BadPairs_BadPairs, sv_BadPairs⟩
  have FI := fun_mk (st := s_init) lI cI kI2
  have BI := FI.binds (ps := ["self", "what"]) fun _ _ _ _ _ _ us hl => match us, hl with | [_, _], _ => rfl
  have R_BadPairs : ∀ base : Heap, RaiC l.prog w K mg base "BadPairs" cl.c_BadPairs := fun base => ⟨⟨⟨_, _, _, _, _, _, _, _, _, _, _, _, _, _, _, xl_BadPairs, rf_BadPairs⟩, sa_BadPairs, eb_BadPairs, ty_BadPairs, kp_BadPairs⟩, nw_BadPairs, M.g_BadPairs, _, _, in_BadPairs, tI, ok_initC FI, BI⟩
  refine ⟨PySem.W.fnOf "law" "law" (defArgs s_law) (defBody s_law) (defScope s_law) .none kV26 dc26 pm26 an26 cd26 ct26, fun s v => .of_eq rfl, fun base _ _ => ?_⟩
  have G0 := ok_ltake (P := l.prog) (w := w) (base := base) F0 W 
  have C_ltake : CalG l.prog w K mg base 1 "_law_take" sp_ltake := ⟨f0, _, _, G0, PySem.W.mg_of X G a0, F0.kp, B0⟩
  have G1 := ok_lone (P := l.prog) (w := w) (base := base) F1 W C_ltake
  have C_lone : CalG l.prog w K mg base 2 "_law_one" sp_lone := ⟨f1, _, _, G1, PySem.W.mg_of X G a1, F1.kp, B1⟩
  have G2 := ok_lbent_pairs (P := l.prog) (w := w) (base := base) F2 W C_lone C_ltake
  have C_lbent_pairs : CalG l.prog w K mg base 3 "_law_bent_pairs" sp_lbent_pairs := ⟨f2, _, _, G2, PySem.W.mg_of X G a2, F2.kp, B2⟩
  have G3 := ok_counted (P := l.prog) (w := w) (base := base) F3 W 
  have C_counted : CalG l.prog w K mg base 1 "_counted" sp_counted := ⟨f3, _, _, G3, PySem.W.mg_of X G a3, F3.kp, B3⟩
  have G4 := ok_either (P := l.prog) (w := w) (base := base) F4 W C_counted
  have C_either : CalG l.prog w K mg base 2 "_either" sp_either := ⟨f4, _, _, G4, PySem.W.mg_of X G a4, F4.kp, B4⟩
  have G5 := ok_counts (P := l.prog) (w := w) (base := base) F5 W 
  have C_counts : CalG l.prog w K mg base 1 "_counts" sp_counts := ⟨f5, _, _, G5, PySem.W.mg_of X G a5, F5.kp, B5⟩
  have G6 := ok_plain_number (P := l.prog) (w := w) (base := base) F6 W 
  have C_plain_number : CalG l.prog w K mg base 1 "plain_number" sp_plain_number := ⟨f6, _, _, G6, PySem.W.mg_of X G a6, F6.kp, B6⟩
  have G7 := ok_plain_pair (P := l.prog) (w := w) (base := base) F7 W 
  have C_plain_pair : CalG l.prog w K mg base 1 "plain_pair" sp_plain_pair := ⟨f7, _, _, G7, PySem.W.mg_of X G a7, F7.kp, B7⟩
  have G8 := ok_number_pair (P := l.prog) (w := w) (base := base) F8 W C_plain_number C_plain_pair
  have C_number_pair : CalG l.prog w K mg base 2 "_number_pair" sp_number_pair := ⟨f8, _, _, G8, PySem.W.mg_of X G a8, F8.kp, B8⟩
  have G9 := ok_rises (P := l.prog) (w := w) (base := base) F9 W 
  have C_rises : CalG l.prog w K mg base 1 "rises" sp_rises := ⟨f9, _, _, G9, PySem.W.mg_of X G a9, F9.kp, B9⟩
  have G10 := ok_are_pairs (P := l.prog) (w := w) (base := base) F10 W C_number_pair C_rises
  have C_are_pairs : CalG l.prog w K mg base 3 "_are_pairs" sp_are_pairs := ⟨f10, _, _, G10, PySem.W.mg_of X G a10, F10.kp, B10⟩
  have G11 := ok_sort_of (P := l.prog) (w := w) (base := base) F11 W cl M hC C_either C_counts C_are_pairs (R_BadPairs _)
  have C_sort_of : CalX l.prog w K mg base 4 "sort_of" (sp_sort_of cl) := ⟨f11, _, _, G11, PySem.W.mg_of X G a11, F11.kp, B11⟩
  have G12 := ok_lis_refused (P := l.prog) (w := w) (base := base) F12 W cl M hC C_sort_of
  have C_lis_refused : CalG l.prog w K mg base 5 "_law_is_refused" sp_lis_refused := ⟨f12, _, _, G12, PySem.W.mg_of X G a12, F12.kp, B12⟩
  have G13 := ok_lmixed (P := l.prog) (w := w) (base := base) F13 W C_ltake
  have C_lmixed : CalG l.prog w K mg base 2 "_law_mixed" sp_lmixed := ⟨f13, _, _, G13, PySem.W.mg_of X G a13, F13.kp, B13⟩
  have G14 := ok_lrenaming (P := l.prog) (w := w) (base := base) F14 W C_ltake C_lmixed
  have C_lrenaming : CalG l.prog w K mg base 3 "_law_renaming" sp_lrenaming := ⟨f14, _, _, G14, PySem.W.mg_of X G a14, F14.kp, B14⟩
  have G15 := ok_lmoved (P := l.prog) (w := w) (base := base) F15 W 
  have C_lmoved : CalG l.prog w K mg base 1 "_law_moved" sp_lmoved := ⟨f15, _, _, G15, PySem.W.mg_of X G a15, F15.kp, B15⟩
  have G16 := ok_lfirst_three (P := l.prog) (w := w) (base := base) F16 W C_lmoved
  have C_lfirst_three : CalG l.prog w K mg base 2 "_law_first_three" sp_lfirst_three := ⟨f16, _, _, G16, PySem.W.mg_of X G a16, F16.kp, B16⟩
  have G17 := ok_lis_writable (P := l.prog) (w := w) (base := base) F17 W C_lfirst_three
  have C_lis_writable : CalG l.prog w K mg base 3 "_law_is_writable" sp_lis_writable := ⟨f17, _, _, G17, PySem.W.mg_of X G a17, F17.kp, B17⟩
  have G18 := ok_lhas_either (P := l.prog) (w := w) (base := base) F18 W 
  have C_lhas_either : CalG l.prog w K mg base 1 "_law_has_either" sp_lhas_either := ⟨f18, _, _, G18, PySem.W.mg_of X G a18, F18.kp, B18⟩
  have G19 := ok_lsort (P := l.prog) (w := w) (base := base) F19 W C_lhas_either
  have C_lsort : CalG l.prog w K mg base 2 "_law_sort" sp_lsort := ⟨f19, _, _, G19, PySem.W.mg_of X G a19, F19.kp, B19⟩
  have G20 := ok_lproduct (P := l.prog) (w := w) (base := base) F20 W 
  have C_lproduct : CalG l.prog w K mg base 1 "_law_product" sp_lproduct := ⟨f20, _, _, G20, PySem.W.mg_of X G a20, F20.kp, B20⟩
  have G21 := ok_lsome (P := l.prog) (w := w) (base := base) F21 W C_ltake
  have C_lsome : CalG l.prog w K mg base 2 "_law_some" sp_lsome := ⟨f21, _, _, G21, PySem.W.mg_of X G a21, F21.kp, B21⟩
  have G22 := ok_lformed_pairs (P := l.prog) (w := w) (base := base) F22 W C_lone C_lsome C_lmixed C_ltake C_lproduct
  have C_lformed_pairs : CalG l.prog w K mg base 3 "_law_formed_pairs" sp_lformed_pairs := ⟨f22, _, _, G22, PySem.W.mg_of X G a22, F22.kp, B22⟩
  have G23 := ok_ldrawn_numbers (P := l.prog) (w := w) (base := base) F23 W C_ltake C_lone
  have C_ldrawn_numbers : CalG l.prog w K mg base 3 "_law_drawn_numbers" sp_ldrawn_numbers := ⟨f23, _, _, G23, PySem.W.mg_of X G a23, F23.kp, B23⟩
  have G24 := ok_ldrawn_pairs (P := l.prog) (w := w) (base := base) F24 W C_lone C_lproduct C_lformed_pairs C_ltake C_ldrawn_numbers
  have C_ldrawn_pairs : CalG l.prog w K mg base 4 "_law_drawn_pairs" sp_ldrawn_pairs := ⟨f24, _, _, G24, PySem.W.mg_of X G a24, F24.kp, B24⟩
  have G25 := ok_lpool (P := l.prog) (w := w) (base := base) F25 W 
  have C_lpool : CalG l.prog w K mg base 1 "_law_pool" sp_lpool := ⟨f25, _, _, G25, PySem.W.mg_of X G a25, F25.kp, B25⟩
  exact ok_law F26 W cl M hC C_lbent_pairs C_lis_refused C_sort_of C_lrenaming C_lis_writable C_lsort C_ldrawn_pairs C_lpool
end KA
open PySem PySem.W PyProof.Rows
set_option maxHeartbeats 0 in
theorem PySem.Challenge.cw_onlyforced_k04_sorts_of_pairs_holds : PySem.Challenge.rw_onlyforced_k04_sorts_of_pairs.Holds := by
  w_on; o_law; k_head; (case hw => w_witness2)
  k_fill
  refine DL.walkG (l := PySem.Challenge.rw_onlyforced_k04_sorts_of_pairs) (n := 63) (k := 6) (x := "script") (sp := KA.sp_law) rfl (by decide) rfl ⟨rfl, by decide, by decide⟩ (fun w h Y => PySem.W.kIn_of Y) ?F (fun ns hl => ⟨ns, hl, rfl, rfl, rfl⟩)
  case F =>
    intro w mg fa h KX G hmg
    refine' KA.all_mk KX G hmg ?a0 ?l0 ?c0 ?k0 ?a1 ?l1 ?c1 ?k1 ?a2 ?l2 ?c2 ?k2 ?a3 ?l3 ?c3 ?k3 ?a4 ?l4 ?c4 ?k4 ?a5 ?l5 ?c5 ?k5 ?a6 ?l6 ?c6 ?k6 ?a7 ?l7 ?c7 ?k7 ?a8 ?l8 ?c8 ?k8 ?a9 ?l9 ?c9 ?k9 ?a10 ?l10 ?c10 ?k10 ?a11 ?l11 ?c11 ?k11 ?a12 ?l12 ?c12 ?k12 ?a13 ?l13 ?c13 ?k13 ?a14 ?l14 ?c14 ?k14 ?a15 ?l15 ?c15 ?k15 ?a16 ?l16 ?c16 ?k16 ?a17 ?l17 ?c17 ?k17 ?a18 ?l18 ?c18 ?k18 ?a19 ?l19 ?c19 ?k19 ?a20 ?l20 ?c20 ?k20 ?a21 ?l21 ?c21 ?k21 ?a22 ?l22 ?c22 ?k22 ?a23 ?l23 ?c23 ?k23 ?a24 ?l24 ?c24 ?k24 ?a25 ?l25 ?c25 ?k25 ?a26 ?l26 ?c26 ?k26 ?na_BadPairs ?na_Refused ?xl_BadPairs ?rf_BadPairs ?sa_BadPairs ?eb_BadPairs ?ty_BadPairs ?kp_BadPairs ?nw_BadPairs ?in_BadPairs ?ga_BadPairs ?gg_BadPairs ?hd_BadPairs ?ca_BadPairs ?mr_BadPairs ?sv_BadPairs ?sb_BadPairs_Refused ?sb_BadPairs_BadPairs ?hb_Refused ?hc_Refused ?ht_Refused ?hs_Refused ?hb_BadPairs ?hc_BadPairs ?ht_BadPairs ?hs_BadPairs ?spn ?tkn ?tI ?lI ?cI ?kI2 ?z_int ?z_len ?z_sorted ?z_type ?z_isinstance ?z_tuple ?z_all ?z_zip ?z_repr ?z_range ?z_list ?z_dict ?z_min ?z_max
    (case a0 => k_is); (case l0 => k_is); (case c0 => k_is); (case k0 => k_is); (case a1 => k_is); (case l1 => k_is); (case c1 => k_is); (case k1 => k_is); (case a2 => k_is); (case l2 => k_is); (case c2 => k_is); (case k2 => k_is); (case a3 => k_is); (case l3 => k_is); (case c3 => k_is); (case k3 => k_is); (case a4 => k_is); (case l4 => k_is); (case c4 => k_is); (case k4 => k_is); (case a5 => k_is); (case l5 => k_is); (case c5 => k_is); (case k5 => k_is); (case a6 => k_is); (case l6 => k_is); (case c6 => k_is); (case k6 => k_is); (case a7 => k_is); (case l7 => k_is); (case c7 => k_is); (case k7 => k_is); (case a8 => k_is); (case l8 => k_is); (case c8 => k_is); (case k8 => k_is); (case a9 => k_is); (case l9 => k_is); (case c9 => k_is); (case k9 => k_is); (case a10 => k_is); (case l10 => k_is); (case c10 => k_is); (case k10 => k_is); (case a11 => k_is); (case l11 => k_is); (case c11 => k_is); (case k11 => k_is); (case a12 => k_is); (case l12 => k_is); (case c12 => k_is); (case k12 => k_is); (case a13 => k_is); (case l13 => k_is); (case c13 => k_is); (case k13 => k_is); (case a14 => k_is); (case l14 => k_is); (case c14 => k_is); (case k14 => k_is); (case a15 => k_is); (case l15 => k_is); (case c15 => k_is); (case k15 => k_is); (case a16 => k_is); (case l16 => k_is); (case c16 => k_is); (case k16 => k_is); (case a17 => k_is); (case l17 => k_is); (case c17 => k_is); (case k17 => k_is); (case a18 => k_is); (case l18 => k_is); (case c18 => k_is); (case k18 => k_is); (case a19 => k_is); (case l19 => k_is); (case c19 => k_is); (case k19 => k_is); (case a20 => k_is); (case l20 => k_is); (case c20 => k_is); (case k20 => k_is); (case a21 => k_is); (case l21 => k_is); (case c21 => k_is); (case k21 => k_is); (case a22 => k_is); (case l22 => k_is); (case c22 => k_is); (case k22 => k_is); (case a23 => k_is); (case l23 => k_is); (case c23 => k_is); (case k23 => k_is); (case a24 => k_is); (case l24 => k_is); (case c24 => k_is); (case k24 => k_is); (case a25 => k_is); (case l25 => k_is); (case c25 => k_is); (case k25 => k_is); (case a26 => k_is); (case l26 => k_is); (case c26 => k_is); (case k26 => k_is); (case na_BadPairs => k_is); (case na_Refused => k_is); (case xl_BadPairs => k_is); (case rf_BadPairs => decide +kernel); (case sa_BadPairs => k_is); (case eb_BadPairs => k_is); (case ty_BadPairs => k_is); (case kp_BadPairs => k_is); (case nw_BadPairs => k_is); (case in_BadPairs => k_is); (case ga_BadPairs => k_is); (case gg_BadPairs => k_is); (case hd_BadPairs => k_is); (case ca_BadPairs => k_is); (case mr_BadPairs => k_is); (case sv_BadPairs => k_is); (case sb_BadPairs_Refused => k_is); (case sb_BadPairs_BadPairs => k_is); (case hb_Refused => k_is); (case hc_Refused => k_is); (case ht_Refused => k_is); (case hs_Refused => k_is); (case hb_BadPairs => k_is); (case hc_BadPairs => k_is); (case ht_BadPairs => k_is); (case hs_BadPairs => k_is); (case spn => k_is); (case tkn => k_is); (case tI => k_is); (case lI => k_is); (case cI => k_is); (case kI2 => k_is); (case z_int => k_is); (case z_len => k_is); (case z_sorted => k_is); (case z_type => k_is); (case z_isinstance => k_is); (case z_tuple => k_is); (case z_all => k_is); (case z_zip => k_is); (case z_repr => k_is); (case z_range => k_is); (case z_list => k_is); (case z_dict => k_is); (case z_min => k_is); (case z_max => k_is)
