import PyProof.Rows.All
import Wide.All
import OpenK.AllK
import Wide.FinOn
import HandS.ForMost
import HandS.Zip
import HandS.ForExc
import HandS.ExcField
import HandS.ExcInit
import HandS.Lambda
import PyProof.ReprLen
import PyProof.ReprRoads
import HandS.RaiseMore
import KE.GoesNew
import KE.GoesEnum
import KE.KDictZip
import HandS.Style
import HandS.Small
import HandS.TupAny
import HandS.ListItems
import HandS.SortRule
import HandS.SortInts
import HandS.DictComp
import KE.KDictPairs
import HandS.ExcValue
import HandS.RevTup
import HandS.MapObj
import HandS.TryMany
import KE.KExcPX
import KE.KExcIs
import HandS.ExcIs
import HandS.IsInst
import HandS.NoneIn
import HandS.Wide
import HandS.EndTab
import HandS.EndOwn
import KE.KRevSl
import HandS.TupMul
import HandS.SetKeys
import HandS.SetBool
import HandS.More
import HandS.TupLe
import PySem.Challenge.RW_onlyforced_k23_letters_and_rows_made
set_option Elab.async false
set_option linter.all false
set_option maxRecDepth 100000
set_option maxHeartbeats 4000000
/-! DL: programs read over plain data and a small store of lists and dicts, in place of the heap. -/
namespace DL
open PySem PySem.Spec PyProof.Rows L2

/-! ### data, the store -/
inductive D where
  | non | bl (b : Bool) | int (i : Int) | str (x : Str) | tup (ds : List D) | ztup (ds : List D) | rl (ds : List D) | lr (n : Nat) | exc (a d : Addr) (cls : Value) (w : D) | opq (φ : PySem.W.Frag → Hp → Addr → Prop)
inductive Ent where
  | lst (ds : List D)
  | dct (kvs : List (Key × D))
abbrev Store := List Ent
abbrev DEnv := List (Option D)

/-- a list that nobody writes -/
def FixL (K : PySem.W.Frag) (H : Hp) (a : Addr) (vs : List V) : Prop := (∃ o, H a = some (.frz o (.lst vs))) ∨ SqL K (fun _ => none) a vs
/-- a tuple that is known to have no dict -/
def PTup (K : PySem.W.Frag) (H : Hp) (a : Addr) (vs : List V) : Prop := (∃ o, H a = some (.frz o (.tup vs)) ∧ o.dict = none) ∨
  ∃ (o : Obj) (its : Array Value) (n : Nat), K.lookup a = some o ∧ o.cls = .type "tuple" ∧ o.dict = none ∧ o.data = .seq its n ∧ its.size ≤ sizeLine ∧ Vals vs its.toList
theorem PTup.sq {K : PySem.W.Frag} {H : Hp} {a : Addr} {vs : List V} (h : PTup K H a vs) : SqT K H a vs := by
  rcases h with ⟨o, h, _⟩ | ⟨o, its, n, h1, h2, _, h4, h5, h6⟩
  · exact .inl (.inr ⟨o, h⟩)
  · exact .inr ⟨o, its, n, h1, h2, h4, h5, h6⟩
/-- a table of code objects; it may grow, whoever reads it -/
def TblO (o : HO) : Prop := ∃ ps, o = .tbl ps
def LdO (o : HO) : Prop := (∃ xs, o = .lst xs) ∨ (∃ kvs, o = .dK kvs) ∨ ∃ S n, o = .set S n
def MutO (o : HO) : Prop := LdO o ∨ TblO o
/-- the tables of a law's code objects, each with the name that its code objects bear -/
class HasT where
  T : List (Addr × Str)
def TabsT [HasT] (H : Hp) : Prop := LamX.Tabs HasT.T H
theorem TabsT.step [HasT] {H H' : Hp} (t : TabsT H) (h : ∀ b o, H b = some o → ¬ LdO o → H' b = some o) : TabsT H' := fun p hp => by
  obtain ⟨ps, h1, h2, h3⟩ := t p hp
  refine ⟨ps, h _ _ h1 (by rintro (⟨_, z⟩ | ⟨_, z⟩ | ⟨_, _, z⟩) <;> cases z), h2, fun pos cv hc => ?_⟩
  obtain ⟨c, e1, e2⟩ := h3 pos cv hc
  refine ⟨c, e1, h _ _ e2 ?_⟩
  unfold LamX.CodeO
  rintro (⟨_, z⟩ | ⟨_, z⟩ | ⟨_, _, z⟩) <;> cases z
theorem TabsT.same [HasT] {H H' : Hp} (t : TabsT H) (h : ∀ b o, H b = some o → H' b = some o) : TabsT H' := t.step fun b o q _ => h b o q
/-- what leans on nothing that is written -/
def StabP (φ : Hp → Addr → Prop) : Prop := ∀ (H H' : Hp) (a : Addr), (∀ b o, H b = some o → ¬ MutO o → H' b = some o) → φ H a → φ H' a
mutual
def RelD (K : PySem.W.Frag) (H : Hp) (A : List Addr) : D → V → Prop
  | .non, v => v = .non
  | .bl b, v => v = .bl b
  | .int i, v => v = .int i
  | .str x, v => v = .str x
  | .tup ds, v => ∃ a vs, v = .ref a ∧ PTup K H a vs ∧ RelDs K H A ds vs
  | .ztup ds, v => ∃ a vs, v = .ref a ∧ SqT K H a vs ∧ RelDs K H A ds vs
  | .rl ds, v => ∃ a vs, v = .ref a ∧ FixL K H a vs ∧ RelDs K H A ds vs
  | .lr n, v => ∃ a, v = .ref a ∧ A[n]? = some a
  | .exc a d _ w, v => v = .ref a ∧ ∃ u, H d = some (.xd [(("what" : Str), u)]) ∧ RelD K H A w u
  | .opq φ, v => ∃ a, v = .ref a ∧ φ K H a ∧ StabP (φ K)
def RelDs (K : PySem.W.Frag) (H : Hp) (A : List Addr) : List D → List V → Prop
  | [], vs => vs = []
  | d :: ds, vs => ∃ v r, vs = v :: r ∧ RelD K H A d v ∧ RelDs K H A ds r
end
/-- nothing is tracked there, or a table -/
def FreeO (H : Hp) (a : Addr) : Prop := ∀ o, H a = some o → TblO o
theorem FreeO.of {H : Hp} {a : Addr} (h : H a = none) : FreeO H a := fun o q => by
  rw [h] at q
  cases q
theorem ld_tbl {o : HO} (h : LdO o) : ¬ TblO o := by
  rintro ⟨_, z⟩
  subst z
  rcases h with ⟨_, h⟩ | ⟨_, h⟩ | ⟨_, _, h⟩ <;> cases h
structure Ext (H : Hp) (A : List Addr) (H' : Hp) (A' : List Addr) : Prop where
  pre : ∃ B, A' = A ++ B ∧ ∀ b ∈ B, FreeO H b
  keep : ∀ a o, H a = some o → H' a = some o ∨ (a ∈ A ∧ LdO o ∧ ∃ o', H' a = some o' ∧ LdO o') ∨ TblO o
def RelE (K : PySem.W.Frag) (H : Hp) (A : List Addr) : Ent → Addr → Prop
  | .lst ds, a => ∃ vs, H a = some (.lst vs) ∧ RelDs K H A ds vs
  | .dct kvs, a => ∃ ws, H a = some (.dK ws) ∧ ws.map (·.1) = kvs.map (·.1) ∧ RelDs K H A (kvs.map (·.2)) (ws.map (·.2))
structure RelS [HasT] (K : PySem.W.Frag) (H : Hp) (A : List Addr) (S : Store) : Prop where
  len : S.length = A.length
  nd : A.Nodup
  ent : ∀ (n : Nat) (e : Ent), S[n]? = some e → ∃ a, A[n]? = some a ∧ RelE K H A e a
  tabs : TabsT H
structure RelN (K : PySem.W.Frag) (H : Hp) (A : List Addr) (ρ : DEnv) (σ : L2.St) : Prop where
  len : ρ.length = σ.length
  at_ : ∀ (i : Nat) (d : D), ρ[i]? = some (some d) → ∃ v, σ[i]? = some (some v) ∧ RelD K H A d v

section
variable [HasT]
variable {K : PySem.W.Frag} {H H' H1 H2 : Hp} {A A' A1 A2 : List Addr}
theorem Ext.refl : Ext H A H A := ⟨⟨[], by simp, by simp⟩, fun a o h => .inl h⟩
theorem Ext.free (e : Ext H A H' A') {a : Addr} (h : FreeO H' a) : FreeO H a := fun o q => by
  rcases e.keep a o q with h' | ⟨_, m, o', h', m'⟩ | h'
  · exact h o h'
  · exact absurd (h o' h') (ld_tbl m')
  · exact h'
theorem Ext.stay (e : Ext H A H' A') {a : Addr} {o : HO} (h : H a = some o) (hn : ¬ MutO o) : H' a = some o := by
  rcases e.keep a o h with h' | ⟨_, m, _⟩ | h'
  · exact h'
  · exact absurd (.inl m) hn
  · exact absurd (.inr h') hn
theorem Ext.trans (e1 : Ext H A H1 A1) (e2 : Ext H1 A1 H2 A2) : Ext H A H2 A2 := by
  obtain ⟨B1, rfl, f1⟩ := e1.pre
  obtain ⟨B2, rfl, f2⟩ := e2.pre
  refine ⟨⟨B1 ++ B2, by rw [List.append_assoc], fun b hb => ?_⟩, fun a o h => ?_⟩
  · rcases List.mem_append.mp hb with hb | hb
    · exact f1 b hb
    · exact e1.free (f2 b hb)
  · rcases e1.keep a o h with h1 | ⟨ha, m, o1, h1, m1⟩ | h1
    · rcases e2.keep a o h1 with h2 | ⟨ha, m, o2, h2, m2⟩ | h2
      · exact .inl h2
      · rcases List.mem_append.mp ha with ha | ha
        · exact .inr (.inl ⟨ha, m, o2, h2, m2⟩)
        · exact absurd (f1 a ha o h) (ld_tbl m)
      · exact .inr (.inr h2)
    · rcases e2.keep a o1 h1 with h2 | ⟨_, _, o2, h2, m2⟩ | h2
      · exact .inr (.inl ⟨ha, m, o1, h2, m1⟩)
      · exact .inr (.inl ⟨ha, m, o2, h2, m2⟩)
      · exact absurd h2 (ld_tbl m1)
    · exact .inr (.inr h1)
theorem Ext.same (h : ∀ a o, H a = some o → H' a = some o) : Ext H A H' A := ⟨⟨[], by simp, by simp⟩, fun a o q => .inl (h a o q)⟩
theorem Ext.at_ (e : Ext H A H' A') {n : Nat} {a : Addr} (h : A[n]? = some a) : A'[n]? = some a := by
  obtain ⟨B, rfl, _⟩ := e.pre
  rw [List.getElem?_append_left (List.getElem?_eq_some_iff.mp h).1]
  exact h
theorem nmut_xd {fs : List (Str × V)} : ¬ MutO (.xd fs) := by
  rintro ((⟨_, h⟩ | ⟨_, h⟩ | ⟨_, _, h⟩) | ⟨_, h⟩) <;> cases h
theorem nmut_tup {xs : List V} : ¬ MutO (.tup xs) := by
  rintro ((⟨_, h⟩ | ⟨_, h⟩ | ⟨_, _, h⟩) | ⟨_, h⟩) <;> cases h
theorem nmut_frz {o : Obj} {u : HO} : ¬ MutO (.frz o u) := by
  rintro ((⟨_, h⟩ | ⟨_, h⟩ | ⟨_, _, h⟩) | ⟨_, h⟩) <;> cases h
theorem ext_t (e : Ext H A H' A') {a : Addr} {xs : List V} (h : SqT K H a xs) : SqT K H' a xs := by
  rcases h with (h | ⟨o, h⟩) | h
  · exact .inl (.inl (e.stay h nmut_tup))
  · exact .inl (.inr ⟨o, e.stay h nmut_frz⟩)
  · exact .inr h
theorem ext_p (e : Ext H A H' A') {a : Addr} {xs : List V} (h : PTup K H a xs) : PTup K H' a xs := by
  rcases h with ⟨o, h, hd⟩ | h
  · exact .inl ⟨o, e.stay h nmut_frz, hd⟩
  · exact .inr h
theorem ext_f (e : Ext H A H' A') {a : Addr} {xs : List V} (h : FixL K H a xs) : FixL K H' a xs := by
  rcases h with ⟨o, h⟩ | h
  · exact .inl ⟨o, e.stay h nmut_frz⟩
  · exact .inr h
theorem FixL.sq {a : Addr} {xs : List V} (h : FixL K H a xs) : SqL K H a xs := by
  rcases h with ⟨o, h⟩ | (h | ⟨o, h⟩) | h
  · exact .inl (.inr ⟨o, h⟩)
  · cases h
  · cases h
  · exact .inr h
mutual
theorem RelD.ext (e : Ext H A H' A') : ∀ {d : D} {v : V}, RelD K H A d v → RelD K H' A' d v
  | .non, _, h => h
  | .bl _, _, h => h
  | .int _, _, h => h
  | .str _, _, h => h
  | .tup _, _, ⟨a, vs, h1, h2, h3⟩ => ⟨a, vs, h1, ext_p e h2, RelDs.ext e h3⟩
  | .ztup _, _, ⟨a, vs, h1, h2, h3⟩ => ⟨a, vs, h1, ext_t e h2, RelDs.ext e h3⟩
  | .rl _, _, ⟨a, vs, h1, h2, h3⟩ => ⟨a, vs, h1, ext_f e h2, RelDs.ext e h3⟩
  | .lr _, _, ⟨a, h1, h2⟩ => ⟨a, h1, e.at_ h2⟩
  | .exc _ _ _ _, _, ⟨h1, u, h2, h3⟩ => ⟨h1, u, e.stay h2 nmut_xd, RelD.ext e h3⟩
  | .opq _, _, ⟨a, h1, h2, h3⟩ => ⟨a, h1, h3 _ _ a (fun _ _ q n => e.stay q n) h2, h3⟩
theorem RelDs.ext (e : Ext H A H' A') : ∀ {ds : List D} {vs : List V}, RelDs K H A ds vs → RelDs K H' A' ds vs
  | [], _, h => h
  | _ :: _, _, ⟨v, r, h1, h2, h3⟩ => ⟨v, r, h1, RelD.ext e h2, RelDs.ext e h3⟩
end
theorem RelDs.len : ∀ {ds : List D} {vs : List V}, RelDs K H A ds vs → vs.length = ds.length
  | [], _, h => by
    rw [show _ = [] from h]
    rfl
  | _ :: _, _, ⟨v, r, h1, _, h3⟩ => by
    rw [h1, List.length_cons, List.length_cons, RelDs.len h3]
theorem RelDs.get : ∀ {ds : List D} {vs : List V} {i : Nat} {d : D}, RelDs K H A ds vs → ds[i]? = some d → ∃ v, vs[i]? = some v ∧ RelD K H A d v
  | [], _, _, _, _, e => by simp at e
  | _ :: _, _, 0, _, ⟨v, r, h1, h2, _⟩, e => by
    subst h1
    simp at e
    subst e
    exact ⟨v, rfl, h2⟩
  | _ :: _, _, i + 1, _, ⟨v, r, h1, _, h3⟩, e => by
    subst h1
    obtain ⟨u, g1, g2⟩ := RelDs.get (i := i) h3 (by simpa using e)
    exact ⟨u, by simpa using g1, g2⟩
theorem RelDs.getV {ds : List D} {vs : List V} {i : Nat} {v : V} (h : RelDs K H A ds vs) (e : vs[i]? = some v) : ∃ d, ds[i]? = some d ∧ RelD K H A d v := by
  have hl := h.len
  have hi := (List.getElem?_eq_some_iff.mp e).1
  have hi' : i < ds.length := by omega
  obtain ⟨u, g1, g2⟩ := h.get (List.getElem?_eq_getElem hi')
  rw [e] at g1
  cases g1
  exact ⟨_, List.getElem?_eq_getElem hi', g2⟩
theorem RelDs.append : ∀ {ds es : List D} {vs us : List V}, RelDs K H A ds vs → RelDs K H A es us → RelDs K H A (ds ++ es) (vs ++ us)
  | [], _, _, _, h, g => by
    rw [show _ = [] from h]
    exact g
  | _ :: _, _, _, _, ⟨v, r, h1, h2, h3⟩, g => ⟨v, r ++ _, by rw [h1]; rfl, h2, RelDs.append h3 g⟩
theorem RelDs.one {d : D} {v : V} (h : RelD K H A d v) : RelDs K H A [d] [v] := ⟨v, [], rfl, h, rfl⟩
theorem RelDs.set : ∀ {ds : List D} {vs : List V} {d : D} {v : V} (i : Nat), RelDs K H A ds vs → RelD K H A d v → RelDs K H A (ds.set i d) (vs.set i v)
  | [], _, _, _, _, h, _ => by
    rw [show _ = [] from h]
    exact rfl
  | _ :: _, _, _, _, 0, ⟨u, r, h1, _, h3⟩, g => ⟨_, r, by rw [h1]; rfl, g, h3⟩
  | _ :: _, _, _, _, i + 1, ⟨u, r, h1, h2, h3⟩, g => ⟨u, _, by rw [h1]; rfl, h2, RelDs.set i h3 g⟩
theorem RelDs.drop : ∀ {ds : List D} {vs : List V} (i : Nat), RelDs K H A ds vs → RelDs K H A (ds.drop i) (vs.drop i)
  | _, _, 0, h => by simpa using h
  | [], _, i + 1, h => by
    rw [show _ = [] from h]
    exact rfl
  | _ :: _, _, i + 1, ⟨u, r, h1, _, h3⟩ => by
    rw [h1]
    exact RelDs.drop i h3
theorem RelDs.take : ∀ {ds : List D} {vs : List V} (i : Nat), RelDs K H A ds vs → RelDs K H A (ds.take i) (vs.take i)
  | _, _, 0, h => by
    simp only [List.take_zero]
    exact rfl
  | [], _, i + 1, h => by
    rw [show _ = [] from h]
    exact rfl
  | _ :: _, _, i + 1, ⟨u, r, h1, h2, h3⟩ => by
    rw [h1]
    exact ⟨u, _, rfl, h2, RelDs.take i h3⟩
theorem RelDs.ints : ∀ {ns : List Int} {vs : List V}, RelDs K H A (ns.map D.int) vs → vs = ns.map V.int
  | [], _, h => h
  | n :: ns, _, ⟨v, r, h1, h2, h3⟩ => by
    rw [h1, RelDs.ints h3, show v = V.int n from h2]
    rfl
theorem relDs_ints : ∀ (ns : List Int), RelDs K H A (ns.map D.int) (ns.map V.int)
  | [] => rfl
  | n :: ns => ⟨.int n, ns.map V.int, rfl, rfl, relDs_ints ns⟩
theorem RelN.ext {ρ : DEnv} {σ : L2.St} (n : RelN K H A ρ σ) (e : Ext H A H' A') : RelN K H' A' ρ σ :=
  ⟨n.len, fun i d h => let ⟨v, h1, h2⟩ := n.at_ i d h; ⟨v, h1, h2.ext e⟩⟩
theorem RelN.set {ρ : DEnv} {σ : L2.St} {d : D} {v : V} (i : Nat) (n : RelN K H A ρ σ) (r : RelD K H A d v) : RelN K H A (ρ.set i (some d)) (σ.set i (some v)) := by
  refine ⟨by rw [List.length_set, List.length_set]; exact n.len, fun j d' h => ?_⟩
  by_cases hij : i = j
  · subst hij
    have hl : i < ρ.length := by
      have q := (List.getElem?_eq_some_iff.mp h).1
      rwa [List.length_set] at q
    rw [List.getElem?_set_self hl] at h
    cases h
    exact ⟨v, List.getElem?_set_self (by rw [← n.len]; exact hl), r⟩
  · rw [List.getElem?_set_ne hij] at h
    obtain ⟨u, h1, h2⟩ := n.at_ j d' h
    exact ⟨u, by rw [List.getElem?_set_ne hij]; exact h1, h2⟩
theorem RelS.get {S : Store} (s : RelS K H A S) {n : Nat} {e : Ent} {a : Addr} (h : S[n]? = some e) (ha : A[n]? = some a) : RelE K H A e a := by
  obtain ⟨b, hb, r⟩ := s.ent n e h
  rw [ha] at hb
  cases hb
  exact r
theorem RelS.memL {S : Store} (s : RelS K H A S) {a : Addr} (h : a ∈ A) : ∃ o, H a = some o ∧ LdO o := by
  obtain ⟨n, hn⟩ := List.mem_iff_getElem?.mp h
  have hl : n < S.length := by
    rw [s.len]
    exact (List.getElem?_eq_some_iff.mp hn).1
  have r := s.get (List.getElem?_eq_getElem hl) hn
  cases q : S[n] with
  | lst ds =>
    rw [q] at r
    obtain ⟨vs, h1, _⟩ := r
    exact ⟨_, h1, .inl ⟨_, rfl⟩⟩
  | dct kvs =>
    rw [q] at r
    obtain ⟨ws, h1, _⟩ := r
    exact ⟨_, h1, .inr (.inl ⟨_, rfl⟩)⟩
theorem RelS.mem {S : Store} (s : RelS K H A S) {a : Addr} (h : a ∈ A) : ∃ o, H a = some o ∧ MutO o := by
  obtain ⟨o, h1, h2⟩ := s.memL h
  exact ⟨o, h1, .inl h2⟩
theorem RelS.ld {S : Store} (s : RelS K H A S) {a : Addr} {o : HO} (h : a ∈ A) (q : H a = some o) : LdO o := by
  obtain ⟨o', h1, h2⟩ := s.memL h
  rw [q] at h1
  cases h1
  exact h2
theorem RelS.notin0 {S : Store} (s : RelS K H A S) {p : Addr} (h : FreeO H p) : p ∉ A := fun hp => by
  obtain ⟨o, q, m⟩ := s.memL hp
  exact ld_tbl m (h o q)
theorem RelS.notin {S : Store} (s : RelS K H A S) {p : Addr} (h : H p = none) : p ∉ A := s.notin0 (.of h)
/-- what the store holds, where all that was tracked stays -/
theorem RelS.same {S : Store} (s : RelS K H A S) (h : ∀ a o, H a = some o → H' a = some o) : RelS K H' A S := by
  have e : Ext H A H' A := Ext.same h
  refine ⟨s.len, s.nd, fun n en hn => ?_, s.tabs.same h⟩
  obtain ⟨a, ha, r⟩ := s.ent n en hn
  refine ⟨a, ha, ?_⟩
  cases en with
  | lst ds =>
    obtain ⟨vs, h1, h2⟩ := r
    exact ⟨vs, h _ _ h1, h2.ext e⟩
  | dct kvs =>
    obtain ⟨ws, h1, h2, h3⟩ := r
    exact ⟨ws, h _ _ h1, h2, h3.ext e⟩
theorem same_upd {p : Addr} {o : HO} (h : H p = none) : ∀ a u, H a = some u → upd H p o a = some u := fun a u q => by
  rw [upd_ne (ne_of_none q h)]
  exact q
/-- a new entry -/
theorem ext_new {S : Store} (s : RelS K H A S) {p : Addr} {o : HO} (h : H p = none) : Ext H A (upd H p o) (A ++ [p]) :=
  ⟨⟨[p], rfl, fun b hb => by rw [List.mem_singleton.mp hb]; exact .of h⟩, fun a u q => .inl (same_upd h a u q)⟩
theorem RelE.ext {en : Ent} {a : Addr} (r : RelE K H A en a) (e : Ext H A H' A') (h : ∀ o, H a = some o → H' a = some o) : RelE K H' A' en a := by
  cases en with
  | lst ds =>
    obtain ⟨vs, h1, h2⟩ := r
    exact ⟨vs, h _ h1, h2.ext e⟩
  | dct kvs =>
    obtain ⟨ws, h1, h2, h3⟩ := r
    exact ⟨ws, h _ h1, h2, h3.ext e⟩
theorem RelS.new {S : Store} (s : RelS K H A S) {p : Addr} {o : HO} {en : Ent} (h : H p = none) (r : RelE K (upd H p o) (A ++ [p]) en p) : RelS K (upd H p o) (A ++ [p]) (S ++ [en]) := by
  have e : Ext H A (upd H p o) (A ++ [p]) := ext_new s h
  refine ⟨by rw [List.length_append, List.length_append, s.len]; rfl, List.nodup_append.mpr ⟨s.nd, by simp, fun a ha b hb => ?_⟩, fun n en' hn => ?_, s.tabs.same (same_upd h)⟩
  · rw [List.mem_singleton.mp hb]
    intro q
    rw [q] at ha
    exact s.notin h ha
  · by_cases hl : n < S.length
    · rw [List.getElem?_append_left hl] at hn
      obtain ⟨a, ha, r'⟩ := s.ent n en' hn
      exact ⟨a, e.at_ ha, r'.ext e fun o' q => same_upd h _ _ q⟩
    · have hn' : n = S.length := by
        have q := (List.getElem?_eq_some_iff.mp hn).1
        rw [List.length_append] at q
        simp at q
        omega
      subst hn'
      rw [List.getElem?_append_right (Nat.le_refl _), Nat.sub_self] at hn
      simp at hn
      subst hn
      refine ⟨p, ?_, r⟩
      rw [s.len, List.getElem?_append_right (Nat.le_refl _), Nat.sub_self]
      rfl
/-- an entry changed -/
theorem ext_set {S : Store} {p : Addr} {o o' : HO} (hp : p ∈ A) (h : H p = some o) (m : LdO o) (m' : LdO o') : Ext H A (upd H p o') A := by
  refine ⟨⟨[], by simp, by simp⟩, fun a u q => ?_⟩
  by_cases e : a = p
  · subst e
    rw [h] at q
    cases q
    exact .inr (.inl ⟨hp, m, o', upd_same, m'⟩)
  · rw [upd_ne e]
    exact .inl q
theorem RelS.set {S : Store} (s : RelS K H A S) {n : Nat} {p : Addr} {o o' : HO} {en : Ent} (hn : A[n]? = some p) (h : H p = some o) (m : LdO o) (m' : LdO o') (r : RelE K (upd H p o') A en p) : RelS K (upd H p o') A (S.set n en) := by
  have hp : p ∈ A := List.mem_iff_getElem?.mpr ⟨n, hn⟩
  have e : Ext H A (upd H p o') A := ext_set (S := S) hp h m m'
  refine ⟨by rw [List.length_set]; exact s.len, s.nd, fun k en' hk => ?_, s.tabs.step fun b u q hn => by
    rw [upd_ne fun z => hn (by rw [z] at q; exact s.ld hp q)]
    exact q⟩
  by_cases hnk : n = k
  · subst hnk
    have hl : n < S.length := by
      rw [s.len]
      exact (List.getElem?_eq_some_iff.mp hn).1
    rw [List.getElem?_set_self hl] at hk
    cases hk
    exact ⟨p, hn, r⟩
  · rw [List.getElem?_set_ne hnk] at hk
    obtain ⟨a, ha, r'⟩ := s.ent k en' hk
    refine ⟨a, ha, r'.ext e fun u q => ?_⟩
    have hap : a ≠ p := fun z => by
      subst z
      have h1 := (List.getElem?_eq_some_iff.mp hn).1
      exact hnk ((List.getElem?_inj h1 s.nd).mp (hn.trans ha.symm))
    rw [upd_ne hap]
    exact q
end
end DL
/-! DM: readings over data (DE, DT, DA, DG, DS, DIt), lifted to the heap's readings. -/
namespace DL
open PySem PySem.Spec PyProof.Rows L2
variable [HasT]

abbrev DK := D → Store → Prop
abbrev DE := DEnv → Store → DK → Prop
abbrev DT := DEnv → Store → (Bool → Store → Prop) → Prop
abbrev DA := DEnv → Store → (List D → Store → Prop) → Prop
/-- what is wanted of an exception: its class, what it tells, the names and the store where it is raised -/
abbrev DX := Value → D → DEnv → Store → Prop
structure DEnds where
  nx : DEnv → Store → Prop
  rt : DK
  bk : DEnv → Store → Prop := fun _ _ => False
  ct : DEnv → Store → Prop := fun _ _ => False
  ex : DX := fun _ _ _ _ => False
abbrev DS := DEnds → DEnv → Store → Prop
abbrev DG := D → DEnv → Store → (DEnv → Store → Prop) → Prop
abbrev DGs := List D → DEnv → Store → (DEnv → Store → Prop) → Prop
abbrev D2 := D → D → Store → DK → Prop
abbrev D1 := D → Store → DK → Prop
abbrev DC := List D → Store → DK → Prop
abbrev DSet := D → D → D → Store → (Store → Prop) → Prop
abbrev DSp := List D → Store → DK → Prop
abbrev DIt := DEnv → Store → (List D → (Store → Prop) → Store → Prop) → Prop

/-- what is wanted of a value, over the heap, from what is wanted over data -/
def KontE (K : PySem.W.Frag) (H : Hp) (A : List Addr) (post : DK) (Q : VK) : Prop :=
  ∀ v H' A' d S', Ext H A H' A' → RelS K H' A' S' → RelD K H' A' d v → post d S' → Q v H'
def KontN (K : PySem.W.Frag) (H : Hp) (A : List Addr) (post : DEnv → Store → Prop) (Q : L2.St → Hp → Prop) : Prop :=
  ∀ σ' H' A' ρ' S', Ext H A H' A' → RelN K H' A' ρ' σ' → RelS K H' A' S' → post ρ' S' → Q σ' H'
def liftE (K : PySem.W.Frag) (t : DE) : TE := fun σ H Q => ∃ A ρ S post, RelN K H A ρ σ ∧ RelS K H A S ∧ t ρ S post ∧ KontE K H A post Q
def liftT (K : PySem.W.Frag) (t : DT) : TT := fun σ H Q => ∃ A ρ S post, RelN K H A ρ σ ∧ RelS K H A S ∧ t ρ S post ∧ ∀ b H' A' S', Ext H A H' A' → RelS K H' A' S' → post b S' → Q b H'
def liftA (K : PySem.W.Frag) (t : DA) : TA := fun σ H Q => ∃ A ρ S post, RelN K H A ρ σ ∧ RelS K H A S ∧ t ρ S post ∧ ∀ vs H' A' ds S', Ext H A H' A' → RelS K H' A' S' → RelDs K H' A' ds vs → post ds S' → Q vs H'
def liftG (K : PySem.W.Frag) (g : DG) : TG := fun v σ H Q => ∃ A ρ S d post, RelN K H A ρ σ ∧ RelS K H A S ∧ RelD K H A d v ∧ g d ρ S post ∧ KontN K H A post Q
def liftGs (K : PySem.W.Frag) (g : DGs) : TGs := fun vs σ H Q => ∃ A ρ S ds post, RelN K H A ρ σ ∧ RelS K H A S ∧ RelDs K H A ds vs ∧ g ds ρ S post ∧ KontN K H A post Q
abbrev W0 : WX := fun _ _ _ _ => False
def KontX (K : PySem.W.Frag) (W : WX) (H : Hp) (A : List Addr) (ex : DX) : Prop :=
  ∀ cls d σ' H' A' w u ρ' S', Ext H A H' A' → RelN K H' A' ρ' σ' → RelS K H' A' S' → H' d = some (.xd [(("what" : Str), u)]) → RelD K H' A' w u → ex cls w ρ' S' → W cls (some d) σ' H'
/-- the way on of continue, and of an exception -/
structure KontC (K : PySem.W.Frag) (W : WX) (H : Hp) (A : List Addr) (E : DEnds) (Q : L2.St → Hp → Prop) : Prop where
  ct : KontN K H A E.ct Q
  ex : KontX K W H A E.ex
def liftS (K : PySem.W.Frag) (W : WX) (t : DS) : TS := fun Dn σ H => ∃ A ρ S E, RelN K H A ρ σ ∧ RelS K H A S ∧ t E ρ S ∧ KontN K H A E.nx Dn.nx ∧ KontE K H A E.rt Dn.rt ∧ KontN K H A E.bk Dn.bk ∧ KontC K W H A E Dn.ct
/-- a def's promise -/
def spL (K : PySem.W.Frag) (sp : DSp) : Sp := fun vs H Q _ => ∃ A ds S post, RelS K H A S ∧ RelDs K H A ds vs ∧ sp ds S post ∧ KontE K H A post Q
def Rul2 (K : PySem.W.Frag) (rd : D2) (r : R2) : Prop := ∀ H A S d1 d2 v1 v2 post Q, RelS K H A S → RelD K H A d1 v1 → RelD K H A d2 v2 → rd d1 d2 S post → KontE K H A post Q → r v1 v2 H Q
def Rul1 (K : PySem.W.Frag) (rd : D1) (r : V → Hp → VK → Prop) : Prop := ∀ H A S d v post Q, RelS K H A S → RelD K H A d v → rd d S post → KontE K H A post Q → r v H Q
def RulC (K : PySem.W.Frag) (rd : DC) (r : List V → Hp → VK → Prop) : Prop := ∀ H A S ds vs post Q, RelS K H A S → RelDs K H A ds vs → rd ds S post → KontE K H A post Q → r vs H Q
def RulSet (K : PySem.W.Frag) (rd : DSet) (r : TSet) : Prop := ∀ H A S o i d ov iv v post Q, RelS K H A S → RelD K H A o ov → RelD K H A i iv → RelD K H A d v → rd o i d S post →
  (∀ H' A' S', Ext H A H' A' → RelS K H' A' S' → post S' → Q H') → r ov iv v H Q

section
variable {K : PySem.W.Frag} {H H' : Hp} {A A' : List Addr} {post : DK} {Q : VK}
theorem KontE.go (k : KontE K H A post Q) (e : Ext H A H' A') : KontE K H' A' post Q := fun v H2 A2 d S2 e2 s2 r2 p => k v H2 A2 d S2 (e.trans e2) s2 r2 p
theorem KontE.now {S : Store} (k : KontE K H A post Q) {v : V} {d : D} (s : RelS K H A S) (r : RelD K H A d v) (p : post d S) : Q v H := k v H A d S Ext.refl s r p
theorem KontN.go {post : DEnv → Store → Prop} {Q : L2.St → Hp → Prop} (k : KontN K H A post Q) (e : Ext H A H' A') : KontN K H' A' post Q := fun v H2 A2 d S2 e2 n2 s2 p => k v H2 A2 d S2 (e.trans e2) n2 s2 p
theorem KontN.now {S : Store} {post : DEnv → Store → Prop} {Q : L2.St → Hp → Prop} (k : KontN K H A post Q) {σ : L2.St} {ρ : DEnv} (n : RelN K H A ρ σ) (s : RelS K H A S) (p : post ρ S) : Q σ H := k σ H A ρ S Ext.refl n s p
theorem KontX.go {W : WX} {ex : DX} (k : KontX K W H A ex) (e : Ext H A H' A') : KontX K W H' A' ex := fun c d σ H2 A2 w u ρ S2 e2 => k c d σ H2 A2 w u ρ S2 (e.trans e2)
theorem KontC.go {W : WX} {E : DEnds} {Q : L2.St → Hp → Prop} (k : KontC K W H A E Q) (e : Ext H A H' A') : KontC K W H' A' E Q := ⟨k.ct.go e, k.ex.go e⟩
theorem kontX0 {W : WX} : KontX K W H A fun _ _ _ _ => False := fun _ _ _ _ _ _ _ _ _ _ _ _ _ _ p => p.elim
end

/-! ### weakening -/
section
variable {X : Cx} {e : Expr}
theorem pe_mono {t t' : TE} (h : PE X e t) (m : ∀ σ H Q, t' σ H Q → t σ H Q) : PE X e t' := ⟨fun pins s σ H Q I w => h.run pins s σ H Q I (m σ H Q w)⟩
theorem pt_mono {t t' : TT} (h : PT X e t) (m : ∀ σ H Q, t' σ H Q → t σ H Q) : PT X e t' := ⟨fun pins s σ H Q I w => h.run pins s σ H Q I (m σ H Q w)⟩
theorem pw_mono {t t' : TT} (h : PW X e t) (m : ∀ σ H Q, t' σ H Q → t σ H Q) : PW X e t' := ⟨fun wh pins s σ H Q I w => h.run wh pins s σ H Q I (m σ H Q w)⟩
theorem pa_mono {es : List Expr} {t t' : TA} (h : PA X es t) (m : ∀ σ H Q, t' σ H Q → t σ H Q) : PA X es t' := ⟨fun pos pins s σ H Q I w => h.run pos pins s σ H Q I (m σ H Q w)⟩
theorem pk_mono {es : List Keyword} {t t' : TA} (h : PK X es t) (m : ∀ σ H Q, t' σ H Q → t σ H Q) : PK X es t' := ⟨fun pos pins s σ H Q I w => h.run pos pins s σ H Q I (m σ H Q w)⟩
theorem ps_mono {st : Stmt} {t t' : TS} (h : PS X st t) (m : ∀ Dn σ H, t' Dn σ H → t Dn σ H) : PS X st t' := ⟨fun pins s σ H Dn I w => h.run pins s σ H Dn I (m Dn σ H w)⟩
theorem pss_mono {st : List Stmt} {t t' : TS} (h : PSs X st t) (m : ∀ Dn σ H, t' Dn σ H → t Dn σ H) : PSs X st t' := ⟨fun pins s σ H Dn I w => h.run pins s σ H Dn I (m Dn σ H w)⟩
theorem pg_mono {tg : Expr} {t t' : TG} (h : PG X tg t) (m : ∀ v σ H Q, t' v σ H Q → t v σ H Q) : PG X tg t' := ⟨fun pins s σ H v u Q I r w => h.run pins s σ H v u Q I r (m v σ H Q w)⟩
theorem pgs_mono {ts : List Expr} {t t' : TGs} (h : PGs X ts t) (m : ∀ vs σ H Q, t' vs σ H Q → t vs σ H Q) : PGs X ts t' := ⟨fun pins s σ H vs us Q I r w => h.run pins s σ H vs us Q I r (m vs σ H Q w)⟩
theorem pi_mono {tg it : Expr} {t t' : TI} (h : PI X tg it t) (m : ∀ σ H R, t' σ H R → t σ H R) : PI X tg it t' := ⟨fun pins s σ H R I w => h.run pins s σ H R I (m σ H R w)⟩
end

/-! ### names, constants -/
def dVar (i : Nat) : DE := fun ρ S post => ∃ d, ρ[i]? = some (some d) ∧ post d S
def dC (d : D) : DE := fun _ S post => post d S
section
variable {X : Cx} {pos : Pos}
theorem de_var (i : Nat) {x : Str} (hN : X.N[i]? = some x := by rfl) (hv : Vis X.env.scope x := by first | exact Or.inl rfl | exact Or.inr (Or.inl rfl) | exact Or.inr (Or.inr rfl)) (hd : (x == ("__debug__" : Str)) = false := by decide)
    (hcd : (x == ("__classdict__" : Str)) = false := by decide) : PE X (.Name x pos) (liftE X.K (dVar i)) :=
  pe_mono (pe_var hN hv hd hcd) fun σ H Q ⟨A, ρ, S, post, n, s, ⟨d, hd, p⟩, k⟩ => let ⟨v, h1, h2⟩ := n.at_ i d hd; ⟨v, h1, k.now s h2 p⟩
theorem de_c {e : Expr} {d : D} {v : V} (h : PE X e (tC v)) (r : ∀ K H A, RelD K H A d v) : PE X e (liftE X.K (dC d)) :=
  pe_mono h fun σ H Q ⟨A, ρ, S, post, n, s, p, k⟩ => k.now s (r _ _ _) p
theorem de_int {i : Int} {j} : PE X (.Constant (.int i) j pos) (liftE X.K (dC (.int i))) := de_c pe_int fun _ _ _ => rfl
theorem de_bl {b : Bool} {j} : PE X (.Constant (.bool b) j pos) (liftE X.K (dC (.bl b))) := de_c pe_bl fun _ _ _ => rfl
theorem de_non {j} : PE X (.Constant .none j pos) (liftE X.K (dC .non)) := de_c pe_non fun _ _ _ => rfl
theorem de_str {x : Str} {j} : PE X (.Constant (.str x) j pos) (liftE X.K (dC (.str x))) := de_c pe_str fun _ _ _ => rfl
/-- a module's number -/
theorem de_glob {x : Str} {i : Int} {tk : Tok} (hg : Gl X x) (hm : X.mg x = some (.int i tk)) (hd : (x == ("__debug__" : Str)) = false := by decide) : PE X (.Name x pos) (liftE X.K (dC (.int i))) :=
  de_c (v := .int i) (pe_glob hg hm ⟨tk, rfl⟩ hd) fun _ _ _ => rfl
end

/-! ### two in a row -/
def dOp (rd : D2) (ta tb : DE) : DE := fun ρ S post => ta ρ S fun x S1 => tb ρ S1 fun y S2 => rd x y S2 post
def dUn (rd : D1) (ta : DE) : DE := fun ρ S post => ta ρ S fun x S1 => rd x S1 post
section
variable {X : Cx} {pos : Pos} {a b : Expr} {ta tb : DE} {rd : D2} {r : R2}
theorem lift_op {K : PySem.W.Frag} (hr : Rul2 K rd r) {σ : L2.St} {H : Hp} {Q : VK} : liftE K (dOp rd ta tb) σ H Q → tOp r (liftE K ta) (liftE K tb) σ H Q := by
  rintro ⟨A, ρ, S, post, n, s, p, k⟩
  refine ⟨A, ρ, S, _, n, s, p, fun v1 H1 A1 d1 S1 e1 s1 r1 p1 => ?_⟩
  refine ⟨A1, ρ, S1, _, n.ext e1, s1, p1, fun v2 H2 A2 d2 S2 e2 s2 r2 p2 => ?_⟩
  exact hr H2 A2 S2 d1 d2 v1 v2 post Q s2 (r1.ext e2) r2 p2 (k.go (e1.trans e2))
theorem de_op {op : Operator} (ho : OpR X (binaryOp op) r) (hr : Rul2 X.K rd r) (ha : PE X a (liftE X.K ta)) (hb : PE X b (liftE X.K tb)) : PE X (.BinOp a op b pos) (liftE X.K (dOp rd ta tb)) :=
  pe_mono (pe_op ho ha hb) fun _ _ _ => lift_op hr
theorem de_cmp {op : CmpOp} (ho : OpR X (compareOp op) r) (hr : Rul2 X.K rd r) (ha : PE X a (liftE X.K ta)) (hb : PE X b (liftE X.K tb)) (hm : behindInMarks op b = false) : PE X (.Compare a [op] [b] pos) (liftE X.K (dOp rd ta tb)) :=
  pe_mono (pe_cmpR ho ha hb hm) fun _ _ _ => lift_op hr
theorem de_ix (ho : IxR X r) (hr : Rul2 X.K rd r) (ha : PE X a (liftE X.K ta)) (hb : PE X b (liftE X.K tb)) (hs : PlainIx b := by exact fun _ _ => rfl) : PE X (.Subscript a b pos) (liftE X.K (dOp rd ta tb)) :=
  pe_mono (pe_ix ho ha hb hs) fun _ _ _ => lift_op hr
theorem de_un {op : UnaryOp} {r1 : V → Hp → VK → Prop} {rd1 : D1} (ho : UnR X (unaryOp op) r1) (hr : Rul1 X.K rd1 r1) (ha : PE X a (liftE X.K ta)) : PE X (.UnaryOp op a pos) (liftE X.K (dUn rd1 ta)) :=
  pe_mono (pe_un ho ha) fun σ H Q ⟨A, ρ, S, post, n, s, p, k⟩ => ⟨A, ρ, S, _, n, s, p, fun v1 H1 A1 d1 S1 e1 s1 r1 p1 => hr H1 A1 S1 d1 v1 post Q s1 r1 p1 (k.go e1)⟩
end

/-! ### argument lists, displays, calls -/
def dNil : DA := fun _ S post => post [] S
def dCons (te : DE) (t : DA) : DA := fun ρ S post => te ρ S fun d S1 => t ρ S1 fun ds S2 => post (d :: ds) S2
def dTup (t : DA) : DE := fun ρ S post => t ρ S fun ds S1 => ds.length ≤ 100000 ∧ post (.tup ds) S1
def dLst (t : DA) : DE := fun ρ S post => t ρ S fun ds S1 => ds.length ≤ 100000 ∧ post (.lr S1.length) (S1 ++ [.lst ds])
def dCB (rd : DC) (t : DA) : DE := fun ρ S post => t ρ S fun ds S1 => rd ds S1 post
theorem le_line {n : Nat} (h : n ≤ 100000) : n ≤ sizeLine := Nat.le_trans h (by decide)
theorem lt_line {n : Nat} (h : n ≤ 100000) : n < sizeLine := Nat.lt_of_le_of_lt h (by decide)
section
variable {X : Cx} {pos : Pos} {e : Expr} {es : List Expr} {te : DE} {t : DA}
theorem da_nil : PA X [] (liftA X.K dNil) := pa_mono pa_nil fun σ H Q ⟨A, ρ, S, post, n, s, p, k⟩ => k [] H A [] S Ext.refl s rfl p
theorem da_cons (ha : PE X e (liftE X.K te)) (hr : PA X es (liftA X.K t)) (hs : starEach (e :: es) X.env = (false, eval e X.env) :: starEach es X.env := by rfl) : PA X (e :: es) (liftA X.K (dCons te t)) :=
  pa_mono (pa_cons ha hr hs) fun σ H Q ⟨A, ρ, S, post, n, s, p, k⟩ => ⟨A, ρ, S, _, n, s, p, fun v1 H1 A1 d1 S1 e1 s1 r1 p1 =>
    ⟨A1, ρ, S1, _, n.ext e1, s1, p1, fun vs H2 A2 ds S2 e2 s2 r2 p2 => k (v1 :: vs) H2 A2 (d1 :: ds) S2 (e1.trans e2) s2 ⟨v1, vs, rfl, r1.ext e2, r2⟩ p2⟩⟩
theorem dk_nil : PK X [] (liftA X.K dNil) := pk_mono pk_nil fun σ H Q ⟨A, ρ, S, post, n, s, p, k⟩ => k [] H A [] S Ext.refl s rfl p
theorem dk_cons {kws : List Keyword} {nm : Option Str} {kpos : Pos} (ha : PE X e (liftE X.K te)) (hr : PK X kws (liftA X.K t)) : PK X (⟨nm, e, kpos⟩ :: kws) (liftA X.K (dCons te t)) :=
  pk_mono (pk_cons ha hr) fun σ H Q ⟨A, ρ, S, post, n, s, p, k⟩ => ⟨A, ρ, S, _, n, s, p, fun v1 H1 A1 d1 S1 e1 s1 r1 p1 =>
    ⟨A1, ρ, S1, _, n.ext e1, s1, p1, fun vs H2 A2 ds S2 e2 s2 r2 p2 => k (v1 :: vs) H2 A2 (d1 :: ds) S2 (e1.trans e2) s2 ⟨v1, vs, rfl, r1.ext e2, r2⟩ p2⟩⟩
theorem relS_tup {K : PySem.W.Frag} {H : Hp} {A : List Addr} {S : Store} (s : RelS K H A S) {p : Addr} {o : HO} (h : H p = none) : Ext H A (upd H p o) A ∧ RelS K (upd H p o) A S :=
  ⟨Ext.same (same_upd h), s.same (same_upd h)⟩
/-- the object of a new tuple -/
abbrev obT (us : List Value) : Obj := { cls := .type "tuple", data := .seq us.toArray }
theorem laidP {pins : List (Addr × Obj)} {σ : L2.St} {H : Hp} {s : Shared} {h' : Heap} {tk : Nat} {vs : List V} {us : List Value} {p : Addr} (I : Inv X pins σ H s) (kp : ∀ b o, s.heap.get? b = some o → h'.get? b = some o) (hp : s.heap.objs.size ≤ p) (he : h'.get? p = some (obT us)) (rv : Vals vs us) (hz : vs.length ≤ sizeLine) :
    Inv X pins σ (upd H p (.frz (obT us) (.tup vs))) { s with heap := h', toks := tk } :=
  I.laid kp hp ⟨he, hz, us, rv, ⟨_, he, rfl, _, rfl⟩⟩
def tTupP (t : TA) : TE := fun σ H Q => t σ H fun xs H1 => xs.length ≤ sizeLine ∧ ∀ (p : Addr) (o : Obj), H1 p = none → o.dict = none → Q (.ref p) (upd H1 p (.frz o (.tup xs)))
theorem pe_tupP {x1} {t : TA} (h : PA X es t) : PE X (.Tuple es x1 pos) (tTupP t) := by
  refine ⟨fun pins s σ H Q I w => ?_⟩
  refine wpAny_Tuple_spliced (thn (h.run pos pins s σ H _ I w) fun us s1 ⟨vs, H1, I1, rv, hz, q⟩ => ⟨Nat.le_trans (Nat.le_of_eq rv.length.symm) hz, ?_⟩)
  exact ⟨.ref s1.heap.objs.size, _, laidP (tk := s1.toks) I1 (fun b o e => Heap.get?_push_of_some _ e) (Nat.le_refl _) (Heap.get?_push_size _ rfl) rv hz, rfl, q _ (obT us) (I1.hok.fresh (Nat.le_refl _)) rfl⟩
theorem de_tup {x1} (h : PA X es (liftA X.K t)) : PE X (.Tuple es x1 pos) (liftE X.K (dTup t)) :=
  pe_mono (pe_tupP h) fun σ H Q ⟨A, ρ, S, post, n, s, p, k⟩ => ⟨A, ρ, S, _, n, s, p, fun vs H1 A1 ds S1 e1 s1 r1 ⟨hl, p1⟩ => ⟨by rw [r1.len]; exact le_line hl, fun a o ha ho =>
    let ⟨e2, s2⟩ := relS_tup (o := .frz o (.tup vs)) s1 ha
    k (.ref a) (upd H1 a (.frz o (.tup vs))) A1 (.tup ds) S1 (e1.trans e2) s2 ⟨a, vs, rfl, .inl ⟨o, upd_same, ho⟩, r1.ext e2⟩ p1⟩⟩
theorem de_lst (h : PA X es (liftA X.K t)) : PE X (.List es pos) (liftE X.K (dLst t)) :=
  pe_mono (pe_lst h) fun σ H Q ⟨A, ρ, S, post, n, s, p, k⟩ => ⟨A, ρ, S, _, n, s, p, fun vs H1 A1 ds S1 e1 s1 r1 ⟨hl, p1⟩ => ⟨by rw [r1.len]; exact le_line hl, fun a ha => by
    have e2 : Ext H1 A1 (upd H1 a (.lst vs)) (A1 ++ [a]) := ext_new s1 ha
    refine k (.ref a) (upd H1 a (.lst vs)) (A1 ++ [a]) (.lr S1.length) (S1 ++ [.lst ds]) (e1.trans e2) (s1.new (o := .lst vs) (en := .lst ds) ha ⟨vs, upd_same, r1.ext e2⟩) ⟨a, rfl, ?_⟩ p1
    rw [s1.len, List.getElem?_append_right (Nat.le_refl _), Nat.sub_self]
    rfl⟩⟩
theorem lift_CB {K : PySem.W.Frag} {rd : DC} {r : List V → Hp → VK → Prop} (hr : RulC K rd r) {σ : L2.St} {H : Hp} {Q : VK} : liftE K (dCB rd t) σ H Q → tCB r (liftA K t) σ H Q := by
  rintro ⟨A, ρ, S, post, n, s, p, k⟩
  exact ⟨A, ρ, S, _, n, s, p, fun vs H1 A1 ds S1 e1 s1 r1 p1 => hr H1 A1 S1 ds vs post Q s1 r1 p1 (k.go e1)⟩
theorem de_callB {x : Str} {p : Pos} {id : String} {rd : DC} {r : List V → Hp → VK → Prop} (hc : CallR X (.builtin id) r) (hr : RulC X.K rd r) (hg : Gl X x) (hm : X.mg x = none) (hv : bootBuiltins x = some (.builtin id)) (ha : PA X (e :: es) (liftA X.K t))
    (hdb : (x == ("__debug__" : Str)) = false := by decide) (hn : x ≠ "__name__" := by decide) (he : starEach (e :: es) X.env = (false, eval e X.env) :: starEach es X.env := by rfl) (hpl : (backTo pos (starEach es X.env)).any (·.1) = false := by rfl) :
    PE X (.Call (.Name x p) (e :: es) [] pos) (liftE X.K (dCB rd t)) := pe_mono (pe_callB hc hg hm hv ha hn hdb he hpl) fun _ _ _ => lift_CB hr
theorem de_callTy {x : Str} {p : Pos} {T : String} {rd : DC} {r : List V → Hp → VK → Prop} (hc : CallR X (.type T) r) (hr : RulC X.K rd r) (hg : Gl X x) (hm : X.mg x = none) (hv : bootBuiltins x = some (.type T)) (ha : PA X (e :: es) (liftA X.K t))
    (hdb : (x == ("__debug__" : Str)) = false := by decide) (hn : x ≠ "__name__" := by decide) (he : starEach (e :: es) X.env = (false, eval e X.env) :: starEach es X.env := by rfl) (hpl : (backTo pos (starEach es X.env)).any (·.1) = false := by rfl) :
    PE X (.Call (.Name x p) (e :: es) [] pos) (liftE X.K (dCB rd t)) := pe_mono (pe_callTy hc hg hm hv ha hn hdb he hpl) fun _ _ _ => lift_CB hr
end
end DL
/-! DN: operators, tests, statements over data. -/
namespace DL
open PySem PySem.Spec PyProof.Rows L2
variable [HasT]

/-! ### data as the library's data -/
mutual
def plain : D → Bool
  | .lr _ => false
  | .tup ds => plains ds
  | .rl ds => plains ds
  | .ztup _ => false
  | .exc _ _ _ _ => false
  | .opq _ => false
  | _ => true
def plains : List D → Bool
  | [] => true
  | d :: ds => plain d && plains ds
end
mutual
def toP : D → PyData
  | .non => .none
  | .bl b => .bool b
  | .int i => .int i
  | .str x => .str x
  | .tup ds => .tuple (toPs ds)
  | .rl ds => .list (toPs ds)
  | .lr _ => .none
  | .ztup _ => .none
  | .exc _ _ _ _ => .none
  | .opq _ => .none
def toPs : List D → List PyData
  | [] => []
  | d :: ds => toP d :: toPs ds
end
/-- what a list of ours holds -/
def seqOf (S : Store) (x : D) (ds : List D) : Prop := x = .tup ds ∨ x = .rl ds ∨ ∃ n : Nat, x = .lr n ∧ S[n]? = some (.lst ds)
def dataOf (S : Store) (x : D) (p : PyData) : Prop := (plain x = true ∧ p = toP x) ∨ ∃ (n : Nat) (ds : List D), x = .lr n ∧ S[n]? = some (.lst ds) ∧ plains ds = true ∧ p = .list (toPs ds)
section
variable {K : PySem.W.Frag} {H : Hp} {A : List Addr}
mutual
theorem RelD.dp : ∀ {d : D} {v : V}, RelD K H A d v → plain d = true → Dp K H v (toP d)
  | .non, v, h, _ => by
    rw [show v = .non from h, toP]
    exact .non
  | .bl b, v, h, _ => by
    rw [show v = .bl b from h, toP]
    exact .bl b
  | .int i, v, h, _ => by
    rw [show v = .int i from h, toP]
    exact .int i
  | .str x, v, h, _ => by
    rw [show v = .str x from h, toP]
    exact .str x
  | .tup ds, v, ⟨a, vs, e, h2, h3⟩, p => by
    rw [e, toP]
    rw [plain] at p
    exact .tup h2.sq (RelDs.dp h3 p)
  | .rl ds, v, ⟨a, vs, e, h2, h3⟩, p => by
    rw [e, toP]
    rw [plain] at p
    exact .lst h2.sq (RelDs.dp h3 p)
  | .lr n, v, _, p => by
    rw [plain] at p
    cases p
  | .ztup ds, v, _, p => by
    rw [plain] at p
    cases p
  | .exc _ _ _ _, v, _, p => by
    rw [plain] at p
    cases p
  | .opq _, v, _, p => by
    rw [plain] at p
    cases p
theorem RelDs.dp : ∀ {ds : List D} {vs : List V}, RelDs K H A ds vs → plains ds = true → DpAll K H vs (toPs ds)
  | [], vs, h, _ => by
    rw [show vs = [] from h, toPs]
    exact .nil
  | d :: ds, vs, ⟨v, r, e, h2, h3⟩, p => by
    rw [plains, Bool.and_eq_true] at p
    rw [e, toPs]
    exact .cons (RelD.dp h2 p.1) (RelDs.dp h3 p.2)
end
theorem seqOf.rel {S : Store} {x : D} {ds : List D} {v : V} (s : RelS K H A S) (q : seqOf S x ds) (r : RelD K H A x v) : ∃ a vs, v = .ref a ∧ (SqL K H a vs ∨ SqT K H a vs) ∧ RelDs K H A ds vs := by
  rcases q with rfl | rfl | ⟨n, rfl, hn⟩
  · obtain ⟨a, vs, e, h2, h3⟩ := r
    exact ⟨a, vs, e, .inr h2.sq, h3⟩
  · obtain ⟨a, vs, e, h2, h3⟩ := r
    exact ⟨a, vs, e, .inl h2.sq, h3⟩
  · obtain ⟨a, e, ha⟩ := r
    obtain ⟨vs, h1, h2⟩ := s.get hn ha
    exact ⟨a, vs, e, .inl (.inl (.inl h1)), h2⟩
theorem dataOf.rel {S : Store} {x : D} {p : PyData} {v : V} (s : RelS K H A S) (q : dataOf S x p) (r : RelD K H A x v) : Dp K H v p := by
  rcases q with ⟨h, rfl⟩ | ⟨n, ds, rfl, hn, hp, rfl⟩
  · exact r.dp h
  · obtain ⟨a, e, ha⟩ := r
    obtain ⟨vs, h1, h2⟩ := s.get hn ha
    rw [e]
    exact .lst (.inl (.inl h1)) (h2.dp hp)
end

/-! ### ints -/
def o2I (C : Int → Int → Prop) (g : Int → Int → D) : D2 := fun x y S post => match x, y with
  | .int i, .int j => C i j ∧ post (g i j) S
  | _, _ => False
def o2J (g : Int → Int → D) : D2 := fun x y S post => match x, y with
  | .int i, .int j => post (g i j) S
  | _, _ => False
def o1J (g : Int → D) : D1 := fun x S post => match x with
  | .int i => post (g i) S
  | _ => False
section
variable {K : PySem.W.Frag}
theorem rul_2I {C : Int → Int → Prop} {g : Int → Int → D} {g' : Int → Int → V} (hg : ∀ K H A i j, RelD K H A (g i j) (g' i j)) : Rul2 K (o2I C g) (rI C g') := by
  intro H A S d1 d2 v1 v2 post Q s r1 r2 h k
  cases d1 <;> cases d2 <;> try exact False.elim h
  rename_i i j
  cases (show v1 = .int i from r1)
  cases (show v2 = .int j from r2)
  exact ⟨i, j, rfl, rfl, h.1, k.now s (hg _ _ _ _ _) h.2⟩
theorem rul_2J {g : Int → Int → D} {g' : Int → Int → V} (hg : ∀ K H A i j, RelD K H A (g i j) (g' i j)) : Rul2 K (o2J g) (rI0 g') := by
  intro H A S d1 d2 v1 v2 post Q s r1 r2 h k
  cases d1 <;> cases d2 <;> try exact False.elim h
  rename_i i j
  cases (show v1 = .int i from r1)
  cases (show v2 = .int j from r2)
  exact ⟨i, j, rfl, rfl, k.now s (hg _ _ _ _ _) h⟩
theorem rul_1J {g : Int → D} {g' : Int → V} (hg : ∀ K H A i, RelD K H A (g i) (g' i)) : Rul1 K (o1J g) (rU g') := by
  intro H A S d v post Q s r h k
  cases d <;> try exact False.elim h
  rename_i i
  cases (show v = .int i from r)
  exact ⟨i, rfl, k.now s (hg _ _ _ _) h⟩
/-- + -/
def oAdd : D2 := fun x y S post => match x, y with
  | .int i, .int j => post (.int (i + j)) S
  | .str a, .str b => a.length + b.length ≤ 100000 ∧ post (.str (a ++ b)) S
  | .lr n, .lr m => ∃ xs ys, S[n]? = some (.lst xs) ∧ S[m]? = some (.lst ys) ∧ xs.length + ys.length ≤ 100000 ∧ post (.lr S.length) (S ++ [.lst (xs ++ ys)])
  | _, _ => False
def rAdd3 : R2 := fun x y H Q => rI0 (fun i j => .int (i + j)) x y H Q ∨ (∃ i j, x = .str i ∧ y = .str j ∧ i.length + j.length ≤ sizeLine ∧ Q (.str (i ++ j)) H) ∨ rCat x y H Q
theorem op_add3 {X : Cx} : OpR X (binaryOp .Add) rAdd3 := OpR.or op_add (OpR.or op_add_str op_cat)
theorem relD_last {H : Hp} {S : Store} {A : List Addr} {p : Addr} {o : HO} (s : RelS K H A S) : RelD K (upd H p o) (A ++ [p]) (.lr S.length) (.ref p) := by
  refine ⟨p, rfl, ?_⟩
  rw [s.len, List.getElem?_append_right (Nat.le_refl _), Nat.sub_self]
  rfl
/-- a new list is told -/
theorem fin_list {H : Hp} {A : List Addr} {S : Store} {post : DK} {Q : VK} {p : Addr} {ds : List D} {vs : List V} (s : RelS K H A S) (k : KontE K H A post Q) (hp : H p = none) (r : RelDs K H A ds vs) (h : post (.lr S.length) (S ++ [.lst ds])) : Q (.ref p) (upd H p (.lst vs)) := by
  have e : Ext H A (upd H p (.lst vs)) (A ++ [p]) := ext_new s hp
  exact k (.ref p) _ (A ++ [p]) (.lr S.length) (S ++ [.lst ds]) e (s.new (o := .lst vs) (en := .lst ds) hp ⟨vs, upd_same, r.ext e⟩) (relD_last s) h
theorem fin_tup {H : Hp} {A : List Addr} {S : Store} {post : DK} {Q : VK} {p : Addr} {ds : List D} {vs : List V} (s : RelS K H A S) (k : KontE K H A post Q) {o : Obj} (hp : H p = none) (ho : o.dict = none) (r : RelDs K H A ds vs) (h : post (.tup ds) S) : Q (.ref p) (upd H p (.frz o (.tup vs))) := by
  obtain ⟨e, s2⟩ := relS_tup (o := .frz o (.tup vs)) s hp
  exact k (.ref p) _ A (.tup ds) S e s2 ⟨p, vs, rfl, .inl ⟨o, upd_same, ho⟩, r.ext e⟩ h
theorem rul_add : Rul2 K oAdd rAdd3 := by
  intro H A S d1 d2 v1 v2 post Q s r1 r2 h k
  cases d1 <;> cases d2 <;> try exact False.elim h
  · rename_i i j
    cases (show v1 = .int i from r1)
    cases (show v2 = .int j from r2)
    exact .inl ⟨i, j, rfl, rfl, k.now (d := .int (i + j)) s rfl h⟩
  · rename_i i j
    cases (show v1 = .str i from r1)
    cases (show v2 = .str j from r2)
    exact .inr (.inl ⟨i, j, rfl, rfl, le_line h.1, k.now (d := .str (i ++ j)) s rfl h.2⟩)
  · obtain ⟨xs, ys, h1, h2, hl, p⟩ := h
    obtain ⟨a, e1, ha⟩ := r1
    obtain ⟨b, e2, hb⟩ := r2
    obtain ⟨us, g1, w1⟩ := s.get h1 ha
    obtain ⟨ws, g2, w2⟩ := s.get h2 hb
    exact .inr (.inr ⟨a, b, us, ws, e1, e2, g1, g2, by rw [w1.len, w2.len]; exact le_line hl, fun q hq => fin_list s k hq (w1.append w2) p⟩)
/-- xs[i] -/
def oIx : D2 := fun x y S post => ∃ ds i d, seqOf S x ds ∧ y = .int i ∧ atI ds i = some d ∧ post d S
theorem RelDs.atI {H : Hp} {A : List Addr} {ds : List D} {vs : List V} {i : Int} {d : D} (r : RelDs K H A ds vs) (h : L2.atI ds i = some d) : ∃ v, L2.atI vs i = some v ∧ RelD K H A d v := by
  have hl := r.len
  unfold L2.atI at h ⊢
  rw [hl]
  cases q : ixN ds.length i with
  | none =>
    rw [q] at h
    cases h
  | some j =>
    rw [q] at h
    exact r.get h
theorem rul_ix : Rul2 K oIx (rIx K) := by
  intro H A S d1 d2 v1 v2 post Q s r1 r2 ⟨ds, i, d, hq, hi, he, p⟩ k
  subst hi
  cases (show v2 = .int i from r2)
  obtain ⟨a, vs, rfl, hs, w⟩ := hq.rel s r1
  obtain ⟨v, hv, rv⟩ := w.atI he
  rcases hs with hs | hs
  · exact .inl ⟨a, vs, i, v, rfl, rfl, hs, hv, k.now s rv p⟩
  · exact .inr (.inl ⟨a, vs, i, v, rfl, rfl, hs, hv, k.now s rv p⟩)
/-- ==, != -/
def oEq (neg : Bool) : D2 := fun x y S post => match x, y with
  | .int i, .int j => post (.bl (neg ^^ decide (i = j))) S
  | .str i, .str j => post (.bl (neg ^^ decide (i = j))) S
  | .bl i, .bl j => post (.bl (neg ^^ decide (i = j))) S
  | x, y => ∃ p q, dataOf S x p ∧ dataOf S y q ∧ SeqAt.shaped p = true ∧ SeqAt.shaped q = true ∧ post (.bl (neg ^^ PyData.eqv p q)) S
def rEq2 (K : PySem.W.Frag) : R2 := fun x y H Q => rEq x y H Q ∨ rEqD K x y H Q
def rNe2 (K : PySem.W.Frag) : R2 := fun x y H Q => rNe x y H Q ∨ rNeD K x y H Q
theorem op_eq2 {X : Cx} (hu : X.A.units + 64 < cLine) : OpR X (compareOp .Eq) (rEq2 X.K) := OpR.or op_eq (op_eqD hu)
theorem op_ne2 {X : Cx} (hu : X.A.units + 64 < cLine) : OpR X (compareOp .NotEq) (rNe2 X.K) := OpR.or op_ne (op_neD hu)
theorem fin_bool {H : Hp} {A : List Addr} {S : Store} {post : DK} {Q : VK} {b c : Bool} (s : RelS K H A S) (k : KontE K H A post Q) (h : post (.bl b) S) (e : b = c) : Q (.bl c) H := by
  subst e
  exact k.now (d := .bl b) s rfl h
theorem rul_eq : Rul2 K (oEq false) (rEq2 K) := by
  intro H A S d1 d2 v1 v2 post Q s r1 r2 h k
  by_cases c : (∃ i j, d1 = .int i ∧ d2 = .int j) ∨ (∃ i j, d1 = .str i ∧ d2 = .str j) ∨ (∃ i j, d1 = .bl i ∧ d2 = .bl j)
  · rcases c with ⟨i, j, rfl, rfl⟩ | ⟨i, j, rfl, rfl⟩ | ⟨i, j, rfl, rfl⟩
    · cases (show v1 = .int i from r1)
      cases (show v2 = .int j from r2)
      exact .inl ⟨rfl, fin_bool s k h (by simp)⟩
    · cases (show v1 = .str i from r1)
      cases (show v2 = .str j from r2)
      exact .inl ⟨rfl, fin_bool s k h (by simp)⟩
    · cases (show v1 = .bl i from r1)
      cases (show v2 = .bl j from r2)
      exact .inl ⟨rfl, fin_bool s k h (by simp)⟩
  · have h' : ∃ p q, dataOf S d1 p ∧ dataOf S d2 q ∧ SeqAt.shaped p = true ∧ SeqAt.shaped q = true ∧ post (.bl (false ^^ PyData.eqv p q)) S := by
      unfold oEq at h
      split at h
      · exact absurd (.inl ⟨_, _, rfl, rfl⟩) c
      · exact absurd (.inr (.inl ⟨_, _, rfl, rfl⟩)) c
      · exact absurd (.inr (.inr ⟨_, _, rfl, rfl⟩)) c
      · exact h
    obtain ⟨p, q, h1, h2, g1, g2, hp⟩ := h'
    exact .inr ⟨p, q, h1.rel s r1, h2.rel s r2, g1, g2, fin_bool s k hp (by simp)⟩
theorem rul_ne : Rul2 K (oEq true) (rNe2 K) := by
  intro H A S d1 d2 v1 v2 post Q s r1 r2 h k
  by_cases c : (∃ i j, d1 = .int i ∧ d2 = .int j) ∨ (∃ i j, d1 = .str i ∧ d2 = .str j) ∨ (∃ i j, d1 = .bl i ∧ d2 = .bl j)
  · rcases c with ⟨i, j, rfl, rfl⟩ | ⟨i, j, rfl, rfl⟩ | ⟨i, j, rfl, rfl⟩
    · cases (show v1 = .int i from r1)
      cases (show v2 = .int j from r2)
      exact .inl ⟨rfl, fin_bool s k h (by simp)⟩
    · cases (show v1 = .str i from r1)
      cases (show v2 = .str j from r2)
      exact .inl ⟨rfl, fin_bool s k h (by simp)⟩
    · cases (show v1 = .bl i from r1)
      cases (show v2 = .bl j from r2)
      exact .inl ⟨rfl, fin_bool s k h (by simp)⟩
  · have h' : ∃ p q, dataOf S d1 p ∧ dataOf S d2 q ∧ SeqAt.shaped p = true ∧ SeqAt.shaped q = true ∧ post (.bl (true ^^ PyData.eqv p q)) S := by
      unfold oEq at h
      split at h
      · exact absurd (.inl ⟨_, _, rfl, rfl⟩) c
      · exact absurd (.inr (.inl ⟨_, _, rfl, rfl⟩)) c
      · exact absurd (.inr (.inr ⟨_, _, rfl, rfl⟩)) c
      · exact h
    obtain ⟨p, q, h1, h2, g1, g2, hp⟩ := h'
    exact .inr ⟨p, q, h1.rel s r1, h2.rel s r2, g1, g2, fin_bool s k hp (by simp)⟩
/-- is None, is not None -/
def oIsN (neg : Bool) : D2 := fun x y S post => match y with
  | .non => post (.bl (neg ^^ (match x with | .non => true | _ => false))) S
  | _ => False
theorem isNon_rel {H : Hp} {A : List Addr} : ∀ {d : D} {v : V}, RelD K H A d v → decide (v = .non) = (match d with | .non => true | _ => false)
  | .non, v, h => by
    rw [show v = .non from h]
    rfl
  | .bl b, v, h => by
    rw [show v = .bl b from h]
    rfl
  | .int i, v, h => by
    rw [show v = .int i from h]
    rfl
  | .str x, v, h => by
    rw [show v = .str x from h]
    rfl
  | .tup _, v, ⟨a, vs, e, _⟩ => by
    rw [e]
    rfl
  | .ztup _, v, ⟨a, vs, e, _⟩ => by
    rw [e]
    rfl
  | .rl _, v, ⟨a, vs, e, _⟩ => by
    rw [e]
    rfl
  | .lr _, v, ⟨a, e, _⟩ => by
    rw [e]
    rfl
  | .exc _ _ _ _, v, ⟨e, _⟩ => by
    rw [e]
    rfl
  | .opq _, v, ⟨a, e, _⟩ => by
    rw [e]
    rfl
theorem rul_isN : Rul2 K (oIsN false) (fun x y H Q => y = .non ∧ Q (.bl (decide (x = .non))) H) := by
  intro H A S d1 d2 v1 v2 post Q s r1 r2 h k
  cases d2 <;> try exact False.elim h
  cases (show v2 = .non from r2)
  exact ⟨rfl, fin_bool s k h (by rw [isNon_rel r1, Bool.false_xor])⟩
theorem rul_notN : Rul2 K (oIsN true) (fun x y H Q => y = .non ∧ Q (.bl (!decide (x = .non))) H) := by
  intro H A S d1 d2 v1 v2 post Q s r1 r2 h k
  cases d2 <;> try exact False.elim h
  cases (show v2 = .non from r2)
  exact ⟨rfl, fin_bool s k h (by rw [isNon_rel r1, Bool.true_xor])⟩

/-! ### built-ins -/
def cLen : DC := fun ds S post => ∃ x xs, ds = [x] ∧ seqOf S x xs ∧ post (.int xs.length) S
theorem rels1 {H : Hp} {A : List Addr} {d : D} {vs : List V} (r : RelDs K H A [d] vs) : ∃ v, vs = [v] ∧ RelD K H A d v := by
  obtain ⟨v, w, rfl, h1, h2⟩ := r
  exact ⟨v, by rw [show w = [] from h2], h1⟩
theorem rels2 {H : Hp} {A : List Addr} {d e : D} {vs : List V} (r : RelDs K H A [d, e] vs) : ∃ v u, vs = [v, u] ∧ RelD K H A d v ∧ RelD K H A e u := by
  obtain ⟨v, w, rfl, h1, h2⟩ := r
  obtain ⟨u, rfl, h3⟩ := rels1 h2
  exact ⟨v, u, rfl, h1, h3⟩
theorem rul_len : RulC K cLen (fun xs H Q => ∃ p ys, xs = [.ref p] ∧ (SqL K H p ys ∨ SqT K H p ys) ∧ Q (.int ys.length) H) := by
  intro H A S ds vs post Q s r hh k
  obtain ⟨x, xs, rfl, hq, h⟩ := hh
  obtain ⟨v, rfl, rv⟩ := rels1 r
  obtain ⟨a, us, rfl, hs, w⟩ := hq.rel s rv
  exact ⟨a, us, rfl, hs, by rw [w.len]; exact k.now (d := .int xs.length) s rfl h⟩
def c2I (g : Int → Int → Int) : DC := fun ds S post => ∃ i j, ds = [.int i, .int j] ∧ post (.int (g i j)) S
theorem rul_2c {g : Int → Int → Int} : RulC K (c2I g) (fun xs H Q => ∃ i j, xs = [.int i, .int j] ∧ Q (.int (g i j)) H) := by
  intro H A S ds vs post Q s r ⟨i, j, hd, h⟩ k
  subst hd
  obtain ⟨v, u, rfl, rv, ru⟩ := rels2 r
  cases (show v = .int i from rv)
  cases (show u = .int j from ru)
  exact ⟨i, j, rfl, k.now (d := .int (g i j)) s rfl h⟩
def cInt : DC := fun ds S post => (∃ i, ds = [.int i] ∧ post (.int i) S) ∨ ∃ b, ds = [.bl b] ∧ post (.int (if b then 1 else 0)) S
theorem rul_int : RulC K cInt (fun xs H Q => (∃ i, xs = [.int i] ∧ Q (.int i) H) ∨ ∃ b, xs = [.bl b] ∧ Q (.int (if b then 1 else 0)) H) := by
  intro H A S ds vs post Q s r h k
  rcases h with ⟨i, rfl, h⟩ | ⟨b, rfl, h⟩
  · obtain ⟨v, rfl, rv⟩ := rels1 r
    cases (show v = .int i from rv)
    exact .inl ⟨i, rfl, k.now (d := .int i) s rfl h⟩
  · obtain ⟨v, rfl, rv⟩ := rels1 r
    cases (show v = .bl b from rv)
    exact .inr ⟨b, rfl, k.now (d := .int (if b then 1 else 0)) s rfl h⟩
def cTuple : DC := fun ds S post => ∃ x xs, ds = [x] ∧ seqOf S x xs ∧ post (.tup xs) S
def rTupleP (K : PySem.W.Frag) : List V → Hp → VK → Prop := fun xs H Q => ∃ p ys, xs = [.ref p] ∧ ((SqL K H p ys ∧ ∀ (l : Addr) (o : Obj), H l = none → o.dict = none → Q (.ref l) (upd H l (.frz o (.tup ys)))) ∨ (SqT K H p ys ∧ Q (.ref p) H))
theorem call_tupleP {X : Cx} : CallR X (.type "tuple") (rTupleP X.K) := by
  intro pins s σ H xs us Q I r ⟨p, ys, e, h⟩
  subst e
  obtain ⟨u, rfl, rx⟩ := vals1 r
  obtain rfl : u = Value.ref p := rx
  rcases h with ⟨hq, q⟩ | ⟨hq, q⟩
  · obtain ⟨its, rv, pl, hz⟩ := I.list hq
    refine call_tuple_list pl.isList (fun h' kp => ?_) (by have := rv.length; simp only [List.size_toArray]; omega)
    have I1 : Inv X pins σ H { s with heap := h' } := I.kept (t' := s.toks) kp
    exact ⟨.ref h'.objs.size, _, laidP (s := { s with heap := h' }) (tk := s.toks) I1 (fun b o e => Heap.get?_push_of_some _ e) (Nat.le_refl _) (Heap.get?_push_size _ rfl) rv hz, rfl, q _ (obT its) (I1.hok.fresh (Nat.le_refl _)) rfl⟩
  · obtain ⟨its, rv, pl, hz⟩ := I.tuple hq
    exact call_tuple_same pl ⟨.ref p, H, I, rfl, q⟩
theorem rul_tuple : RulC K cTuple (rTupleP K) := by
  intro H A S ds vs post Q s r hh k
  obtain ⟨x, xs, rfl, hq, h⟩ := hh
  obtain ⟨v, rfl, rv⟩ := rels1 r
  by_cases ht : ∃ ds, x = .tup ds
  · obtain ⟨ds, rfl⟩ := ht
    have e : ds = xs := by simpa [seqOf] using hq
    subst e
    obtain ⟨a, us, rfl, hs, w⟩ := rv
    exact ⟨a, us, rfl, .inr ⟨hs.sq, k.now (d := .tup ds) s ⟨a, us, rfl, hs, w⟩ h⟩⟩
  · have hL : ∃ a us, v = .ref a ∧ SqL K H a us ∧ RelDs K H A xs us := by
      rcases hq with rfl | rfl | ⟨n, rfl, hn⟩
      · exact absurd ⟨_, rfl⟩ ht
      · obtain ⟨a, us, e, h2, h3⟩ := rv
        exact ⟨a, us, e, h2.sq, h3⟩
      · obtain ⟨a, e, ha⟩ := rv
        obtain ⟨us, h1, h2⟩ := s.get hn ha
        exact ⟨a, us, e, .inl (.inl h1), h2⟩
    obtain ⟨a, us, rfl, hs, w⟩ := hL
    exact ⟨a, us, rfl, .inl ⟨hs, fun l o hl ho => fin_tup s k hl ho w h⟩⟩
def cList : DC := fun ds S post => ∃ x xs, ds = [x] ∧ seqOf S x xs ∧ post (.lr S.length) (S ++ [.lst xs])
theorem rul_list : RulC K cList (fun xs H Q => ∃ p ys, xs = [.ref p] ∧ (SqL K H p ys ∨ SqT K H p ys) ∧ ∀ l, H l = none → Q (.ref l) (upd H l (.lst ys))) := by
  intro H A S ds vs post Q s r hh k
  obtain ⟨x, xs, rfl, hq, h⟩ := hh
  obtain ⟨v, rfl, rv⟩ := rels1 r
  obtain ⟨a, us, rfl, hs, w⟩ := hq.rel s rv
  exact ⟨a, us, rfl, hs, fun l hl => fin_list s k hl w h⟩
end
end DL
/-! DO: tests, statements, targets, loops, comprehensions over data. -/
namespace DL
open PySem PySem.Spec PyProof.Rows L2
variable [HasT]

/-! ### less is known -/
section
variable {K : PySem.W.Frag} {H H' : Hp} {A B : List Addr}
theorem keep_t (k : ∀ a o, H a = some o → ¬ MutO o → H' a = some o) {a : Addr} {xs : List V} (h : SqT K H a xs) : SqT K H' a xs := by
  rcases h with (h | ⟨o, h⟩) | h
  · exact .inl (.inl (k _ _ h nmut_tup))
  · exact .inl (.inr ⟨o, k _ _ h nmut_frz⟩)
  · exact .inr h
theorem keep_p (k : ∀ a o, H a = some o → ¬ MutO o → H' a = some o) {a : Addr} {xs : List V} (h : PTup K H a xs) : PTup K H' a xs := by
  rcases h with ⟨o, h, hd⟩ | h
  · exact .inl ⟨o, k _ _ h nmut_frz, hd⟩
  · exact .inr h
theorem keep_f (k : ∀ a o, H a = some o → ¬ MutO o → H' a = some o) {a : Addr} {xs : List V} (h : FixL K H a xs) : FixL K H' a xs := by
  rcases h with ⟨o, h⟩ | h
  · exact .inl ⟨o, k _ _ h nmut_frz⟩
  · exact .inr h
mutual
theorem RelD.keep (k : ∀ a o, H a = some o → ¬ MutO o → H' a = some o) : ∀ {d : D} {v : V}, RelD K H A d v → RelD K H' (A ++ B) d v
  | .non, _, h => h
  | .bl _, _, h => h
  | .int _, _, h => h
  | .str _, _, h => h
  | .tup _, _, ⟨a, vs, h1, h2, h3⟩ => ⟨a, vs, h1, keep_p k h2, RelDs.keep k h3⟩
  | .ztup _, _, ⟨a, vs, h1, h2, h3⟩ => ⟨a, vs, h1, keep_t k h2, RelDs.keep k h3⟩
  | .rl _, _, ⟨a, vs, h1, h2, h3⟩ => ⟨a, vs, h1, keep_f k h2, RelDs.keep k h3⟩
  | .lr _, _, ⟨a, h1, h2⟩ => ⟨a, h1, by
      rw [List.getElem?_append_left (List.getElem?_eq_some_iff.mp h2).1]
      exact h2⟩
  | .exc _ _ _ _, _, ⟨h1, u, h2, h3⟩ => ⟨h1, u, k _ _ h2 nmut_xd, RelD.keep k h3⟩
  | .opq _, _, ⟨a, h1, h2, h3⟩ => ⟨a, h1, h3 _ _ a (fun b o q n => k b o q n) h2, h3⟩
theorem RelDs.keep (k : ∀ a o, H a = some o → ¬ MutO o → H' a = some o) : ∀ {ds : List D} {vs : List V}, RelDs K H A ds vs → RelDs K H' (A ++ B) ds vs
  | [], _, h => h
  | _ :: _, _, ⟨v, r, h1, h2, h3⟩ => ⟨v, r, h1, RelD.keep k h2, RelDs.keep k h3⟩
end
theorem RelDs.keep0 (k : ∀ a o, H a = some o → ¬ MutO o → H' a = some o) {ds : List D} {vs : List V} (h : RelDs K H A ds vs) : RelDs K H' A ds vs := by
  have g := h.keep (B := []) k
  rwa [List.append_nil] at g
theorem RelE.keep (k : ∀ a o, H a = some o → ¬ MutO o → H' a = some o) {en : Ent} {a : Addr} (r : RelE K H A en a) (h : ∀ o, H a = some o → H' a = some o) : RelE K H' (A ++ B) en a := by
  cases en with
  | lst ds =>
    obtain ⟨vs, h1, h2⟩ := r
    exact ⟨vs, h _ h1, h2.keep k⟩
  | dct kvs =>
    obtain ⟨ws, h1, h2, h3⟩ := r
    exact ⟨ws, h _ h1, h2, h3.keep k⟩
theorem keep_upd {p : Addr} {o o' : HO} (h : H p = some o) (m : MutO o) : ∀ a u, H a = some u → ¬ MutO u → upd H p o' a = some u := fun a u q n => by
  have e : a ≠ p := fun z => by
    subst z
    rw [h] at q
    cases q
    exact n m
  rw [upd_ne e]
  exact q
/-- a thing that is not in the store is changed -/
theorem RelS.out {S : Store} (s : RelS K H A S) {p : Addr} {o o' : HO} (hp : p ∉ A) (h : H p = some o) (m : LdO o) : RelS K (upd H p o') A S := by
  refine ⟨s.len, s.nd, fun n e hn => ?_, s.tabs.step fun b u q hn => by
    rw [upd_ne fun z => hn (by rw [z, h] at q; cases q; exact m)]
    exact q⟩
  obtain ⟨a, ha, r⟩ := s.ent n e hn
  have g := r.keep (B := []) (keep_upd (o' := o') h (.inl m)) fun u q => by
    have e : a ≠ p := fun z => by
      subst z
      exact hp (List.mem_iff_getElem?.mpr ⟨n, ha⟩)
    rw [upd_ne e]
    exact q
  rw [List.append_nil] at g
  exact ⟨a, ha, g⟩
theorem RelS.push {S : Store} (s : RelS K H A S) {p : Addr} {en : Ent} (hp : p ∉ A) (r : RelE K H (A ++ [p]) en p) : RelS K H (A ++ [p]) (S ++ [en]) := by
  refine ⟨by rw [List.length_append, List.length_append, s.len]; rfl, List.nodup_append.mpr ⟨s.nd, by simp, fun a ha b hb => ?_⟩, fun n en' hn => ?_, s.tabs⟩
  · rw [List.mem_singleton.mp hb]
    intro q
    rw [q] at ha
    exact hp ha
  · by_cases hl : n < S.length
    · rw [List.getElem?_append_left hl] at hn
      obtain ⟨a, ha, r'⟩ := s.ent n en' hn
      refine ⟨a, ?_, r'.keep (fun _ _ q _ => q) fun _ q => q⟩
      rw [List.getElem?_append_left (List.getElem?_eq_some_iff.mp ha).1]
      exact ha
    · have hn' : n = S.length := by
        have q := (List.getElem?_eq_some_iff.mp hn).1
        rw [List.length_append] at q
        simp at q
        omega
      subst hn'
      rw [List.getElem?_append_right (Nat.le_refl _), Nat.sub_self] at hn
      simp at hn
      subst hn
      refine ⟨p, ?_, r⟩
      rw [s.len, List.getElem?_append_right (Nat.le_refl _), Nat.sub_self]
      rfl
theorem Ext.out {A' : List Addr} (e : Ext H A H' A') {p : Addr} {o : HO} (h : H p = none) : Ext H A (upd H' p o) A' := by
  refine ⟨e.pre, fun a u q => ?_⟩
  have n : a ≠ p := ne_of_none q h
  rw [upd_ne n]
  exact e.keep a u q
end

/-! ### forgetting what is new -/
mutual
def below (n : Nat) : D → Bool
  | .lr k => decide (k < n)
  | .tup ds => belows n ds
  | .ztup ds => belows n ds
  | .rl ds => belows n ds
  | .exc _ _ _ w => below n w
  | _ => true
def belows (n : Nat) : List D → Bool
  | [] => true
  | d :: ds => below n d && belows n ds
end
def belowE (n : Nat) : Ent → Bool
  | .lst ds => belows n ds
  | .dct kvs => belows n (kvs.map (·.2))
section
variable {K : PySem.W.Frag} {H H' : Hp} {A A' : List Addr} {n : Nat}
mutual
theorem RelD.take : ∀ {d : D} {v : V}, RelD K H A d v → below n d = true → RelD K H (A.take n) d v
  | .non, _, h, _ => h
  | .bl _, _, h, _ => h
  | .int _, _, h, _ => h
  | .str _, _, h, _ => h
  | .tup ds, _, ⟨a, vs, h1, h2, h3⟩, b => ⟨a, vs, h1, h2, RelDs.takeA h3 (by rw [below] at b; exact b)⟩
  | .ztup ds, _, ⟨a, vs, h1, h2, h3⟩, b => ⟨a, vs, h1, h2, RelDs.takeA h3 (by rw [below] at b; exact b)⟩
  | .rl ds, _, ⟨a, vs, h1, h2, h3⟩, b => ⟨a, vs, h1, h2, RelDs.takeA h3 (by rw [below] at b; exact b)⟩
  | .lr k, _, ⟨a, h1, h2⟩, b => ⟨a, h1, by
      rw [below, decide_eq_true_eq] at b
      rw [List.getElem?_take, if_pos b]
      exact h2⟩
  | .exc _ _ _ w, _, ⟨h1, u, h2, h3⟩, b => ⟨h1, u, h2, RelD.take h3 (by rw [below] at b; exact b)⟩
  | .opq _, _, h, _ => h
theorem RelDs.takeA : ∀ {ds : List D} {vs : List V}, RelDs K H A ds vs → belows n ds = true → RelDs K H (A.take n) ds vs
  | [], _, h, _ => h
  | d :: ds, _, ⟨v, r, h1, h2, h3⟩, b => by
    rw [belows, Bool.and_eq_true] at b
    exact ⟨v, r, h1, RelD.take h2 b.1, RelDs.takeA h3 b.2⟩
end
theorem RelS.take {S : Store} (s : RelS K H A S) (b : (S.take n).all (belowE n) = true) : RelS K H (A.take n) (S.take n) := by
  refine ⟨by rw [List.length_take, List.length_take, s.len], s.nd.sublist (List.take_sublist _ _), fun i e hi => ?_, s.tabs⟩
  have b' : belowE n e = true := List.all_eq_true.mp b e (List.mem_iff_getElem?.mpr ⟨i, hi⟩)
  rw [List.getElem?_take] at hi
  by_cases hin : i < n
  · rw [if_pos hin] at hi
    obtain ⟨a, ha, r⟩ := s.ent i e hi
    refine ⟨a, by rw [List.getElem?_take, if_pos hin]; exact ha, ?_⟩
    cases e with
    | lst ds =>
      obtain ⟨vs, h1, h2⟩ := r
      exact ⟨vs, h1, h2.takeA b'⟩
    | dct kvs =>
      obtain ⟨ws, h1, h2, h3⟩ := r
      exact ⟨ws, h1, h2, h3.takeA b'⟩
  · rw [if_neg hin] at hi
    cases hi
theorem Ext.take (e : Ext H A H' A') (h : A.length ≤ n) : Ext H A H' (A'.take n) := by
  obtain ⟨B, rfl, f⟩ := e.pre
  refine ⟨⟨B.take (n - A.length), ?_, fun b hb => f b (List.mem_of_mem_take hb)⟩, e.keep⟩
  rw [List.take_append, List.take_of_length_le h]
end
def dGc (te : DE) : DE := fun ρ S post => te ρ S fun d S1 => ∃ n, S.length ≤ n ∧ below n d = true ∧ (S1.take n).all (belowE n) = true ∧ post d (S1.take n)
section
variable {X : Cx} {e : Expr} {te : DE}
theorem de_gc (h : PE X e (liftE X.K te)) : PE X e (liftE X.K (dGc te)) :=
  pe_mono h fun σ H Q ⟨A, ρ, S, post, n, s, p, k⟩ => ⟨A, ρ, S, _, n, s, p, fun v1 H1 A1 d1 S1 e1 s1 r1 ⟨m, hm, b1, b2, p1⟩ =>
    k v1 H1 (A1.take m) d1 (S1.take m) (e1.take (by rw [← s.len]; exact hm)) (s1.take b2) (r1.take b1) p1⟩
end

/-! ### tests -/
def asB (d : D) (f : Bool → Prop) : Prop := match d with
  | .bl k => f k
  | _ => False
def dTest (te : DE) : DT := fun ρ S post => te ρ S fun d S1 => asB d fun k => post k S1
def dAnd (t u : DT) : DT := fun ρ S post => t ρ S fun c S1 => if c = true then u ρ S1 post else post false S1
def dOr (t u : DT) : DT := fun ρ S post => t ρ S fun c S1 => if c = true then post true S1 else u ρ S1 post
def dNot (t : DT) : DT := fun ρ S post => t ρ S fun c S1 => post (!c) S1
def dAndV (ta tb : DE) : DE := fun ρ S post => ta ρ S fun d S1 => asB d fun c => if c = true then tb ρ S1 post else post (.bl false) S1
def dOrV (ta tb : DE) : DE := fun ρ S post => ta ρ S fun d S1 => asB d fun c => if c = true then post (.bl true) S1 else tb ρ S1 post
def dNotV (ta : DE) : DE := fun ρ S post => ta ρ S fun d S1 => asB d fun c => post (.bl (!c)) S1
def dIf (t : DT) (ta tb : DE) : DE := fun ρ S post => t ρ S fun c S1 => if c = true then ta ρ S1 post else tb ρ S1 post
section
variable {X : Cx} {pos : Pos} {a b : Expr} {rest : List Expr} {te ta tb : DE} {t u : DT}
theorem asB_elim {K : PySem.W.Frag} {H : Hp} {A : List Addr} {d : D} {v : V} {f : Bool → Prop} (r : RelD K H A d v) (h : asB d f) : ∃ k, v = .bl k ∧ d = .bl k ∧ f k := by
  cases d <;> try exact False.elim h
  rename_i k
  exact ⟨k, r, rfl, h⟩
theorem lift_test {K : PySem.W.Frag} {σ : L2.St} {H : Hp} {Q : Bool → Hp → Prop} : liftT K (dTest te) σ H Q → liftE K te σ H (fun x H' => ∃ k, x = .bl k ∧ Q k H') := by
  rintro ⟨A, ρ, S, post, n, s, p, k⟩
  refine ⟨A, ρ, S, _, n, s, p, fun v1 H1 A1 d1 S1 e1 s1 r1 p1 => ?_⟩
  obtain ⟨c, rfl, rfl, h⟩ := asB_elim r1 p1
  exact ⟨c, rfl, k c H1 A1 S1 e1 s1 h⟩
theorem dt_cmp {op : CmpOp} {rd : D2} {r : R2} (ho : OpR X (compareOp op) r) (hr : Rul2 X.K rd r) (ha : PE X a (liftE X.K ta)) (hb : PE X b (liftE X.K tb)) (hm : behindInMarks op b = false) : PT X (.Compare a [op] [b] pos) (liftT X.K (dTest (dOp rd ta tb))) :=
  pt_mono (pt_cmpR ho ha hb hm) fun _ _ _ h => lift_op hr (Q := fun x H' => ∃ k, x = .bl k ∧ _) (lift_test h)
theorem dt_val {e : Expr} (h : PE X e (liftE X.K te)) (he : ∀ whole, isTrue e X.env whole = (do let v ← whole; standAt e.pos; holding [v] (truthy v)) := by intro _; rfl) : PT X e (liftT X.K (dTest te)) :=
  pt_mono (pt_val h he) fun _ _ _ h => lift_test h
theorem dt_not (h : PT X a (liftT X.K t)) : PT X (.UnaryOp .Not a pos) (liftT X.K (dNot t)) :=
  pt_mono (pt_not h) fun σ H Q ⟨A, ρ, S, post, n, s, p, k⟩ => ⟨A, ρ, S, _, n, s, p, fun c H1 A1 S1 e1 s1 p1 => k (!c) H1 A1 S1 e1 s1 p1⟩
theorem dw_and1 (h : PT X a (liftT X.K t)) : PW X (.BoolOp .And [a] pos) (liftT X.K t) := pw_and1 h
theorem dw_or1 (h : PT X a (liftT X.K t)) : PW X (.BoolOp .Or [a] pos) (liftT X.K t) := pw_or1 h
theorem dw_and (h : PT X a (liftT X.K t)) (g : PW X (.BoolOp .And (b :: rest) pos) (liftT X.K u)) : PW X (.BoolOp .And (a :: b :: rest) pos) (liftT X.K (dAnd t u)) :=
  pw_mono (pw_and h g) fun σ H Q ⟨A, ρ, S, post, n, s, p, k⟩ => ⟨A, ρ, S, _, n, s, p, fun c H1 A1 S1 e1 s1 p1 => by
    cases c with
    | true => exact ⟨A1, ρ, S1, post, n.ext e1, s1, p1, fun c2 H2 A2 S2 e2 s2 p2 => k c2 H2 A2 S2 (e1.trans e2) s2 p2⟩
    | false => exact k false H1 A1 S1 e1 s1 p1⟩
theorem dw_or (h : PT X a (liftT X.K t)) (g : PW X (.BoolOp .Or (b :: rest) pos) (liftT X.K u)) : PW X (.BoolOp .Or (a :: b :: rest) pos) (liftT X.K (dOr t u)) :=
  pw_mono (pw_or h g) fun σ H Q ⟨A, ρ, S, post, n, s, p, k⟩ => ⟨A, ρ, S, _, n, s, p, fun c H1 A1 S1 e1 s1 p1 => by
    cases c with
    | true => exact k true H1 A1 S1 e1 s1 p1
    | false => exact ⟨A1, ρ, S1, post, n.ext e1, s1, p1, fun c2 H2 A2 S2 e2 s2 p2 => k c2 H2 A2 S2 (e1.trans e2) s2 p2⟩⟩
theorem de_one {op} (h : PE X a (liftE X.K ta)) : PE X (.BoolOp op [a] pos) (liftE X.K ta) := pe_one h
theorem de_and (ha : PE X a (liftE X.K ta)) (hb : PE X (.BoolOp .And (b :: rest) pos) (liftE X.K tb)) : PE X (.BoolOp .And (a :: b :: rest) pos) (liftE X.K (dAndV ta tb)) :=
  pe_mono (pe_and ha hb) fun σ H Q ⟨A, ρ, S, post, n, s, p, k⟩ => ⟨A, ρ, S, _, n, s, p, fun v1 H1 A1 d1 S1 e1 s1 r1 p1 => by
    obtain ⟨c, rfl, rfl, h⟩ := asB_elim r1 p1
    refine ⟨c, rfl, ?_⟩
    cases c with
    | true => exact ⟨A1, ρ, S1, post, n.ext e1, s1, h, k.go e1⟩
    | false => exact (k.go e1).now (d := .bl false) s1 rfl h⟩
theorem de_or (ha : PE X a (liftE X.K ta)) (hb : PE X (.BoolOp .Or (b :: rest) pos) (liftE X.K tb)) : PE X (.BoolOp .Or (a :: b :: rest) pos) (liftE X.K (dOrV ta tb)) :=
  pe_mono (pe_or ha hb) fun σ H Q ⟨A, ρ, S, post, n, s, p, k⟩ => ⟨A, ρ, S, _, n, s, p, fun v1 H1 A1 d1 S1 e1 s1 r1 p1 => by
    obtain ⟨c, rfl, rfl, h⟩ := asB_elim r1 p1
    refine ⟨c, rfl, ?_⟩
    cases c with
    | false => exact ⟨A1, ρ, S1, post, n.ext e1, s1, h, k.go e1⟩
    | true => exact (k.go e1).now (d := .bl true) s1 rfl h⟩
theorem de_not (ha : PE X a (liftE X.K ta)) : PE X (.UnaryOp .Not a pos) (liftE X.K (dNotV ta)) :=
  pe_mono (pe_not ha) fun σ H Q ⟨A, ρ, S, post, n, s, p, k⟩ => ⟨A, ρ, S, _, n, s, p, fun v1 H1 A1 d1 S1 e1 s1 r1 p1 => by
    obtain ⟨c, rfl, rfl, h⟩ := asB_elim r1 p1
    exact ⟨c, rfl, (k.go e1).now (d := .bl (!c)) s1 rfl h⟩⟩
theorem de_ifExp {c : Expr} (hc : PT X c (liftT X.K t)) (ha : PE X a (liftE X.K ta)) (hb : PE X b (liftE X.K tb)) : PE X (.IfExp c a b pos) (liftE X.K (dIf t ta tb)) :=
  pe_mono (pe_ifExp hc ha hb) fun σ H Q ⟨A, ρ, S, post, n, s, p, k⟩ => ⟨A, ρ, S, _, n, s, p, fun c H1 A1 S1 e1 s1 p1 => by
    cases c with
    | true => exact ⟨A1, ρ, S1, post, n.ext e1, s1, p1, k.go e1⟩
    | false => exact ⟨A1, ρ, S1, post, n.ext e1, s1, p1, k.go e1⟩⟩
end

/-! ### targets -/
def KontG (K : PySem.W.Frag) (H : Hp) (A : List Addr) (σ : L2.St) (ws : List Nat) (post : DEnv → Store → Prop) (Q : L2.St → Hp → Prop) : Prop :=
  ∀ σ' H' A' ρ' S', Ext H A H' A' → RelN K H' A' ρ' σ' → RelS K H' A' S' → (∀ vs : List Nat, (∀ i ∈ ws, i ∈ vs) → wipe σ' vs = wipe σ vs) → post ρ' S' → Q σ' H'
def liftW (K : PySem.W.Frag) (ws : List Nat) (g : DG) : TG := fun v σ H Q => ∃ A ρ S d post, RelN K H A ρ σ ∧ RelS K H A S ∧ RelD K H A d v ∧ g d ρ S post ∧ KontG K H A σ ws post Q
def liftWs (K : PySem.W.Frag) (ws : List Nat) (g : DGs) : TGs := fun vs σ H Q => ∃ A ρ S ds post, RelN K H A ρ σ ∧ RelS K H A S ∧ RelDs K H A ds vs ∧ g ds ρ S post ∧ KontG K H A σ ws post Q
theorem wipe_set (σ : L2.St) (i : Nat) (x : Option V) : ∀ vs : List Nat, i ∈ vs → wipe (σ.set i x) vs = wipe σ vs
  | v :: vs, h => by
    show (wipe (σ.set i x) vs).set v none = (wipe σ vs).set v none
    by_cases hi : i ∈ vs
    · rw [wipe_set σ i x vs hi]
    · have e : i = v := by
        rcases List.mem_cons.mp h with e | e
        · exact e
        · exact absurd e hi
      subst e
      have out : ∀ (vs : List Nat), i ∉ vs → wipe (σ.set i x) vs = (wipe σ vs).set i x := by
        intro vs
        induction vs with
        | nil => intro _; rfl
        | cons u us ih =>
          intro hu
          have h1 : i ≠ u := fun z => hu (by rw [z]; exact List.mem_cons_self)
          have h2 : i ∉ us := fun z => hu (List.mem_cons_of_mem _ z)
          show (wipe (σ.set i x) us).set u none = ((wipe σ us).set u none).set i x
          rw [ih h2, List.set_comm _ _ h1]
      rw [out vs hi, List.set_set]
def gName (i : Nat) : DG := fun d ρ S post => post (ρ.set i (some d)) S
def gTup (n : Nat) (gs : DGs) : DG := fun d ρ S post => ∃ ds, (d = .tup ds ∨ d = .ztup ds) ∧ ds.length = n ∧ gs ds ρ S post
def gNil : DGs := fun ds ρ S post => ds = [] ∧ post ρ S
def gCons (g : DG) (gs : DGs) : DGs := fun ds ρ S post => ∃ d r, ds = d :: r ∧ g d ρ S fun ρ1 S1 => gs r ρ1 S1 post
def gSub (to ti : DE) (st : DSet) : DG := fun d ρ S post => to ρ S fun o S1 => ti ρ S1 fun i S2 => st o i d S2 fun S3 => post ρ S3
def setSeq : DSet := fun o i d S post => ∃ (n : Nat) (ds : List D) (k : Int) (j : Nat), o = .lr n ∧ S[n]? = some (.lst ds) ∧ i = .int k ∧ ixN ds.length k = some j ∧ post (S.set n (.lst (ds.set j d)))
section
variable {X : Cx} {pos : Pos}
theorem dg_name (i : Nat) {x : Str} (hN : X.N.Nodup) (hi : X.N[i]? = some x := by rfl) (hx : Loc X.env.scope x := by first | exact Or.inl rfl | exact Or.inr rfl) (hf : X.fn x = true ∨ X.env.scope.names.lookup x = some .local := by first | exact .inl rfl | exact .inr rfl) : PG X (.Name x pos) (liftW X.K [i] (gName i)) :=
  pg_mono (pg_name hN hi hx hf) fun v σ H Q ⟨A, ρ, S, d, post, n, s, r, p, k⟩ => k _ H A _ S Ext.refl (n.set i r) s (fun vs h => wipe_set σ i _ vs (h i (by simp))) p
theorem dgs_nil : PGs X [] (liftWs X.K [] gNil) :=
  pgs_mono pgs_nil fun vs σ H Q ⟨A, ρ, S, ds, post, n, s, r, ⟨e, p⟩, k⟩ => by
    subst e
    exact ⟨r, k _ H A _ S Ext.refl n s (fun _ _ => rfl) p⟩
theorem dgs_cons {e : Expr} {es : List Expr} {g : DG} {gs : DGs} {w1 w2 : List Nat} (h1 : PG X e (liftW X.K w1 g)) (h2 : PGs X es (liftWs X.K w2 gs))
    (hs : (assignEach (e :: es) X.env).map (·.2) = assign e X.env :: (assignEach es X.env).map (·.2) := by rfl) : PGs X (e :: es) (liftWs X.K (w1 ++ w2) (gCons g gs)) :=
  pgs_mono (pgs_cons h1 h2 hs) fun vs σ H Q ⟨A, ρ, S, ds, post, n, s, r, ⟨d, rr, e, p⟩, k⟩ => by
    subst e
    obtain ⟨v, vr, rfl, r1, r2⟩ := r
    refine ⟨v, vr, rfl, A, ρ, S, d, _, n, s, r1, p, fun σ1 H1 A1 ρ1 S1 e1 n1 s1 hw p1 => ?_⟩
    refine ⟨A1, ρ1, S1, rr, post, n1, s1, r2.ext e1, p1, fun σ2 H2 A2 ρ2 S2 e2 n2 s2 hw2 p2 => ?_⟩
    exact k σ2 H2 A2 ρ2 S2 (e1.trans e2) n2 s2 (fun us h => (hw2 us fun i hi => h i (List.mem_append_right _ hi)).trans (hw us fun i hi => h i (List.mem_append_left _ hi))) p2
theorem dg_tup {es : List Expr} {k : Nat} {gs : DGs} {n : Nat} {ws : List Nat} (hc : X.calm = true) (h : PGs X es (liftWs X.K ws gs)) (hn : (assignEach es X.env).length = n := by rfl) (hst : (assignEach es X.env).findIdx? (·.1) = none := by rfl) :
    PG X (.Tuple es k pos) (liftW X.K ws (gTup n gs)) :=
  pg_mono (pg_tup hc h hn hst) fun v σ H Q ⟨A, ρ, S, d, post, nn, s, r, ⟨ds, e, hl, p⟩, kk⟩ => by
    have hr : ∃ a vs, v = .ref a ∧ SqT X.K H a vs ∧ RelDs X.K H A ds vs := by
      rcases e with rfl | rfl
      · obtain ⟨a, vs, q, h2, h3⟩ := r
        exact ⟨a, vs, q, h2.sq, h3⟩
      · exact r
    obtain ⟨a, vs, rfl, h2, h3⟩ := hr
    exact ⟨a, vs, rfl, h2, by rw [h3.len]; exact hl, A, ρ, S, ds, post, nn, s, h3, p, kk⟩
theorem dg_sub {o i : Expr} {to ti : DE} {st : DSet} {t : TSet} (ho : PE X o (liftE X.K to)) (hi : PE X i (liftE X.K ti)) (hs : PSet X t) (hr : RulSet X.K st t)
    (ha : ∀ v, assign (.Subscript o i pos) X.env v = (do
      let ov ← holding [v] (eval o X.env)
      let iv ← holding [v, ov] (eval i X.env)
      standAt pos
      holding [v, ov, iv] (setItem ov iv v)
      release [v, ov, iv] []) := by intro _; rfl) : PG X (.Subscript o i pos) (liftW X.K [] (gSub to ti st)) :=
  pg_mono (pg_sub ho hi hs ha) fun v σ H Q ⟨A, ρ, S, d, post, n, s, r, p, k⟩ => ⟨A, ρ, S, _, n, s, p, fun v1 H1 A1 d1 S1 e1 s1 r1 p1 => ⟨A1, ρ, S1, _, n.ext e1, s1, p1, fun v2 H2 A2 d2 S2 e2 s2 r2 p2 =>
    hr H2 A2 S2 d1 d2 d v1 v2 v _ _ s2 (r1.ext e2) r2 (r.ext (e1.trans e2)) p2 fun H3 A3 S3 e3 s3 p3 => k σ H3 A3 ρ S3 ((e1.trans e2).trans e3) (n.ext ((e1.trans e2).trans e3)) s3 (fun _ _ => rfl) p3⟩⟩
theorem rul_set {K : PySem.W.Frag} : RulSet K setSeq rSetL := by
  intro H A S o i d ov iv v post Q s ro ri r h k
  obtain ⟨n, ds, j, m, rfl, hn, rfl, hm, p⟩ := h
  obtain ⟨a, rfl, ha⟩ := ro
  cases (show iv = .int j from ri)
  obtain ⟨vs, h1, h2⟩ := s.get hn ha
  have hp : a ∈ A := List.mem_iff_getElem?.mpr ⟨n, ha⟩
  have m1 : LdO (.lst vs) := .inl ⟨_, rfl⟩
  have m2 : LdO (.lst (vs.set m v)) := .inl ⟨_, rfl⟩
  have e : Ext H A (upd H a (.lst (vs.set m v))) A := ext_set (S := S) hp h1 m1 m2
  exact ⟨a, vs, j, m, rfl, rfl, h1, by rw [h2.len]; exact hm, k _ A _ e (s.set (en := .lst (ds.set m d)) ha h1 m1 m2 ⟨_, upd_same, (h2.ext e).set m (r.ext e)⟩) p⟩
end

/-! ### statements -/
def dNext : DS := fun E ρ S => E.nx ρ S
def dSeq (t u : DS) : DS := fun E ρ S => t { E with nx := u E } ρ S
def dRet (te : DE) : DS := fun E ρ S => te ρ S E.rt
def dRetN : DS := fun E _ S => E.rt .non S
def dDrop (te : DE) : DS := fun E ρ S => te ρ S fun _ S1 => E.nx ρ S1
def dIfS (c : DT) (t u : DS) : DS := fun E ρ S => c ρ S fun b S1 => if b = true then t E ρ S1 else u E ρ S1
def dAsg (te : DE) (g : DG) : DS := fun E ρ S => te ρ S fun d S1 => g d ρ S1 E.nx
def dApp (to te : DE) : DE := fun ρ S post => to ρ S fun o S1 => (∃ (n : Nat) (ds : List D), o = .lr n ∧ S1[n]? = some (.lst ds)) ∧ te ρ S1 fun d S2 => ∃ (n : Nat) (ds : List D), o = .lr n ∧ S2[n]? = some (.lst ds) ∧ ds.length ≤ 100000 ∧ post .non (S2.set n (.lst (ds ++ [d])))
section
variable {W : WX} {X : Cx} {st : Stmt} {rest : List Stmt} {t u : DS} {e : Expr} {te : DE} {pos : Pos}
theorem dss_nil : PSs X [] (liftS X.K W dNext) := pss_mono pss_nil fun Dn σ H ⟨A, ρ, S, E, n, s, h, k1, k2, k3, k4⟩ => k1.now n s h
theorem dss_cons (h1 : PS X st (liftS X.K W t)) (h2 : PSs X rest (liftS X.K W u)) : PSs X (st :: rest) (liftS X.K W (dSeq t u)) :=
  pss_mono (pss_cons h1 h2) fun Dn σ H ⟨A, ρ, S, E, n, s, h, k1, k2, k3, k4⟩ => ⟨A, ρ, S, { E with nx := u E }, n, s, h, fun σ' H' A' ρ' S' e n' s' p => ⟨A', ρ', S', E, n', s', p, k1.go e, k2.go e, k3.go e, k4.go e⟩, k2, k3, ⟨k4.ct, k4.ex⟩⟩
theorem dss_one (h1 : PS X st (liftS X.K W t)) : PSs X [st] (liftS X.K W t) := pss_one h1
theorem ds_pass : PS X (.Pass pos) (liftS X.K W dNext) := ps_mono ps_pass fun Dn σ H ⟨A, ρ, S, E, n, s, h, k1, k2, k3, k4⟩ => k1.now n s h
theorem ds_ret (he : PE X e (liftE X.K te)) : PS X (.Return (some e) pos) (liftS X.K W (dRet te)) :=
  ps_mono (ps_ret he) fun Dn σ H ⟨A, ρ, S, E, n, s, h, k1, k2, k3, k4⟩ => ⟨A, ρ, S, E.rt, n, s, h, k2⟩
theorem ds_retN : PS X (.Return none pos) (liftS X.K W dRetN) := ps_mono ps_retN fun Dn σ H ⟨A, ρ, S, E, n, s, h, k1, k2, k3, k4⟩ => k2.now (d := .non) s rfl h
theorem ds_expr (he : PE X e (liftE X.K te)) (hs : swapsWith e none pos.line X.env = pure false := by rfl) : PS X (.Expr e pos) (liftS X.K W (dDrop te)) :=
  ps_mono (ps_expr he hs) fun Dn σ H ⟨A, ρ, S, E, n, s, h, k1, k2, k3, k4⟩ => ⟨A, ρ, S, _, n, s, h, fun v H' A' d S' e s' r p => k1 σ H' A' ρ S' e (n.ext e) s' p⟩
theorem ds_if {c : Expr} {a b : List Stmt} {tc : DT} (hc : PT X c (liftT X.K tc)) (ha : PSs X a (liftS X.K W t)) (hb : PSs X b (liftS X.K W u)) : PS X (.If c a b pos) (liftS X.K W (dIfS tc t u)) :=
  ps_mono (ps_if hc ha hb) fun Dn σ H ⟨A, ρ, S, E, n, s, h, k1, k2, k3, k4⟩ => ⟨A, ρ, S, _, n, s, h, fun b H' A' S' e s' p => by
    cases b with
    | true => exact ⟨A', ρ, S', E, n.ext e, s', p, k1.go e, k2.go e, k3.go e, k4.go e⟩
    | false => exact ⟨A', ρ, S', E, n.ext e, s', p, k1.go e, k2.go e, k3.go e, k4.go e⟩⟩
theorem lift_asg {W : WX} {K : PySem.W.Frag} {g : DG} {ws : List Nat} {Dn : Ends} {σ : L2.St} {H : Hp} : liftS K W (dAsg te g) Dn σ H → tAsg (liftE K te) (liftW K ws g) Dn σ H := by
  rintro ⟨A, ρ, S, E, n, s, h, k1, k2, k3, k4⟩
  exact ⟨A, ρ, S, _, n, s, h, fun v H' A' d S' e s' r p => ⟨A', ρ, S', d, E.nx, n.ext e, s', r, p, fun σ2 H2 A2 ρ2 S2 e2 n2 s2 _ p2 => k1 σ2 H2 A2 ρ2 S2 (e.trans e2) n2 s2 p2⟩⟩
theorem ds_asg {tg : Expr} {g : DG} {ws : List Nat} (he : PE X e (liftE X.K te)) (hg : PG X tg (liftW X.K ws g)) (hs : swapsWithSole [tg] e pos.line X.env = pure false := by rfl) (hw : swappedStores [tg] e X.env = pure none := by rfl)
    (h1 : (assignEach [tg] X.env).map (·.2) = [assign tg X.env] := by rfl) : PS X (.Assign [tg] e pos) (liftS X.K W (dAsg te g)) :=
  ps_mono (ps_asg he hg hs hw h1) fun _ _ _ h => lift_asg h
theorem ds_set (i : Nat) {x : Str} {pos' : Pos} (hN : X.N.Nodup) (he : PE X e (liftE X.K te)) (hi : X.N[i]? = some x := by rfl) (hx : Loc X.env.scope x := by first | exact Or.inl rfl | exact Or.inr rfl) (hs : swapsWith e (some (.Name x pos')) pos.line X.env = pure false := by rfl)
    (hf : X.fn x = true ∨ X.env.scope.names.lookup x = some .local := by first | exact .inl rfl | exact .inr rfl) : PS X (.Assign [.Name x pos'] e pos) (liftS X.K W (dAsg te (gName i))) :=
  ps_mono (ps_set hN hi hx he hs hf) fun Dn σ H ⟨A, ρ, S, E, n, s, h, k1, k2, k3, k4⟩ =>
    ⟨A, ρ, S, _, n, s, h, fun v H' A' d S' e s' r p => k1 _ H' A' _ S' e ((n.ext e).set i r) s' p⟩
theorem de_app {o a : Expr} {apos cpos : Pos} {to ta : DE} (ho : PE X o (liftE X.K to)) (ha : PE X a (liftE X.K ta)) (hbase : attributeBase o "append" X.env (eval o X.env) = eval o X.env := by rfl)
    (hfew : ((backTo cpos (starEach [a] X.env)).all (fun x => !x.1) && (backToKw cpos (keywordEach [] X.env)).all (fun x => x.1.isSome)
      && decide ([a].length + ([] : List Keyword).length + (if ([] : List Keyword).isEmpty then 0 else 1) < 30)) = true := by rfl)
    (hline : (apos.endLine == cpos.line) = true := by rfl) (hs : starEach [a] X.env = (false, eval a X.env) :: starEach [] X.env := by rfl) (hplain : (backTo cpos (starEach [] X.env)).any (·.1) = false := by rfl) :
    PE X (.Call (.Attribute o "append" apos) [a] [] cpos) (liftE X.K (dApp to ta)) := by
  refine pe_mono (pe_bm PySem.F.plainAttrs_list PySem.F.slot_list_append PySem.F.type_list_append mt_append ho (pa_cons ha pa_nil hs) hbase hfew hline hs hplain) ?_
  rintro σ H Q ⟨A, ρ, S, post, n, s, p, k⟩
  refine ⟨A, ρ, S, _, n, s, p, fun v1 H1 A1 d1 S1 e1 s1 r1 ⟨⟨m0, ds0, eq0, hm0⟩, p1⟩ => ?_⟩
  subst eq0
  obtain ⟨a1, rfl, ha1⟩ := r1
  obtain ⟨vs0, g1, w1⟩ := s1.get hm0 ha1
  refine ⟨.inl ⟨rfl, vs0, .inl (.inl g1)⟩, A1, ρ, S1, _, n.ext e1, s1, p1, fun v2 H2 A2 d2 S2 e2 s2 r2 ⟨m, ds, eqm, hm, hl, p2⟩ => ?_⟩
  cases eqm
  have ha2 := e2.at_ ha1
  obtain ⟨vs, h1, h2⟩ := s2.get hm ha2
  have hp : a1 ∈ A2 := List.mem_iff_getElem?.mpr ⟨m0, ha2⟩
  have q1 : LdO (.lst vs) := .inl ⟨_, rfl⟩
  have q2 : LdO (.lst (vs ++ [v2])) := .inl ⟨_, rfl⟩
  have e3 : Ext H2 A2 (upd H2 a1 (.lst (vs ++ [v2]))) A2 := ext_set (S := S2) hp h1 q1 q2
  exact ⟨a1, vs, v2, rfl, rfl, h1, by rw [h2.len]; exact lt_line hl, k .non _ A2 .non _ ((e1.trans e2).trans e3) (s2.set (en := .lst (ds ++ [d2])) ha2 h1 q1 q2 ⟨_, upd_same, (h2.ext e3).append (RelDs.one (r2.ext e3))⟩) rfl p2⟩
end
end DL
/-! DP: what is walked, loops, comprehensions; calls of own defs, a def's promise. -/
namespace DL
open PySem PySem.Spec PyProof.Rows L2
variable [HasT]

/-- the iterator J gives xs, wherever C holds of the store -/
def ItOk (K : PySem.W.Frag) (J : It) (H' : Hp) (A' : List Addr) (xs : List D) (C : Store → Prop) : Prop :=
  ∀ H2 A2 S2, Ext H' A' H2 A2 → RelS K H2 A2 S2 → C S2 → J.stop xs.length H2 ∧ ∀ (i : Nat) (d : D), xs[i]? = some d → J.go i H2 ∧ ∀ x H3, J.yld i H2 x H3 → (∀ a o, H2 a = some o → H3 a = some o) ∧ RelD K H3 A2 d x
def liftI (K : PySem.W.Frag) (w : DIt) : TI := fun σ H R => ∃ A ρ S post, RelN K H A ρ σ ∧ RelS K H A S ∧ w ρ S post ∧
  ∀ J H' A' xs C S', Ext H A H' A' → RelS K H' A' S' → ItOk K J H' A' xs C → post xs C S' → R J H'
/-- anything that holds items -/
def wSeq (te : DE) : DIt := fun ρ S post => te ρ S fun d S1 => ∃ xs, seqOf S1 d xs ∧ post xs (fun S2 => seqOf S2 d xs) S1
def upTo (lo : Int) (n : Nat) : List D := (List.range n).map fun (i : Nat) => D.int (lo + (i : Int))
def wRng1 (t : DA) : DIt := fun ρ S post => t ρ S fun ds S1 => ∃ j, ds = [.int j] ∧ -1000000 ≤ j ∧ j ≤ 1000000 ∧ post (upTo 0 j.toNat) (fun _ => True) S1
def wRng2 (t : DA) : DIt := fun ρ S post => t ρ S fun ds S1 => ∃ i j, ds = [.int i, .int j] ∧ -1000000 ≤ i ∧ i ≤ 1000000 ∧ -1000000 ≤ j ∧ j ≤ 1000000 ∧ post (upTo i (j - i).toNat) (fun _ => True) S1
theorem upTo_len (lo : Int) (n : Nat) : (upTo lo n).length = n := by simp [upTo]
theorem upTo_get {lo : Int} {n i : Nat} {d : D} (h : (upTo lo n)[i]? = some d) : i < n ∧ d = .int (lo + (i : Int)) := by
  unfold upTo at h
  rw [List.getElem?_map] at h
  cases q : (List.range n)[i]? with
  | none =>
    rw [q] at h
    cases h
  | some k =>
    rw [q] at h
    obtain ⟨h1, h2⟩ := List.getElem?_eq_some_iff.mp q
    rw [List.getElem_range] at h2
    rw [List.length_range] at h1
    subst h2
    exact ⟨h1, (Option.some.inj h).symm⟩
section
variable {K : PySem.W.Frag} {H : Hp} {A : List Addr}
theorem itok_tup {a : Addr} {vs : List V} {xs : List D} {C : Store → Prop} (h : SqT K H a vs) (r : RelDs K H A xs vs) : ItOk K (Itt K a) H A xs C := by
  intro H2 A2 S2 e s hc
  have h2 := ext_t e h
  have r2 := r.ext e
  refine ⟨⟨vs, h2, by rw [r2.len]; exact Nat.le_refl _⟩, fun i d hd => ?_⟩
  obtain ⟨v, hv, rv⟩ := r2.get hd
  refine ⟨⟨vs, v, h2, hv⟩, fun x H3 ⟨e3, f⟩ => ?_⟩
  subst e3
  refine ⟨fun _ _ q => q, ?_⟩
  have ev := f vs h2
  rw [hv] at ev
  cases ev
  exact rv
theorem itok_list {x : D} {a : Addr} {xs : List D} (rx : RelD K H A x (.ref a)) (hx : ∀ ds, x ≠ .tup ds) : ItOk K (Itl K a) H A xs fun S2 => seqOf S2 x xs := by
  intro H2 A2 S2 e s hc
  have rx2 := rx.ext e
  have q : ∃ vs, SqL K H2 a vs ∧ RelDs K H2 A2 xs vs := by
    rcases hc with rfl | rfl | ⟨n, rfl, hn⟩
    · exact absurd rfl (hx _)
    · obtain ⟨a', vs, e', h2, h3⟩ := rx2
      cases e'
      exact ⟨vs, h2.sq, h3⟩
    · obtain ⟨a', e', ha⟩ := rx2
      cases e'
      obtain ⟨vs, h1, h2⟩ := s.get hn ha
      exact ⟨vs, .inl (.inl h1), h2⟩
  obtain ⟨vs, h2, r2⟩ := q
  refine ⟨⟨vs, h2, by rw [r2.len]; exact Nat.le_refl _⟩, fun i d hd => ?_⟩
  obtain ⟨v, hv, rv⟩ := r2.get hd
  refine ⟨⟨vs, v, h2, hv⟩, fun x H3 ⟨e3, f⟩ => ?_⟩
  subst e3
  refine ⟨fun _ _ q => q, ?_⟩
  have ev := f vs h2
  rw [hv] at ev
  cases ev
  exact rv
theorem itok_rng {lo : Int} {n : Nat} {C : Store → Prop} : ItOk K (Itr lo n) H A (upTo lo n) C := by
  intro H2 A2 S2 e s hc
  refine ⟨Nat.le_of_eq (upTo_len lo n).symm, fun i d hd => ?_⟩
  obtain ⟨hi, rfl⟩ := upTo_get hd
  refine ⟨hi, fun x H3 ⟨e3, f⟩ => ?_⟩
  subst e3
  exact ⟨fun _ _ q => q, f⟩
end
section
variable {X : Cx} {tg : Expr}
theorem di_seq {l : Expr} {te : DE} (hl : PE X l (liftE X.K te)) : PI X tg l (liftI X.K (wSeq te)) := by
  refine ⟨fun pins s σ H R I ⟨A, ρ, S, post, n, rs, p, k⟩ => ?_⟩
  refine thn (hl.run pins s σ H (fun v H1 => ∃ a d A1 S1 xs, v = .ref a ∧ Ext H A H1 A1 ∧ RelS X.K H1 A1 S1 ∧ RelD X.K H1 A1 d v ∧ seqOf S1 d xs ∧ post xs (fun S2 => seqOf S2 d xs) S1) I ⟨A, ρ, S, _, n, rs, p, fun v H1 A1 d S1 e s1 r ⟨xs, hq, p1⟩ => ?_⟩) fun v s1 ⟨x, H1, I1, r1, q1⟩ => ?_
  · obtain ⟨a, vs, rfl, _⟩ := hq.rel s1 r
    exact ⟨a, d, A1, S1, xs, rfl, e, s1, r, hq, p1⟩
  · obtain ⟨a, d, A1, S1, xs, rfl, e, rs1, r, hq, p1⟩ := q1
    cases r1
    have fresh : ∀ b ∈ [s1.heap.objs.size], FpOk X pins H1 b := fun b hb => by
      rw [List.mem_singleton.mp hb]
      exact I1.fpOk (Nat.le_refl _) (I1.hok.fresh (Nat.le_refl _))
    by_cases ht : ∃ ds, d = .tup ds
    · obtain ⟨ds, rfl⟩ := ht
      have hds : xs = ds := by
        rcases hq with h | h | ⟨_, h, _⟩
        · exact (D.tup.inj h).symm
        · cases h
        · cases h
      subst hds
      obtain ⟨a', vs, e', h2, h3⟩ := r
      cases e'
      obtain ⟨its, rv, p', hz⟩ := I1.tuple h2.sq
      refine wpAny_pyIter_tuple (show s1.heap.IsTuple a its.toArray from p') ?_
      exact ⟨s1.heap.objs.size, [s1.heap.objs.size], _, Itt X.K a, H1, rfl, I1.kept (t' := s1.toks) (fun b o e => Heap.get?_push_of_some _ e), turn_tuple a _, ⟨_, Heap.get?_push_size _ rfl, rfl, rfl⟩, fresh,
        k _ H1 A1 xs _ S1 e rs1 (itok_tup h2.sq h3) p1⟩
    · have hx : ∀ ds, d ≠ .tup ds := fun ds z => ht ⟨ds, z⟩
      have ok := itok_list (xs := xs) r hx
      obtain ⟨a', vs, e', hs, h3⟩ := hq.rel rs1 r
      cases e'
      have hl' : SqL X.K H1 a vs := by
        rcases hq with h | rfl | ⟨m, rfl, hm⟩
        · exact absurd h (hx _)
        · obtain ⟨a2, vs2, e2, g2, g3⟩ := r
          cases e2
          rcases hs with hs | hs
          · exact hs
          · obtain ⟨its, _, p1', _⟩ := I1.list g2.sq
            obtain ⟨its', _, p2', _⟩ := I1.tuple hs
            obtain ⟨o, nn, q1, q2, _⟩ := p1'
            obtain ⟨o', q1', q2', _⟩ := p2'
            rw [q1] at q1'
            cases q1'
            rw [q2] at q2'
            exact absurd (Value.type.inj q2') (by decide)
        · obtain ⟨a2, e2, ha⟩ := r
          cases e2
          rcases hs with hs | hs
          · exact hs
          · obtain ⟨us, g1, _⟩ := rs1.get hm ha
            obtain ⟨its, _, p1', _⟩ := I1.list (.inl (.inl g1) : SqL X.K H1 a us)
            obtain ⟨its', _, p2', _⟩ := I1.tuple hs
            obtain ⟨o, nn, q1, q2, _⟩ := p1'
            obtain ⟨o', q1', q2', _⟩ := p2'
            rw [q1] at q1'
            cases q1'
            rw [q2] at q2'
            exact absurd (Value.type.inj q2') (by decide)
      obtain ⟨its, rv, p', hz⟩ := I1.list hl'
      refine wpAny_pyIter_list p'.isList ?_
      exact ⟨s1.heap.objs.size, [s1.heap.objs.size], _, Itl X.K a, H1, rfl, I1.kept (t' := s1.toks) (fun b o e => Heap.get?_push_of_some _ e), turn_list a _, ⟨_, Heap.get?_push_size _ rfl, rfl, rfl⟩, fresh,
        k _ H1 A1 xs _ S1 e rs1 ok p1⟩
theorem rng_small {j : Int} (h1 : -1000000 ≤ j) (h2 : j ≤ 1000000) : -(2 ^ 62) ≤ j ∧ j < 2 ^ 62 := by omega
theorem di_rng1 {a : Expr} {t : DA} {p pos : Pos} (hg : Gl X "range") (hm : X.mg "range" = none) (ha : PA X [a] (liftA X.K t)) (hs : starEach [a] X.env = [(false, eval a X.env)] := by rfl) : PI X tg (.Call (.Name "range" p) [a] [] pos) (liftI X.K (wRng1 t)) :=
  pi_mono (pi_range1 hg hm ha hs) fun σ H R ⟨A, ρ, S, post, n, s, h, k⟩ => ⟨A, ρ, S, _, n, s, h, fun vs H' A' ds S' e s' r ⟨j, ed, h1, h2, p1⟩ => by
    subst ed
    obtain ⟨v, rfl, rv⟩ := rels1 r
    cases (show v = .int j from rv)
    exact ⟨j, rfl, (rng_small h1 h2).1, (rng_small h1 h2).2, k _ H' A' _ _ S' e s' itok_rng p1⟩⟩
theorem di_rng2 {a b : Expr} {t : DA} {p pos : Pos} (hg : Gl X "range") (hm : X.mg "range" = none) (ha : PA X [a, b] (liftA X.K t)) (hs : starEach [a, b] X.env = [(false, eval a X.env), (false, eval b X.env)] := by rfl) (hs2 : starEach [b] X.env = [(false, eval b X.env)] := by rfl) :
    PI X tg (.Call (.Name "range" p) [a, b] [] pos) (liftI X.K (wRng2 t)) :=
  pi_mono (pi_range2 hg hm ha hs hs2) fun σ H R ⟨A, ρ, S, post, n, s, h, k⟩ => ⟨A, ρ, S, _, n, s, h, fun vs H' A' ds S' e s' r ⟨i, j, ed, h1, h2, h3, h4, p1⟩ => by
    subst ed
    obtain ⟨v, u, rfl, rv, ru⟩ := rels2 r
    cases (show v = .int i from rv)
    cases (show u = .int j from ru)
    exact ⟨i, j, rfl, ⟨(rng_small h1 h2).1, (rng_small h1 h2).2, (rng_small h3 h4).1, (rng_small h3 h4).2⟩, k _ H' A' _ _ S' e s' itok_rng p1⟩⟩
end

/-! ### for -/
def dFor (w : DIt) (g : DG) (tb : DS) : DS := fun E ρ S => w ρ S fun xs C S1 => ∃ I : Nat → DEnv → Store → Prop, I 0 ρ S1 ∧ (∀ i ρ S, i ≤ xs.length → I i ρ S → C S) ∧
  (∀ (i : Nat) (d : D) (ρ : DEnv) (S : Store), xs[i]? = some d → I i ρ S → g d ρ S fun ρ2 S2 => tb { E with nx := I (i + 1), ct := I (i + 1), bk := E.nx } ρ2 S2) ∧ ∀ ρ S, I xs.length ρ S → E.nx ρ S
theorem lift_for {W : WX} {K : PySem.W.Frag} {w : DIt} {g : DG} {tb : DS} {ws : List Nat} {Dn : Ends} {σ : L2.St} {H : Hp} : liftS K W (dFor w g tb) Dn σ H → tFor (liftI K w) (liftW K ws g) (liftS K W tb) Dn σ H := by
  rintro ⟨A, ρ, S, E, n, s, h, k1, k2, k3, k4⟩
  refine ⟨A, ρ, S, _, n, s, h, fun J H' A' xs C S' e s' ok ⟨I, i0, iC, step, done⟩ => ?_⟩
  refine ⟨fun i m σ2 H2 => m = xs.length - i ∧ i ≤ xs.length ∧ ∃ A2 ρ2 S2, Ext H' A' H2 A2 ∧ RelN K H2 A2 ρ2 σ2 ∧ RelS K H2 A2 S2 ∧ I i ρ2 S2, ⟨xs.length, by simp, Nat.zero_le _, A', ρ, S', Ext.refl, n.ext e, s', i0⟩, ?_⟩
  rintro i m σ2 H2 ⟨rfl, hi, A2, ρ2, S2, e2, n2, s2, p2⟩
  obtain ⟨st, go⟩ := ok H2 A2 S2 e2 s2 (iC i ρ2 S2 hi p2)
  by_cases hlt : i < xs.length
  · have hx : xs[i]? = some xs[i] := List.getElem?_eq_getElem hlt
    obtain ⟨g1, g2⟩ := go i _ hx
    refine .inr ⟨g1, fun σ3 H3 => ∃ A3 ρ3 S3, Ext H' A' H3 A3 ∧ RelN K H3 A3 ρ3 σ3 ∧ RelS K H3 A3 S3 ∧ I (i + 1) ρ3 S3, fun σ3 H3 ⟨A3, ρ3, S3, e3, n3, s3, p3⟩ => ⟨xs.length - (i + 1), by omega, rfl, hlt, A3, ρ3, S3, e3, n3, s3, p3⟩, fun x H3 hy => ?_⟩
    obtain ⟨same, rx⟩ := g2 x H3 hy
    have e3 : Ext H2 A2 H3 A2 := Ext.same same
    refine ⟨A2, ρ2, S2, xs[i], _, n2.ext e3, s2.same same, rx, step i _ ρ2 S2 hx p2, fun σ4 H4 A4 ρ4 S4 e4 n4 s4 _ p4 => ?_⟩
    have e24 : Ext H' A' H4 A4 := (e2.trans e3).trans e4
    have e04 : Ext H A H4 A4 := e.trans e24
    refine ⟨A4, ρ4, S4, _, n4, s4, p4, fun σ5 H5 A5 ρ5 S5 e5 n5 s5 p5 => ⟨A5, ρ5, S5, e24.trans e5, n5, s5, p5⟩, k2.go e04, fun σ5 H5 A5 ρ5 S5 e5 n5 s5 p5 => k1 σ5 H5 A5 ρ5 S5 (e04.trans e5) n5 s5 p5, ⟨fun σ5 H5 A5 ρ5 S5 e5 n5 s5 p5 => ⟨A5, ρ5, S5, e24.trans e5, n5, s5, p5⟩, k4.ex.go e04⟩⟩
  · have ei : i = xs.length := by omega
    subst ei
    exact .inl ⟨st, k1 σ2 H2 A2 ρ2 S2 (e.trans e2) n2 s2 (done ρ2 S2 p2)⟩
theorem ds_for {W : WX} {X : Cx} {tg iter : Expr} {body : List Stmt} {w : DIt} {g : DG} {tb : DS} {ws : List Nat} {pos : Pos} (hp : PassesOwn (model X.prog X.w) X.A X.env X.xe) (hc : X.calm = true) (hi : PI X tg iter (liftI X.K w)) (hg : PG X tg (liftW X.K ws g)) (hb : PSs X body (liftS X.K W tb))
    (hs : ∀ x, foldedSetIterable iter X.env x = pure x := by intro _; rfl) : PS X (.For tg iter body [] pos) (liftS X.K W (dFor w g tb)) :=
  ps_mono (ps_for hp hc hi hg hb hs) fun _ _ _ h => lift_for h

/-! ### comprehensions -/
def wipeD (ρ : DEnv) : List Nat → DEnv
  | [] => ρ
  | v :: vs => (wipeD ρ vs).set v none
theorem RelN.wipe {K : PySem.W.Frag} {H : Hp} {A : List Addr} {ρ : DEnv} {σ : L2.St} (n : RelN K H A ρ σ) : ∀ vs : List Nat, RelN K H A (wipeD ρ vs) (L2.wipe σ vs)
  | [] => n
  | v :: vs => by
    have ih := RelN.wipe n vs
    refine ⟨?_, fun i d h => ?_⟩
    · show ((wipeD ρ vs).set v none).length = ((L2.wipe σ vs).set v none).length
      rw [List.length_set, List.length_set, ih.len]
    · have h' : ((wipeD ρ vs).set v none)[i]? = some (some d) := h
      show ∃ u, ((L2.wipe σ vs).set v none)[i]? = some (some u) ∧ _
      by_cases e : v = i
      · subst e
        rw [List.getElem?_set] at h'
        simp at h'
      · rw [List.getElem?_set_ne e] at h' ⊢
        exact ih.at_ i d h'
def dLc (w : DIt) (g : DG) (tt : DT) (te : DE) (vs : List Nat) : DE := fun ρ S post => w ρ S fun xs C S1 => ∃ I : Nat → List D → Store → Prop, I 0 [] S1 ∧ (∀ i acc S, i ≤ xs.length → I i acc S → C S) ∧
  (∀ (i : Nat) (d : D) (acc : List D) (S : Store), xs[i]? = some d → I i acc S → g d (wipeD ρ vs) S fun ρ2 S2 => tt ρ2 S2 fun b S3 => if b = true then te ρ2 S3 fun y S4 => acc.length ≤ 100000 ∧ I (i + 1) (acc ++ [y]) S4 else I (i + 1) acc S3) ∧
  ∀ acc S, I xs.length acc S → post (.lr S.length) (S ++ [.lst acc])
theorem lift_lc {K : PySem.W.Frag} {w : DIt} {g : DG} {tt : DT} {te : DE} {vs ws : List Nat} (hws : ∀ i ∈ ws, i ∈ vs) {σ : L2.St} {H : Hp} {Q : VK} : liftE K (dLc w g tt te vs) σ H Q → tLc (liftI K w) (liftW K ws g) (liftT K tt) (liftE K te) vs σ H Q := by
  rintro ⟨A, ρ, S, post, n, s, h, k⟩
  refine ⟨A, ρ, S, _, n, s, h, fun J H' A' xs C S' e s' ok ⟨I, i0, iC, step, done⟩ => ?_⟩
  intro Dl hDl
  refine ⟨fun i m H2 => m = xs.length - i ∧ i ≤ xs.length ∧ ∃ A2 S2 acc us, Ext H' A' H2 A2 ∧ RelS K H2 A2 S2 ∧ Dl ∉ A2 ∧ H2 Dl = some (.lst us) ∧ RelDs K H2 A2 acc us ∧ I i acc S2, ⟨xs.length, by simp, Nat.zero_le _, A', S', [], [], Ext.same (same_upd hDl), s'.same (same_upd hDl), s'.notin hDl, upd_same, rfl, i0⟩, ?_⟩
  rintro i m H2 ⟨rfl, hi, A2, S2, acc, us, e2, s2, hn2, hd2, r2, p2⟩
  obtain ⟨st, go⟩ := ok H2 A2 S2 e2 s2 (iC i acc S2 hi p2)
  by_cases hlt : i < xs.length
  · have hx : xs[i]? = some xs[i] := List.getElem?_eq_getElem hlt
    obtain ⟨g1, g2⟩ := go i _ hx
    refine .inr ⟨g1, fun H3 => ∃ A3 S3 acc3 us3, Ext H' A' H3 A3 ∧ RelS K H3 A3 S3 ∧ Dl ∉ A3 ∧ H3 Dl = some (.lst us3) ∧ RelDs K H3 A3 acc3 us3 ∧ I (i + 1) acc3 S3, fun H3 ⟨A3, S3, acc3, us3, q⟩ => ⟨xs.length - (i + 1), by omega, rfl, hlt, A3, S3, acc3, us3, q⟩, fun x H3 hy => ?_⟩
    obtain ⟨same, rx⟩ := g2 x H3 hy
    have e3 : Ext H2 A2 H3 A2 := Ext.same same
    have n3 : RelN K H3 A2 (wipeD ρ vs) (L2.wipe σ vs) := ((n.ext e).ext e2).ext e3 |>.wipe vs
    refine ⟨A2, wipeD ρ vs, S2, xs[i], _, n3, s2.same same, rx, step i _ acc S2 hx p2, fun σ4 H4 A4 ρ4 S4 e4 n4 s4 hw p4 => ?_⟩
    have hww : L2.wipe σ4 vs = L2.wipe σ vs := by
      rw [hw vs hws]
      have idem : ∀ (us : List Nat) (τ : L2.St), (∀ i ∈ us, i ∈ vs) → L2.wipe (L2.wipe τ us) vs = L2.wipe τ vs := by
        intro us
        induction us with
        | nil => intro τ _; rfl
        | cons u us ih =>
          intro τ hu
          show L2.wipe ((L2.wipe τ us).set u none) vs = _
          rw [wipe_set _ u none vs (hu u List.mem_cons_self)]
          exact ih τ fun i hi => hu i (List.mem_cons_of_mem _ hi)
      exact idem vs σ fun _ h => h
    refine ⟨hww, A4, ρ4, S4, _, n4, s4, p4, fun b H5 A5 S5 e5 s5 p5 => ?_⟩
    -- what stays of the list that is being made
    have stay : ∀ {H6 : Hp} {A6 : List Addr}, Ext H2 A2 H6 A6 → H6 Dl = some (.lst us) ∧ Dl ∉ A6 := fun {H6 A6} e6 => by
      refine ⟨?_, fun hm => ?_⟩
      · rcases e6.keep _ _ hd2 with q | ⟨q, _⟩ | ⟨_, q⟩
        · exact q
        · exact absurd q hn2
        · cases q
      · obtain ⟨B, rfl, f⟩ := e6.pre
        rcases List.mem_append.mp hm with hm | hm
        · exact hn2 hm
        · obtain ⟨_, q⟩ := f _ hm _ hd2
          cases q
    cases b with
    | true =>
      refine ⟨A5, ρ4, S5, _, n4.ext e5, s5, p5, fun y H6 A6 d6 S6 e6 s6 r6 ⟨hl, p6⟩ => ?_⟩
      have e26 : Ext H2 A2 H6 A6 := ((e3.trans e4).trans e5).trans e6
      obtain ⟨q1, q2⟩ := stay e26
      have mu : LdO (.lst us) := .inl ⟨_, rfl⟩
      have kp := keep_upd (o' := .lst (us ++ [y])) q1 (.inl mu)
      have ex : Ext H' A' H6 A6 := e2.trans e26
      have hdn : H' Dl = none := hDl
      refine ⟨us, q1, ?_, A6, S6, acc ++ [d6], us ++ [y], ex.out hdn, s6.out q2 q1 mu, q2, upd_same, ?_, p6⟩
      · rw [r2.len]
        exact lt_line hl
      · exact ((r2.ext e26).append (RelDs.one r6)).keep0 kp
    | false =>
      have e25 : Ext H2 A2 H5 A5 := (e3.trans e4).trans e5
      obtain ⟨q1, q2⟩ := stay e25
      exact ⟨A5, S5, acc, us, e2.trans e25, s5, q2, q1, r2.ext e25, p5⟩
  · have ei : i = xs.length := by omega
    subst ei
    refine .inl ⟨st, ?_⟩
    have ex := e.trans e2
    have hdn : FreeO H Dl := e.free (.of hDl)
    obtain ⟨B, eB, fB⟩ := ex.pre
    have ex2 : Ext H A H2 (A2 ++ [Dl]) := ⟨⟨B ++ [Dl], by rw [eB, List.append_assoc], fun b hb => by
      rcases List.mem_append.mp hb with hb | hb
      · exact fB b hb
      · rw [List.mem_singleton.mp hb]
        exact hdn⟩, ex.keep⟩
    refine k (.ref Dl) H2 (A2 ++ [Dl]) (.lr S2.length) (S2 ++ [.lst acc]) ex2 (s2.push (en := .lst acc) hn2 ⟨us, hd2, r2.keep (fun _ _ q _ => q)⟩) ⟨Dl, rfl, ?_⟩ (done acc S2 p2)
    rw [s2.len, List.getElem?_append_right (Nat.le_refl _), Nat.sub_self]
    rfl
section
variable {X : Cx} {pos : Pos}
def dYes : DT := fun _ S post => post true S
theorem dts_nil : PTs X [] (liftT X.K dYes) := ⟨fun pins s σ H Q I ⟨A, ρ, S, post, n, rs, p, k⟩ => pts_nil.run pins s σ H Q I (k true H A S Ext.refl rs p)⟩
theorem dts_one {c : Expr} {t : DT} (h : PT X c (liftT X.K t)) : PTs X [c] (liftT X.K t) := pts_one h
theorem de_lc {elt tg iter : Expr} {ifs : List Expr} {scope : Scope} {own : List (Str × Nat)} {w : DIt} {g : DG} {tt : DT} {te : DE} {ws : List Nat} (hws : ∀ i ∈ ws, i ∈ own.map (·.2)) (hc : X.calm = true) (hN : X.N.Nodup) (hi : PI X tg iter (liftI X.K w)) (ok : BlkOk X.N X.env.scope scope own)
    (hg : ∀ (s : Shared) (H : Hp) (C : Addr) (cl : List (Str × Addr)) (fp : List Addr), PG (X.blk s H scope (compEnvC scope cl C X.env) fp) tg (liftW X.K ws g)) (ht : ∀ (s : Shared) (H : Hp) (C : Addr) (cl : List (Str × Addr)) (fp : List Addr), PTs (X.blk s H scope (compEnvC scope cl C X.env) fp) ifs (liftT X.K tt))
    (he : ∀ (s : Shared) (H : Hp) (C : Addr) (cl : List (Str × Addr)) (fp : List Addr), PE (X.blk s H scope (compEnvC scope cl C X.env) fp) elt (liftE X.K te)) (hs : ∀ x, foldedSetIterable iter X.env x = pure x := by intro _; rfl) :
    PE X (.ListComp elt [⟨tg, iter, ifs, 0⟩] scope pos) (liftE X.K (dLc w g tt te (own.map (·.2)))) :=
  pe_mono (pe_lc hc hN hi ok hg ht he hs) fun _ _ _ => lift_lc hws
end

/-! ### calls of own defs -/
mutual
def ren (f : Nat → Nat) : D → D
  | .lr n => .lr (f n)
  | .tup ds => .tup (rens f ds)
  | .ztup ds => .ztup (rens f ds)
  | .rl ds => .rl (rens f ds)
  | .exc a d c w => .exc a d c (ren f w)
  | d => d
def rens (f : Nat → Nat) : List D → List D
  | [] => []
  | d :: ds => ren f d :: rens f ds
end
def renE (f : Nat → Nat) : Ent → Ent
  | .lst ds => .lst (rens f ds)
  | .dct kvs => .dct (kvs.map fun p => (p.1, ren f p.2))
theorem rens_map (f : Nat → Nat) : ∀ ds : List D, rens f ds = ds.map (ren f)
  | [] => rfl
  | d :: ds => by rw [rens, rens_map f ds]; rfl
def rn (m : List Nat) (n : Nat) : Nat → Nat := fun i => (m[i]?).getD (n + (i - m.length))
def setAll : List Nat → List Ent → Store → Store
  | n :: m, e :: es, S => setAll m es (S.set n e)
  | _, _, S => S
def callD (sp : DSp) (ds : List D) (S : Store) (post : DK) : Prop := ∃ (m : List Nat) (ds' : List D) (Sc : Store), m.Nodup ∧ rens (rn m S.length) ds' = ds ∧ Sc.length = m.length ∧ (∀ (i n : Nat) (e : Ent), m[i]? = some n → Sc[i]? = some e → S[n]? = some (renE (rn m S.length) e)) ∧
  sp ds' Sc fun d S' => post (ren (rn m S.length) d) (setAll m ((S'.take m.length).map (renE (rn m S.length))) S ++ (S'.drop m.length).map (renE (rn m S.length)))
def dCall (sp : DSp) (t : DA) : DE := fun ρ S post => t ρ S fun ds S1 => callD sp ds S1 post
section
variable {K : PySem.W.Frag} {H : Hp} {A1 A2 : List Addr} {f : Nat → Nat}
mutual
theorem RelD.unren (h : ∀ i a, A2[f i]? = some a → A1[i]? = some a) : ∀ {d : D} {v : V}, RelD K H A2 (ren f d) v → RelD K H A1 d v
  | .non, _, r => r
  | .bl _, _, r => r
  | .int _, _, r => r
  | .str _, _, r => r
  | .tup _, _, ⟨a, vs, h1, h2, h3⟩ => ⟨a, vs, h1, h2, RelDs.unren h h3⟩
  | .ztup _, _, ⟨a, vs, h1, h2, h3⟩ => ⟨a, vs, h1, h2, RelDs.unren h h3⟩
  | .rl _, _, ⟨a, vs, h1, h2, h3⟩ => ⟨a, vs, h1, h2, RelDs.unren h h3⟩
  | .lr _, _, ⟨a, h1, h2⟩ => ⟨a, h1, h _ a h2⟩
  | .exc _ _ _ _, _, ⟨h1, u, h2, h3⟩ => ⟨h1, u, h2, RelD.unren h h3⟩
  | .opq _, _, r => r
theorem RelDs.unren (h : ∀ i a, A2[f i]? = some a → A1[i]? = some a) : ∀ {ds : List D} {vs : List V}, RelDs K H A2 (rens f ds) vs → RelDs K H A1 ds vs
  | [], _, r => r
  | _ :: _, _, ⟨v, w, h1, h2, h3⟩ => ⟨v, w, h1, RelD.unren h h2, RelDs.unren h h3⟩
end
mutual
theorem RelD.ren (h : ∀ (i : Nat) (a : Addr), A1[i]? = some a → A2[f i]? = some a) : ∀ {d : D} {v : V}, RelD K H A1 d v → RelD K H A2 (DL.ren f d) v
  | .non, _, r => r
  | .bl _, _, r => r
  | .int _, _, r => r
  | .str _, _, r => r
  | .tup _, _, ⟨a, vs, h1, h2, h3⟩ => ⟨a, vs, h1, h2, RelDs.ren h h3⟩
  | .ztup _, _, ⟨a, vs, h1, h2, h3⟩ => ⟨a, vs, h1, h2, RelDs.ren h h3⟩
  | .rl _, _, ⟨a, vs, h1, h2, h3⟩ => ⟨a, vs, h1, h2, RelDs.ren h h3⟩
  | .lr _, _, ⟨a, h1, h2⟩ => ⟨a, h1, h _ a h2⟩
  | .exc _ _ _ _, _, ⟨h1, u, h2, h3⟩ => ⟨h1, u, h2, RelD.ren h h3⟩
  | .opq _, _, r => r
theorem RelDs.ren (h : ∀ (i : Nat) (a : Addr), A1[i]? = some a → A2[f i]? = some a) : ∀ {ds : List D} {vs : List V}, RelDs K H A1 ds vs → RelDs K H A2 (rens f ds) vs
  | [], _, r => r
  | _ :: _, _, ⟨v, w, h1, h2, h3⟩ => ⟨v, w, h1, RelD.ren h h2, RelDs.ren h h3⟩
end
theorem map_snd_ren (kvs : List (Key × D)) : (kvs.map fun p => (p.1, ren f p.2)).map (·.2) = rens f (kvs.map (·.2)) := by
  rw [rens_map, List.map_map, List.map_map]
  rfl
theorem RelE.ren (h : ∀ (i : Nat) (a : Addr), A1[i]? = some a → A2[f i]? = some a) {e : Ent} {a : Addr} (r : RelE K H A1 e a) : RelE K H A2 (renE f e) a := by
  cases e with
  | lst ds =>
    obtain ⟨vs, h1, h2⟩ := r
    exact ⟨vs, h1, h2.ren h⟩
  | dct kvs =>
    obtain ⟨ws, h1, h2, h3⟩ := r
    refine ⟨ws, h1, by rw [h2, List.map_map]; rfl, ?_⟩
    rw [map_snd_ren]
    exact h3.ren h
theorem RelE.unren (h : ∀ i a, A2[f i]? = some a → A1[i]? = some a) {e : Ent} {a : Addr} (r : RelE K H A2 (renE f e) a) : RelE K H A1 e a := by
  cases e with
  | lst ds =>
    obtain ⟨vs, h1, h2⟩ := r
    exact ⟨vs, h1, h2.unren h⟩
  | dct kvs =>
    obtain ⟨ws, h1, h2, h3⟩ := r
    rw [map_snd_ren] at h3
    refine ⟨ws, h1, ?_, h3.unren h⟩
    rw [h2, List.map_map]
    rfl
theorem setAll_len : ∀ (m : List Nat) (es : List Ent) (S : Store), (setAll m es S).length = S.length
  | [], _, _ => rfl
  | _ :: _, [], _ => rfl
  | n :: m, e :: es, S => by rw [setAll, setAll_len m es, List.length_set]
theorem setAll_out : ∀ (m : List Nat) (es : List Ent) (S : Store) (n : Nat), n ∉ m → (setAll m es S)[n]? = S[n]?
  | [], _, _, _, _ => rfl
  | _ :: _, [], _, _, _ => rfl
  | k :: m, e :: es, S, n, h => by
    rw [setAll, setAll_out m es _ n fun z => h (List.mem_cons_of_mem _ z), List.getElem?_set_ne fun z => h (by rw [z]; exact List.mem_cons_self)]
theorem setAll_in : ∀ (m : List Nat) (es : List Ent) (S : Store) (i n : Nat) (e : Ent), m.Nodup → m[i]? = some n → es[i]? = some e → n < S.length → (setAll m es S)[n]? = some e
  | [], _, _, _, _, _, _, h, _, _ => by simp at h
  | _ :: _, [], _, _, _, _, _, _, h, _ => by simp at h
  | k :: m, e' :: es, S, 0, n, e, hd, h1, h2, hl => by
    simp at h1 h2
    subst h1 h2
    rw [setAll, setAll_out m es _ k (List.nodup_cons.mp hd).1, List.getElem?_set_self hl]
  | k :: m, e' :: es, S, i + 1, n, e, hd, h1, h2, hl => by
    rw [setAll]
    exact setAll_in m es _ i n e (List.nodup_cons.mp hd).2 (by simpa using h1) (by simpa using h2) (by rw [List.length_set]; exact hl)
end
theorem callD_inv {K : PySem.W.Frag} {H : Hp} {A : List Addr} {S Sc : Store} {m : List Nat} {ds ds' : List D} {vs : List V} (s : RelS K H A S) (r : RelDs K H A ds vs) (hm : m.Nodup) (hds : rens (rn m S.length) ds' = ds) (hl : Sc.length = m.length)
    (hsub : ∀ (i n : Nat) (e : Ent), m[i]? = some n → Sc[i]? = some e → S[n]? = some (renE (rn m S.length) e)) : ∃ Ac, RelS K H Ac Sc ∧ RelDs K H Ac ds' vs ∧ ∀ (post : DK) (Q : VK), KontE K H A post Q →
      KontE K H Ac (fun d S' => post (ren (rn m S.length) d) (setAll m ((S'.take m.length).map (renE (rn m S.length))) S ++ (S'.drop m.length).map (renE (rn m S.length)))) Q := by
  let Ac : List Addr := m.map fun n => (A[n]?).getD 0
  have hAc : ∀ (i n : Nat), m[i]? = some n → ∃ a, A[n]? = some a ∧ Ac[i]? = some a ∧ n < S.length := fun i n hi => by
    have hil : i < Sc.length := by
      rw [hl]
      exact (List.getElem?_eq_some_iff.mp hi).1
    have q := hsub i n Sc[i] hi (List.getElem?_eq_getElem hil)
    obtain ⟨a, ha, _⟩ := s.ent n _ q
    refine ⟨a, ha, ?_, (List.getElem?_eq_some_iff.mp q).1⟩
    show (m.map fun n => (A[n]?).getD 0)[i]? = some a
    rw [List.getElem?_map, hi, Option.map_some, ha]
    rfl
  have lAc : Ac.length = m.length := by
    show (m.map _).length = _
    rw [List.length_map]
  have un : ∀ (i : Nat) (a : Addr), A[rn m S.length i]? = some a → Ac[i]? = some a := fun i a hi => by
    by_cases him : i < m.length
    · have hi' : m[i]? = some m[i] := List.getElem?_eq_getElem him
      obtain ⟨b, hb, hb2, _⟩ := hAc i _ hi'
      have e : rn m S.length i = m[i] := by
        unfold rn
        rw [hi']
        rfl
      rw [e, hb] at hi
      cases hi
      exact hb2
    · exfalso
      have e : rn m S.length i = S.length + (i - m.length) := by
        unfold rn
        rw [List.getElem?_eq_none (by omega)]
        rfl
      rw [e] at hi
      have q := (List.getElem?_eq_some_iff.mp hi).1
      rw [s.len] at q
      omega
  have ndAc : Ac.Nodup := by
    rw [List.nodup_iff_pairwise_ne] at *
    rw [List.pairwise_iff_getElem]
    intro i j hi hj hij e
    rw [lAc] at hi hj
    obtain ⟨a, ha, ha2, hla⟩ := hAc i m[i] (List.getElem?_eq_getElem hi)
    obtain ⟨b, hb, hb2, hlb⟩ := hAc j m[j] (List.getElem?_eq_getElem hj)
    have e1 : a = b := by
      have g1 := List.getElem?_eq_getElem (l := Ac) (by rw [lAc]; exact hi)
      have g2 := List.getElem?_eq_getElem (l := Ac) (by rw [lAc]; exact hj)
      rw [g1] at ha2
      rw [g2] at hb2
      rw [← Option.some.inj ha2, ← Option.some.inj hb2]
      exact e
    subst e1
    have q : m[i] = m[j] := (List.getElem?_inj (by rw [← s.len]; exact hla) s.nd).mp (ha.trans hb.symm)
    exact (List.pairwise_iff_getElem.mp hm) i j hi hj hij q
  have sC : RelS K H Ac Sc := by
    refine ⟨by rw [hl, lAc], ndAc, fun i e hi => ?_, s.tabs⟩
    have him : i < m.length := by
      rw [← hl]
      exact (List.getElem?_eq_some_iff.mp hi).1
    have hi' : m[i]? = some m[i] := List.getElem?_eq_getElem him
    have q := hsub i _ e hi' hi
    obtain ⟨a, ha, ha2, _⟩ := hAc i _ hi'
    exact ⟨a, ha2, (s.get q ha).unren un⟩
  have rC : RelDs K H Ac ds' vs := RelDs.unren (f := rn m S.length) un (by rw [hds]; exact r)
  refine ⟨Ac, sC, rC, fun post Q k v H' Ac' d S' e s' r' p => ?_⟩
  obtain ⟨B, rfl, fB⟩ := e.pre
  have e2 : Ext H A H' (A ++ B) := by
    refine ⟨⟨B, rfl, fB⟩, fun a o q => ?_⟩
    rcases e.keep a o q with g | ⟨g1, g2⟩ | g1
    · exact .inl g
    · obtain ⟨i, hi⟩ := List.mem_iff_getElem?.mp g1
      have him : i < m.length := by
        rw [← lAc]
        exact (List.getElem?_eq_some_iff.mp hi).1
      obtain ⟨b, hb, hb2, _⟩ := hAc i _ (List.getElem?_eq_getElem him)
      rw [hi] at hb2
      cases hb2
      exact .inr (.inl ⟨List.mem_iff_getElem?.mpr ⟨_, hb⟩, g2⟩)
    · exact .inr (.inr g1)
  have rnok : ∀ (i : Nat) (a : Addr), (Ac ++ B)[i]? = some a → (A ++ B)[rn m S.length i]? = some a := fun i a hi => by
    by_cases him : i < m.length
    · have hi' : m[i]? = some m[i] := List.getElem?_eq_getElem him
      obtain ⟨b, hb, hb2, _⟩ := hAc i _ hi'
      have en : rn m S.length i = m[i] := by
        unfold rn
        rw [hi']
        rfl
      rw [List.getElem?_append_left (by rw [lAc]; exact him), hb2] at hi
      cases hi
      rw [en, List.getElem?_append_left (List.getElem?_eq_some_iff.mp hb).1]
      exact hb
    · have en : rn m S.length i = S.length + (i - m.length) := by
        unfold rn
        rw [List.getElem?_eq_none (by omega)]
        rfl
      rw [List.getElem?_append_right (by rw [lAc]; omega), lAc] at hi
      rw [en, s.len, List.getElem?_append_right (by omega), Nat.add_sub_cancel_left]
      exact hi
  have hlen : S'.length = m.length + B.length := by rw [s'.len, List.length_append, lAc]
  refine k v H' (A ++ B) _ _ e2 ?_ (r'.ren rnok) p
  refine ⟨?_, ?_, fun n en hn => ?_, s'.tabs⟩
  · rw [List.length_append, setAll_len, List.length_map, List.length_drop, hlen, List.length_append, s.len]
    omega
  · refine List.nodup_append.mpr ⟨s.nd, (List.nodup_append.mp s'.nd).2.1, fun a ha b hb z => ?_⟩
    subst z
    exact s.notin0 (fB a hb) ha
  · by_cases hns : n < S.length
    · rw [List.getElem?_append_left (by rw [setAll_len]; exact hns)] at hn
      have hna : n < A.length := by rw [← s.len]; exact hns
      refine ⟨A[n], by rw [List.getElem?_append_left hna]; exact List.getElem?_eq_getElem hna, ?_⟩
      by_cases hnm : n ∈ m
      · obtain ⟨i, hi⟩ := List.mem_iff_getElem?.mp hnm
        have him : i < m.length := (List.getElem?_eq_some_iff.mp hi).1
        have hiS : i < S'.length := by omega
        have g : ((S'.take m.length).map (renE (rn m S.length)))[i]? = some (renE (rn m S.length) S'[i]) := by
          rw [List.getElem?_map, List.getElem?_take, if_pos him, List.getElem?_eq_getElem hiS]
          rfl
        rw [setAll_in m _ S i n _ hm hi g hns] at hn
        cases hn
        obtain ⟨a, ha, ha2, _⟩ := hAc i n hi
        have ea : A[n] = a := by
          rw [List.getElem?_eq_getElem hna] at ha
          exact Option.some.inj ha
        rw [ea]
        have q := s'.get (List.getElem?_eq_getElem hiS) (by rw [List.getElem?_append_left (by rw [lAc]; exact him)]; exact ha2)
        exact q.ren rnok
      · rw [setAll_out m _ S n hnm] at hn
        have q := s.get hn (List.getElem?_eq_getElem hna)
        refine q.ext e2 fun o qo => ?_
        rcases e.keep _ o qo with g | ⟨g1, _⟩ | ⟨_, g1⟩
        · exact g
        rotate_left
        · have z := s.ld (List.getElem_mem hna) qo
          subst g1
          rcases z with ⟨_, z⟩ | ⟨_, z⟩ | ⟨_, _, z⟩ <;> cases z
        · exfalso
          obtain ⟨i, hi⟩ := List.mem_iff_getElem?.mp g1
          have him : i < m.length := by
            rw [← lAc]
            exact (List.getElem?_eq_some_iff.mp hi).1
          obtain ⟨b, hb, hb2, _⟩ := hAc i _ (List.getElem?_eq_getElem him)
          rw [hi] at hb2
          cases hb2
          have z : n = m[i] := (List.getElem?_inj hna s.nd).mp ((List.getElem?_eq_getElem hna).trans hb.symm)
          exact hnm (by rw [z]; exact List.getElem_mem him)
    · rw [List.getElem?_append_right (by rw [setAll_len]; omega), setAll_len, List.getElem?_map, List.getElem?_drop] at hn
      cases q : S'[m.length + (n - S.length)]? with
      | none =>
        rw [q] at hn
        cases hn
      | some e0 =>
        rw [q] at hn
        have en0 : renE (rn m S.length) e0 = en := Option.some.inj hn
        subst en0
        obtain ⟨a, ha, ra⟩ := s'.ent _ _ q
        refine ⟨a, ?_, ra.ren rnok⟩
        rw [List.getElem?_append_right (by rw [lAc]; omega), lAc, Nat.add_sub_cancel_left] at ha
        rw [List.getElem?_append_right (by rw [← s.len]; omega), ← s.len]
        exact ha
theorem lift_callD {K : PySem.W.Frag} {sp : DSp} {H : Hp} {A : List Addr} {S : Store} {ds : List D} {vs : List V} {post : DK} {Q : VK} {E : XK} (s : RelS K H A S) (r : RelDs K H A ds vs) (h : callD sp ds S post) (k : KontE K H A post Q) : spL K sp vs H Q E := by
  obtain ⟨m, ds', Sc, hm, hds, hl, hsub, hsp⟩ := h
  obtain ⟨Ac, sC, rC, kk⟩ := callD_inv s r hm hds hl hsub
  exact ⟨Ac, ds', Sc, _, sC, rC, hsp, kk _ _ k⟩
section
variable {X : Cx} {k : Nat} {fa : Addr} {fd : FuncData} {ps : List Str} {sp : DSp} {x : Str} {p pos : Pos} {e : Expr} {es : List Expr} {t : DA}
theorem de_call (F : FnOk X.prog X.w X.K X.mg X.base CX0 k fa fd ps (spL X.K sp)) (hr : Room k X.A) (hg : Gl X x) (hm : X.mg x = some (.ref fa)) (hk : PySem.W.keepIn X.K (.ref fa) = true) (hb : Binds X.K fd ps [])
    (ha : PA X (e :: es) (liftA X.K t)) (hdb : (x == ("__debug__" : Str)) = false := by decide) (he : starEach (e :: es) X.env = (false, eval e X.env) :: starEach es X.env := by rfl) (hpl : (backTo pos (starEach es X.env)).any (·.1) = false := by rfl) :
    PE X (.Call (.Name x p) (e :: es) [] pos) (liftE X.K (dCall sp t)) :=
  pe_mono (pe_call (dvs := []) F hr hg hm hk hb .nil pass0 ha hdb he hpl) fun σ H Q ⟨A, ρ, S, post, n, s, h, kk⟩ => ⟨A, ρ, S, _, n, s, h, fun vs H' A' ds S' e s' r p1 => by
    show spL X.K sp (vs ++ []) H' Q E0
    rw [List.append_nil]
    exact lift_callD s' r p1 (kk.go e)⟩
end

/-! ### a def keeps its promise -/
def fnEnd (S : Store) (post : DK) : DK := fun d S' => (∃ n, S.length ≤ n ∧ below n d = true ∧ (S'.take n).all (belowE n) = true ∧ post d (S'.take n)) ∨
  ∃ (j : Nat) (e : Ent), d = .lr j ∧ S.length ≤ j ∧ S'[j]? = some e ∧ belowE S.length e = true ∧ (S'.take S.length).all (belowE S.length) = true ∧ post (.lr S.length) (S'.take S.length ++ [e])
def startD (N : List Str) (ds : List D) : DEnv := ds.map some ++ List.replicate (N.length - ds.length) none
theorem RelN.start {K : PySem.W.Frag} {H : Hp} {A : List Addr} {N : List Str} {ds : List D} {vs : List V} (r : RelDs K H A ds vs) : RelN K H A (startD N ds) (L2.start N vs) := by
  have hl := r.len
  refine ⟨by simp [startD, L2.start, hl], fun i d h => ?_⟩
  unfold startD at h
  by_cases hi : i < ds.length
  · rw [List.getElem?_append_left (by simpa using hi), List.getElem?_map] at h
    cases q : ds[i]? with
    | none =>
      rw [q] at h
      cases h
    | some d' =>
      rw [q] at h
      simp at h
      subst h
      obtain ⟨v, hv, rv⟩ := r.get q
      refine ⟨v, ?_, rv⟩
      unfold L2.start
      rw [List.getElem?_append_left (by rw [List.length_map, hl]; exact hi), List.getElem?_map, hv]
      rfl
  · rw [List.getElem?_append_right (by simpa using hi)] at h
    rw [List.getElem?_replicate] at h
    split at h <;> simp at h
theorem fnFin {K : PySem.W.Frag} {A : List Addr} {S : Store} {H : Hp} {post : DK} {Q : VK} (s : RelS K H A S) (kk : KontE K H A post Q) : KontE K H A (fnEnd S post) Q := by
  intro v H' A' d S' e s' r' h'
  rcases h' with ⟨n, h1, h2, h3, h4⟩ | ⟨j, en, rfl, h1, h2, h3, h4, h5⟩
  · exact kk v H' (A'.take n) d (S'.take n) (e.take (by rw [← s.len]; exact h1)) (s'.take h3) (r'.take h2) h4
  · obtain ⟨a, rfl, ha⟩ := r'
    obtain ⟨B, rfl, fB⟩ := e.pre
    have hsl : S.length = A.length := s.len
    have hjA : A.length ≤ j := by rw [← hsl]; exact h1
    have haB : a ∈ B := by
      rw [List.getElem?_append_right hjA] at ha
      exact List.mem_iff_getElem?.mpr ⟨_, ha⟩
    have hna : a ∉ A := s.notin0 (fB a haB)
    have tk : (A ++ B).take S.length = A := by rw [hsl, List.take_left']; rfl
    have s2 : RelS K H' A (S'.take S.length) := by
      have q := s'.take h4
      rwa [tk] at q
    have e2 : Ext H A H' (A ++ [a]) := ⟨⟨[a], rfl, fun b hb => by rw [List.mem_singleton.mp hb]; exact fB a haB⟩, e.keep⟩
    have ren0 : RelE K H' A en a := by
      have q := s'.get h2 ha
      have q' : RelE K H' ((A ++ B).take S.length) en a := by
        cases en with
        | lst ds =>
          obtain ⟨vs, g1, g2⟩ := q
          exact ⟨vs, g1, g2.takeA h3⟩
        | dct kvs =>
          obtain ⟨ws, g1, g2, g3⟩ := q
          exact ⟨ws, g1, g2, g3.takeA h3⟩
      rwa [tk] at q'
    refine kk (.ref a) H' (A ++ [a]) (.lr S.length) (S'.take S.length ++ [en]) e2 (s2.push hna (ren0.keep (fun _ _ q _ => q) fun _ q => q)) ⟨a, rfl, ?_⟩ h5
    rw [hsl, List.getElem?_append_right (Nat.le_refl _), Nat.sub_self]
    rfl
theorem fnBody {W : WX} {K : PySem.W.Frag} {N : List Str} {tb : DS} {A : List Addr} {S : Store} {H : Hp} {ds : List D} {vs : List V} {post : DK} {Q : VK} (s : RelS K H A S) (r : RelDs K H A ds vs)
    (hd : tb ⟨fun _ S' => fnEnd S post .non S', fnEnd S post, fun _ _ => False, fun _ _ => False, fun _ _ _ _ => False⟩ (startD N ds) S) (kk : KontE K H A post Q) : liftS K W tb { nx := fun _ H' => Q .non H', rt := Q } (L2.start N vs) H := by
  have fin : KontE K H A (fnEnd S post) Q := fnFin s kk
  exact ⟨A, startD N ds, S, _, RelN.start r, s, hd, fun σ' H' A' ρ' S' e n' s' p => fin .non H' A' .non S' e s' rfl p, fin, fun _ _ _ _ _ _ _ _ p => p.elim, ⟨fun _ _ _ _ _ _ _ _ p => p.elim, kontX0⟩⟩
theorem fn_okD {P : Program} {w : World} {K : PySem.W.Frag} {mg : Str → Option Value} {base : Heap} {x qual : Str} {st : Stmt} {f : Addr} {fd : FuncData} {N ps : List Str} {k : Nat} {sp : DSp} {tb : DS} (F : Fun K x qual st f fd) (Sc : FnScope N ps (defScope st))
    (hl : ∀ ds S post, sp ds S post → ds.length = ps.length)
    (hb : ∀ (cdv : Value) (A : Around) (outer : List Env) (s : Shared) (H : Hp) (E : XK), Room k (A.deeper (envOfC qual (defScope st) s.heap.objs.size f cdv)) → PSs (cxOf CX0 P w K mg base N qual (defScope st) f cdv A outer s H E).nox (defBody st) (liftS K W0 tb))
    (hd : ∀ ds S post, sp ds S post → tb ⟨fun _ S' => fnEnd S post .non S', fnEnd S post, fun _ _ => False, fun _ _ => False, fun _ _ _ _ => False⟩ (startD N ds) S) : FnOk P w K mg base CX0 (k + 1) f fd ps (spL K sp) := by
  refine F.ok Sc (fun vs H Q E ⟨A, ds, S, post, s, r, h, kk⟩ => by rw [r.len]; exact hl ds S post h) (fun cdv A0 outer s0 H vs Q E hr ⟨A, ds, S, post, s, r, h, kk⟩ => ⟨_, hb cdv A0 outer s0 H E hr, ?_⟩)
  exact fnBody s r (hd ds S post h) kk
end DL
/-! DQ: repr; defs under no running repr. -/
namespace DL
open PySem PySem.Spec PyProof.Rows L2
variable [HasT]

/-! ### data that may be shown and compared -/
structure FineP (c k : Nat) (p : PyData) : Prop where
  sh : p.showable = true
  nd : p.hasDict = false
  lf : p.leavesShort 100 = true
  cl : p.canLay0 = true
  wt : p.weight ≤ c
  dp : p.depth ≤ k
structure FineA (c k : Nat) (ps : List PyData) : Prop where
  sh : PyData.showableAll ps = true
  nd : PyData.hasDictAll ps = false
  lf : PyData.leavesShortAll 100 ps = true
  cl : PyData.canLayAll0 ps = true
  wt : PyData.weightAll ps ≤ c
  dp : PyData.depthAll ps ≤ k
def Fine (c k : Nat) (d : D) : Prop := plain d = true ∧ FineP c k (toP d)
theorem FineP.mono {c k c' k' : Nat} {p : PyData} (h : FineP c k p) (hc : c ≤ c') (hk : k ≤ k') : FineP c' k' p := ⟨h.sh, h.nd, h.lf, h.cl, Nat.le_trans h.wt hc, Nat.le_trans h.dp hk⟩
theorem Fine.mono {c k c' k' : Nat} {d : D} (h : Fine c k d) (hc : c ≤ c') (hk : k ≤ k') : Fine c' k' d := ⟨h.1, h.2.mono hc hk⟩
theorem log2_small {n : Nat} (h : n < 2 ^ 64) : n.log2 < 64 := by
  by_cases h0 : n = 0
  · subst h0
    decide
  · exact (Nat.log2_lt h0).mpr h
theorem fineP_int {i : Int} (h : i.natAbs < 2 ^ 64) : FineP 64 0 (.int i) := by
  have hl := log2_small h
  refine ⟨?_, rfl, ?_, rfl, ?_, Nat.le_refl _⟩
  · show decide (i.natAbs.log2 < 1920) = true
    exact decide_eq_true (by omega)
  · show decide ((PyData.shown (.int i)).length ≤ 100) = true
    refine decide_eq_true ?_
    have e := int_text_length_le (a := i) (k := 64) (by decide) hl
    show (Str.ofString (toString i)).length ≤ 100
    rw [PySem.ofString_length]
    omega
  · show (if i == 0 then 0 else i.natAbs.log2 + 1) ≤ 64
    split <;> omega
theorem fine_int {i : Int} (h : i.natAbs < 2 ^ 64) : Fine 64 0 (.int i) := ⟨rfl, fineP_int h⟩
theorem fine_bl {b : Bool} : Fine 0 0 (.bl b) := ⟨rfl, rfl, rfl, rfl, rfl, Nat.le_refl _, Nat.le_refl _⟩
theorem fine_non : Fine 0 0 .non := ⟨rfl, rfl, rfl, rfl, rfl, Nat.le_refl _, Nat.le_refl _⟩
theorem fineA_of {c k : Nat} : ∀ {ds : List D}, (∀ d ∈ ds, Fine c k d) → plains ds = true ∧ FineA (ds.length * (c + 1)) k (toPs ds)
  | [], _ => ⟨rfl, rfl, rfl, rfl, rfl, Nat.zero_le _, Nat.zero_le _⟩
  | d :: ds, h => by
    obtain ⟨h1, h2⟩ := h d List.mem_cons_self
    obtain ⟨g1, g2⟩ := fineA_of fun e he => h e (List.mem_cons_of_mem _ he)
    refine ⟨by rw [plains, h1, g1]; rfl, ?_⟩
    rw [toPs]
    refine ⟨by rw [PyData.showableAll, h2.sh, g2.sh]; rfl, by rw [PyData.hasDictAll, h2.nd, g2.nd]; rfl, by rw [PyData.leavesShortAll, h2.lf, g2.lf]; rfl, by rw [PyData.canLayAll0, h2.cl, g2.cl]; rfl, ?_, ?_⟩
    · have a := h2.wt
      have b := g2.wt
      have e : (ds.length + 1) * (c + 1) = ds.length * (c + 1) + (c + 1) := Nat.succ_mul _ _
      rw [PyData.weightAll, List.length_cons, e]
      omega
    · have a := h2.dp
      have b := g2.dp
      rw [PyData.depthAll]
      omega
theorem fine_tup {c k : Nat} {ds : List D} (h : ∀ d ∈ ds, Fine c k d) : Fine (ds.length * (c + 1)) (k + 1) (.tup ds) := by
  obtain ⟨h1, h2⟩ := fineA_of h
  refine ⟨by rw [plain]; exact h1, ?_⟩
  rw [toP]
  refine ⟨by rw [PyData.showable]; exact h2.sh, by rw [PyData.hasDict]; exact h2.nd, by rw [PyData.leavesShort]; exact h2.lf, by rw [PyData.canLay0]; exact h2.cl, ?_, ?_⟩
  · rw [PyData.weight]
    exact h2.wt
  · rw [PyData.depth]
    have := h2.dp
    omega
theorem fine_rl {c k : Nat} {ds : List D} (h : ∀ d ∈ ds, Fine c k d) : Fine (ds.length * (c + 1)) (k + 1) (.rl ds) := by
  obtain ⟨h1, h2⟩ := fineA_of h
  refine ⟨by rw [plain]; exact h1, ?_⟩
  rw [toP]
  refine ⟨by rw [PyData.showable]; exact h2.sh, by rw [PyData.hasDict]; exact h2.nd, by rw [PyData.leavesShort]; exact h2.lf, by rw [PyData.canLay0]; exact h2.cl, ?_, ?_⟩
  · rw [PyData.weight]
    exact h2.wt
  · rw [PyData.depth]
    have := h2.dp
    omega
theorem FineP.shaped {c k : Nat} {p : PyData} (h : FineP c k p) (hk : k ≤ 64) : SeqAt.shaped p = true := by
  unfold SeqAt.shaped
  rw [h.cl, decide_eq_true (Nat.le_trans h.dp hk)]
  rfl
theorem FineP.size {p : PyData} {k : Nat} (h : FineP 100000 k p) : p.shown.length ≤ sizeLine := by
  have a := PyData.shown_le 100 (by decide) p h.lf
  have b := h.wt
  rw [sizeLine_eq]
  omega

/-! ### repr -/
def cRepr : DC := fun ds S post => ∃ x p, ds = [x] ∧ dataOf S x p ∧ FineP 100000 60 p ∧ post (.str p.shown) S
def rRepr (K : PySem.W.Frag) : List V → Hp → VK → Prop := fun xs H Q => ∃ x p, xs = [x] ∧ Dp K H x p ∧ FineP 100000 60 p ∧ Q (.str p.shown) H
theorem call_repr_dp {X : Cx} (hg : X.A.guards = some []) (hu : X.A.units + 64 < cLine) : CallR X (.builtin "repr") (rRepr X.K) := by
  intro pins s σ H xs us Q I r h
  obtain ⟨x, p, rfl, hd, hf, q⟩ := h
  obtain ⟨u, rfl, rx⟩ := vals1 r
  have hsz := hf.size
  cases hd with
  | non =>
    cases rx
    exact PySem.P.repr_of_none ⟨.str _, H, I.tok _, ⟨_, rfl⟩, q⟩
  | bl b =>
    cases rx
    refine PySem.P.repr_of_bool ⟨.str _, H, I.tok _, ⟨_, rfl⟩, ?_⟩
    cases b <;> exact q
  | int i =>
    obtain ⟨t, rfl⟩ := rx
    have hs : decide (i.natAbs.log2 < 1920) = true := hf.sh
    exact PySem.P.repr_of_int (of_decide_eq_true hs) ⟨.str _, H, I.tok _, ⟨_, rfl⟩, q⟩
  | str z =>
    obtain ⟨t, rfl⟩ := rx
    exact PySem.P.repr_of_str ⟨.str _, H, I.tok _, ⟨_, rfl⟩, q⟩ hsz
  | lst h1 h2 =>
    obtain ⟨as, hr⟩ := Dp.reads I _ _ _ (Dp.lst h1 h2) rx
    cases rx
    have hdp := hf.dp
    exact repr_of_reads' hr hf.sh (fun z => by rw [hf.nd] at z; cases z) hg (by omega) (fun _ _ e => e) (fun h' u tk kp => ⟨.str _, H, I.kept (t' := tk) kp, ⟨_, rfl⟩, q⟩) hsz
  | tup h1 h2 =>
    obtain ⟨as, hr⟩ := Dp.reads I _ _ _ (Dp.tup h1 h2) rx
    cases rx
    have hdp := hf.dp
    exact repr_of_reads' hr hf.sh (fun z => by rw [hf.nd] at z; cases z) hg (by omega) (fun _ _ e => e) (fun h' u tk kp => ⟨.str _, H, I.kept (t' := tk) kp, ⟨_, rfl⟩, q⟩) hsz
theorem rul_repr {K : PySem.W.Frag} : RulC K cRepr (rRepr K) := by
  intro H A S ds vs post Q s r hh k
  obtain ⟨x, p, rfl, hq, hf, h⟩ := hh
  obtain ⟨v, rfl, rv⟩ := rels1 r
  exact ⟨v, p, rfl, hq.rel s rv, hf, k.now (d := .str p.shown) s rfl h⟩
theorem cr_max {X : Cx} (hc : X.calm = true) : CallR X (.builtin "max") (fun xs H Q => ∃ i j, xs = [.int i, .int j] ∧ Q (.int ((fun i j => if j > i then j else i) i j)) H) := call_max2 hc
theorem cr_min {X : Cx} (hc : X.calm = true) : CallR X (.builtin "min") (fun xs H Q => ∃ i j, xs = [.int i, .int j] ∧ Q (.int ((fun i j => if j < i then j else i) i j)) H) := call_min2 hc

/-! ### defs under no running repr -/
structure FnG (P : Program) (w : World) (K : PySem.W.Frag) (mg : Str → Option Value) (base : Heap) (CX : CXT) (k : Nat) (f : Addr) (fd : FuncData) (ps : List Str) (sp : Sp) : Prop where
  len : ∀ vs H Q E, sp vs H Q E → vs.length = ps.length
  run : ∀ (A : Around) (outer : List Env) (s : Shared) (H : Hp) (args : Args) (us : List Value) (vs : List V) (Q : VK) (E : XK),
    A.guards = some [] → Room k A → Env0 P w K mg base A outer s H → BindsTo s fd args (ps.zip us) → Vals vs us → sp vs H Q E → codeAny (model P w) A (.call (.ref f) args) (CR CX outer P w H s Q E) s
theorem FnG.mono {P : Program} {w : World} {K : PySem.W.Frag} {mg : Str → Option Value} {base : Heap} {CX : CXT} {j k : Nat} {f : Addr} {fd : FuncData} {ps : List Str} {sp : Sp} (F : FnG P w K mg base CX j f fd ps sp) (h : j ≤ k) : FnG P w K mg base CX k f fd ps sp :=
  ⟨F.len, fun A outer s H args us vs Q E hg hr => F.run A outer s H args us vs Q E hg (hr.mono h)⟩
section
variable {X : Cx} {CX : CXT} {k : Nat} {fa : Addr} {fd : FuncData} {ps ks : List Str} {sp : Sp} {E : XK}
theorem runG {pins : List (Addr × Obj)} {σ : L2.St} {H : Hp} {s : Shared} {Q : VK} {us : List Value} {vs : List V} (F : FnG X.prog X.w X.K X.mg X.base CX k fa fd ps sp) (hg : X.A.guards = some []) (hr : Room k X.A) (hb : L2.Binds X.K fd ps []) (hx : Passes CX X E)
    (I : Inv X pins σ H s) (rv : Vals vs us) (h : sp vs H Q E) : wpAny (model X.prog X.w) X.A (call (.ref fa) us) (EP X pins σ Q) X.xe s := by
  have hl : (us ++ []).length = ps.length := by
    rw [List.append_nil, ← rv.length]
    exact F.len _ _ _ _ h
  have bt := hb s us I.kIn hl
  rw [List.append_nil] at bt
  refine wpAny_call (codeAny_mono (F.run X.A X.stack s H ⟨us, []⟩ us vs Q E hg hr I.env0 bt rv h) fun r s' hq => ?_)
  cases r with
  | error ex => exact hx pins σ H s ex s' I hq
  | ok fl =>
    cases fl with
    | ret u => exact I.after hq
    | next => exact hq.elim
    | brk => exact hq.elim
    | cont => exact hq.elim
theorem pe_callG {x : Str} {p pos : Pos} {e : Expr} {es : List Expr} {t : TA} (F : FnG X.prog X.w X.K X.mg X.base CX k fa fd ps sp) (hgd : X.A.guards = some []) (hr : Room k X.A) (hg : Gl X x) (hm : X.mg x = some (.ref fa)) (hk : PySem.W.keepIn X.K (.ref fa) = true) (hb : L2.Binds X.K fd ps []) (hx : Passes CX X E)
    (ha : PA X (e :: es) t) (hdb : (x == ("__debug__" : Str)) = false) (he : starEach (e :: es) X.env = (false, eval e X.env) :: starEach es X.env) (hpl : (backTo pos (starEach es X.env)).any (·.1) = false) :
    PE X (.Call (.Name x p) (e :: es) [] pos) (tCall sp [] E t) := by
  refine ⟨fun pins s σ H Q I h => wpAny_Call_Name_kw (ld_glob I hg hm ?_ hdb)⟩
  refine PySem.W.callWith_K (h₀ := X.base) I.ok.mod.kin hk (thn (ha.run pos pins s σ H _ I h) fun us s1 ⟨vs, H1, I1, r, q⟩ => ⟨I1.kIn, ?_⟩) he hpl
  have q' : sp (vs ++ []) H1 Q E := q
  rw [List.append_nil] at q'
  exact runG F hgd hr hb hx I1 r q'
end
theorem fnG_ofC {CX : CXT} {P : Program} {w : World} {K : PySem.W.Frag} {mg : Str → Option Value} {base : Heap} {k : Nat} {f : Addr} {x qual : Str} {st : Stmt} {fd : FuncData} {N ps : List Str} {sp : Sp} (F : Fun K x qual st f fd) (Sc : FnScope N ps (defScope st))
    (len : ∀ vs H Q E, sp vs H Q E → vs.length = ps.length)
    (hbody : ∀ (cdv : Value), fd.code = cdv → ∀ (A : Around) (outer : List Env) (s : Shared) (H : Hp) (vs : List V) (Q : VK) (E : XK), (A.deeper (envOfC qual (defScope st) s.heap.objs.size f cdv)).guards = some [] → Room k (A.deeper (envOfC qual (defScope st) s.heap.objs.size f cdv)) → sp vs H Q E →
      ∃ t, PSs (cxOf CX P w K mg base N qual (defScope st) f cdv A outer s H E) (defBody st) t ∧ t { nx := fun _ H' => Q .non H', rt := Q } (L2.start N vs) H) : FnG P w K mg base CX (k + 1) f fd ps sp := by
  obtain ⟨oc, od, kV, doc, pm, an, cdv, ct, osl, rfl, lk, hcd⟩ := F.ex
  refine ⟨len, fun A outer s H args us vs Q E hg hr e0 hb r hsp => ?_⟩
  have hlen := len _ _ _ _ hsp
  have kin : K.In s.heap := e0.mod.kin.keeps fun b o e => (e0.bs b o e).1
  have nolim : s.heap.NoLimit := e0.mod.nolimit.keeps fun b o e => (e0.bs b o e).1
  have kinds : ∀ y ∈ ps.zip us, (defScope st).names.lookup y.1 = some .local ∨ ((defScope st).names.lookup y.1 = some .cell ∧ ((cellsFrom (s.heap.objs.size + 1) (defScope st).names []).lookup y.1).isSome = true) := by
    intro y hy
    have hm : y.1 ∈ ps := (List.of_mem_zip (show (y.1, y.2) ∈ ps.zip us from hy)).1
    rcases Sc.par y.1 hm with q | q
    · exact .inl q
    · exact .inr ⟨q, PySem.W.cellsFrom_some _ _ _ (.inl q)⟩
  refine codeAny_call_function hr.depth (kin _ _ lk) rfl Sc.co Sc.gen rfl (PySem.W.codeRec_of kin hcd) (hb _ _ _ _ (wpAny_newFunctionEnv_cells Sc.kind kinds fun env he s1 x => ?_))
  subst he
  refine ⟨nolim.keeps x.toInCall.keep, codeAny_func ?_⟩
  obtain ⟨t, ht, hq⟩ := hbody cdv rfl A outer s H vs Q E hg (hr.deeper _) hsp
  have I := inv_start (CX := CX) (E := E) Sc hr.hd e0 hlen r x
  refine wpAny_mono (ht.run [] s1 _ H _ I hq) (fun fl s' hs => ?_) fun e s' hs => hs
  match fl, hs with
  | .ret u, ⟨v, σ', H', J, rv, q⟩ => exact ⟨v, H', J.os, J.bare, J.base, J.hok, rv, q⟩
  | .next, ⟨σ', H', J, q⟩ => exact ⟨V.non, H', J.os, J.bare, J.base, J.hok, rfl, q⟩
  | .brk, ⟨_, _, _, q⟩ => exact False.elim q
  | .cont, ⟨_, _, _, q⟩ => exact False.elim q
theorem fnG_of {CX : CXT} {P : Program} {w : World} {K : PySem.W.Frag} {mg : Str → Option Value} {base : Heap} {k : Nat} {f : Addr} {x qual : Str} {st : Stmt} {fd : FuncData} {N ps : List Str} {sp : Sp} (F : Fun K x qual st f fd) (Sc : FnScope N ps (defScope st))
    (len : ∀ vs H Q E, sp vs H Q E → vs.length = ps.length)
    (hbody : ∀ (cdv : Value) (A : Around) (outer : List Env) (s : Shared) (H : Hp) (vs : List V) (Q : VK) (E : XK), (A.deeper (envOfC qual (defScope st) s.heap.objs.size f cdv)).guards = some [] → Room k (A.deeper (envOfC qual (defScope st) s.heap.objs.size f cdv)) → sp vs H Q E →
      ∃ t, PSs (cxOf CX P w K mg base N qual (defScope st) f cdv A outer s H E) (defBody st) t ∧ t { nx := fun _ H' => Q .non H', rt := Q } (L2.start N vs) H) : FnG P w K mg base CX (k + 1) f fd ps sp :=
  fnG_ofC F Sc len fun cdv _ => hbody cdv
end DL
/-! ZE: next of a zip whose last tuple may still be held; enumerate over a zip. -/
namespace DL
open PySem
variable [HasT]
open Sem (wp)

abbrev ZRec (h : Heap) (z : Addr) (f0 : Value) (f1 : Bool) (TI TO : Addr) : Prop :=
  h.get? z = some { cls := .type "zip", dict := none, data := .fields #[f0, .bool f1, .bool false, .ref TI, .ref TO], slots := #[] }
def ZF (f0 : Value) : Prop := f0 = .none ∨ ∃ T : Nat, f0 = rawInt T

section
variable {prog : Program} {w : World} {A : Around} {E : Value → Shared → Prop} {s : Shared} {z TI TO i1 i2 : Addr} {fp1 fp2 : List Addr} {n1 n2 i : Nat} {P1 P2 : Nat → Value → Prop} {St1 St2 : Nat → Heap → Prop} {f0 : Value} {f1 : Bool}

theorem zfree {Q : Bool → Shared → Prop} (hz : ZRec s.heap z f0 f1 TI TO) (hf : ZF f0) (h1 : Q true s) (h2 : ∀ h', ZRec h' z f0 true TI TO → Heap.SameBut z s.heap h' → Q false { s with heap := h' }) :
    wpAny (model prog w) A (Builtin.SmallTypes.ownedTupleIsFree (.ref z)) Q E s := by
  unfold Builtin.SmallTypes.ownedTupleIsFree
  rcases hf with rfl | ⟨T, rfl⟩
  · exact wpAny_bind (wpAny_field hz rfl (x := .none) rfl (wpAny_pure h1))
  · refine wpAny_bind (wpAny_field hz rfl (x := rawInt T) rfl ?_)
    show wpAny _ _ (loadIfAlive ((T : Int).toNat) >>= _) _ _ _
    have la : ∀ (a : Addr) (Q : Option Obj → Shared → Prop), Q (s.heap.get? a) s → wpAny (model prog w) A (loadIfAlive a) Q E s := fun a Q q _ _ _ => q
    refine wpAny_bind (la _ _ ?_)
    cases hq : s.heap.get? ((T : Int).toNat) with
    | none =>
      simp only [Option.isNone_none, if_true]
      exact wpAny_pure h1
    | some o =>
      simp only [Option.isNone_some, Bool.false_eq_true, if_false]
      refine wpAny_bind (wpAny_field hz rfl (x := .bool f1) rfl ?_)
      cases f1 with
      | true =>
        rw [if_neg (by decide)]
        exact wpAny_pure (h2 s.heap hz (Heap.SameBut.refl _ _))
      | false =>
        rw [if_pos (by decide)]
        exact wpAny_bind (wpAny_setField_rec hz (by simp) fun g' zg' sg' => wpAny_pure (h2 g' zg' sg'))

/-- next of a zip over two iterators -/
theorem znext {Q : Value → Shared → Prop} (S : ZipSep2 z TI TO i1 i2 fp1 fp2) (D1 : Draws prog w A i1 fp1 n1 P1 St1) (D2 : Draws prog w A i2 fp2 n2 P2 St2)
    (hz : ZRec s.heap z f0 f1 TI TO) (hf : ZF f0) (hTI : IsTupOf2 s.heap TI (.ref i1) (.ref i2)) (hTO : ∃ a1 a2, IsTupOf2 s.heap TO a1 a2) (st1 : St1 i s.heap) (st2 : St2 i s.heap) (hlt1 : i < n1) (hlt2 : i < n2)
    (hQ : ∀ x1 x2 h' tk g0 g1, P1 i x1 → P2 i x2 → ZF g0 → ZRec h' z g0 g1 TI TO → (∃ a1 a2, IsTupOf2 h' TO a1 a2) → St1 (i + 1) h' → St2 (i + 1) h' → IsTupOf2 h' s.heap.objs.size x1 x2 → h'.objs.size = s.heap.objs.size + 1 →
      (∀ c o, c ≠ z → c ≠ TO → c ≠ i1 → c ≠ i2 → s.heap.get? c = some o → h'.get? c = some o) → Q (.ref s.heap.objs.size) { s with heap := h', toks := tk }) :
    wpAny (model prog w) A (Builtin.«zip.__next__» ⟨[.ref z], []⟩) (fun fin s' => ∃ v, fin = .done (.ret v) ∧ Q v s') E s := by
  obtain ⟨b1, b2, hTO⟩ := hTO
  obtain ⟨hp, gs, dr, tk0, os⟩ := s
  show wpAny _ _ (field (.ref z) 2 >>= _) _ _ _
  refine wpAny_bind (wpAny_field hz rfl (x := .bool false) rfl ?_)
  show wpAny _ _ (field (.ref z) 3 >>= _) _ _ _
  refine wpAny_bind (wpAny_field hz rfl (x := .ref TI) rfl ?_)
  refine wpAny_bind (wpAny_seqItems hTI rfl ?_)
  refine wpAny_bind (zfree hz hf ?_ fun ha za sa => ?_)
  · -- its own pair is free
    simp only [if_true]
    refine wpAny_bind (wpAny_rule (wpAny_bind (wpAny_field hz rfl (x := .ref TO) rfl ?_)))
    refine wpAny_bind (wpAny_setField_rec hz (by simp) fun ha za sa => ?_)
    replace za : ZRec ha z .ellipsis f1 TI TO := za
    replace sa : Heap.SameBut z hp ha := sa
    refine wpAny_bind ?_
    simp only [List.zipIdx_cons, List.zipIdx_nil, List.forIn_cons, List.forIn_nil]
    refine wpAny_bind (wpAny_bind (wpAny_onRaise ?_))
    show wpAny _ _ (Builtin.SmallTypes.nextOf (.ref i1) >>= _) _ _ ⟨ha, gs, dr, tk0, os⟩
    refine wpAny_bind (D1.item i _ _ _ hlt1 (D1.over st1 sa S.zf1) fun x1 hb tk1 px1 t1b sb => wpAny_pure ?_)
    replace sb : Heap.SameBut i1 ha hb := sb
    have ub : IsTupOf2 hb TO b1 b2 := sb.extBut _ _ S.Ti1 (sa.extBut _ _ S.TOz hTO)
    refine wpAny_bind (wpAny_seqItems (s := ⟨hb, gs, dr, tk1, os⟩) ub rfl ?_)
    refine wpAny_bind (updateSeq_IsTupOf2 (s := ⟨hb, gs, dr, tk1, os⟩) ub fun hc uc sc => ?_)
    replace uc : IsTupOf2 hc TO x1 b2 := uc
    replace sc : Heap.SameBut TO hb hc := sc
    refine wpAny_bind (wpAny_letGo (wpAny_pure (wpAny_bind (wpAny_bind (wpAny_onRaise ?_)))))
    show wpAny _ _ (Builtin.SmallTypes.nextOf (.ref i2) >>= _) _ _ ⟨hc, gs, dr, tk1, os⟩
    refine wpAny_bind (D2.item i _ _ _ hlt2 (D2.over (D2.over (D2.over st2 sa S.zf2) sb S.sep1_2) sc S.Tf2) fun x2 hd tk2 px2 t2d sd => wpAny_pure ?_)
    replace sd : Heap.SameBut i2 hc hd := sd
    have ud : IsTupOf2 hd TO x1 b2 := sd.extBut _ _ S.Ti2 uc
    refine wpAny_bind (wpAny_seqItems (s := ⟨hd, gs, dr, tk2, os⟩) ud rfl ?_)
    refine wpAny_bind (updateSeq_IsTupOf2 (s := ⟨hd, gs, dr, tk2, os⟩) ud fun he ue se => ?_)
    replace ue : IsTupOf2 he TO x1 x2 := ue
    replace se : Heap.SameBut TO hd he := se
    refine wpAny_bind (wpAny_letGo (wpAny_pure (wpAny_pure ?_)))
    refine wpAny_bind (wpAny_seqItems (s := ⟨he, gs, dr, tk2, os⟩) ue rfl (wpAny_bind (wpAny_newTuple ?_)))
    have sz : he.objs.size = hp.objs.size := by rw [se.1, sd.1, sc.1, sb.1, sa.1]
    have zz : ZRec he z .ellipsis f1 TI TO := se.extBut _ _ S.TOz.symm (sd.extBut _ _ S.zi2 (sc.extBut _ _ S.TOz.symm (sb.extBut _ _ S.zi1 za)))
    have kk : ∀ c o, c ≠ z → c ≠ TO → c ≠ i1 → c ≠ i2 → hp.get? c = some o → he.get? c = some o := fun c o q1 q2 q3 q4 y => se.extBut _ _ q2 (sd.extBut _ _ q4 (sc.extBut _ _ q2 (sb.extBut _ _ q3 (sa.extBut _ _ q1 y))))
    have w1 : St1 (i + 1) he := D1.over (D1.over (D1.over t1b sc S.Tf1) sd S.sep2_1) se S.Tf1
    have w2 : St2 (i + 1) he := D2.over t2d se S.Tf2
    have zlt : z < he.objs.size := Heap.lt_size zz
    refine wpAny_bind ?_
    unfold Builtin.SmallTypes.ownedTupleHandOut
    have zp : ZRec (he.push { cls := .type "tuple", data := .seq #[x1, x2] }) z .ellipsis f1 TI TO := Heap.get?_push_of_some _ zz
    refine wpAny_bind (wpAny_setField_rec (s := ⟨he.push { cls := .type "tuple", data := .seq #[x1, x2] }, gs, dr, tk2, os⟩) zp (by simp) fun hf' zf' sf' => ?_)
    replace zf' : ZRec hf' z (rawInt he.objs.size) f1 TI TO := zf'
    refine wpAny_setField_rec zf' (by simp) fun hg' zg' sg' => ?_
    replace zg' : ZRec hg' z (rawInt he.objs.size) false TI TO := zg'
    replace sf' : Heap.SameBut z (he.push { cls := .type "tuple", data := .seq #[x1, x2] }) hf' := sf'
    replace sg' : Heap.SameBut z hf' hg' := sg'
    have up : ∀ c o, c ≠ z → he.get? c = some o → hg'.get? c = some o := fun c o q y => sg'.extBut _ _ q (sf'.extBut _ _ q (Heap.get?_push_of_some _ y))
    have tT : IsTupOf2 hg' he.objs.size x1 x2 := sg'.extBut _ _ (Nat.ne_of_gt zlt) (sf'.extBut _ _ (Nat.ne_of_gt zlt) (Heap.get?_push_size _ rfl))
    have zs : hg'.objs.size = he.objs.size + 1 := by rw [sg'.1, sf'.1, Heap.size_push]
    rw [sz] at zg' tT zs
    refine wpAny_pure ⟨_, rfl, ?_⟩
    show Q (.ref he.objs.size) ⟨hg', gs, dr, tk2, os⟩
    rw [sz]
    exact hQ x1 x2 hg' tk2 _ _ px1 px2 (.inr ⟨_, rfl⟩) zg' ⟨_, _, up _ _ S.TOz ue⟩ (D1.frame _ _ _ w1 fun b hb' o y => up b o (fun q => S.zf1 (q ▸ hb')) y) (D2.frame _ _ _ w2 fun b hb' o y => up b o (fun q => S.zf2 (q ▸ hb')) y) tT zs fun c o q1 q2 q3 q4 y => up c o q1 (kk c o q1 q2 q3 q4 y)
  · -- the last pair is still held
    simp only [Bool.false_eq_true, if_false]
    replace sa : Heap.SameBut z hp ha := sa
    refine wpAny_bind ?_
    rw [← Array.forIn_toList]
    simp only [List.forIn_cons, List.forIn_nil]
    refine wpAny_bind (wpAny_bind (wpAny_holding ?_))
    show wpAny _ _ (Builtin.SmallTypes.nextOf (.ref i1) >>= _) _ _ ⟨ha, gs, dr, tk0, os⟩
    refine wpAny_bind (D1.item i _ _ _ hlt1 (D1.over st1 sa S.zf1) fun x1 hb tk1 px1 t1b sb => wpAny_pure (wpAny_pure ?_))
    replace sb : Heap.SameBut i1 ha hb := sb
    refine wpAny_bind (wpAny_bind (wpAny_holding ?_))
    show wpAny _ _ (Builtin.SmallTypes.nextOf (.ref i2) >>= _) _ _ ⟨hb, gs, dr, tk1, os⟩
    refine wpAny_bind (D2.item i _ _ _ hlt2 (D2.over (D2.over st2 sa S.zf2) sb S.sep1_2) fun x2 hc tk2 px2 t2c sc => wpAny_pure (wpAny_pure (wpAny_pure ?_)))
    replace sc : Heap.SameBut i2 hb hc := sc
    show wpAny _ _ (newTuple [x1, x2] >>= _) _ _ ⟨hc, gs, dr, tk2, os⟩
    refine wpAny_bind (wpAny_newTuple ?_)
    have sz : hc.objs.size = hp.objs.size := by rw [sc.1, sb.1, sa.1]
    have zz : ZRec hc z f0 true TI TO := sc.extBut _ _ S.zi2 (sb.extBut _ _ S.zi1 za)
    have uu : IsTupOf2 hc TO b1 b2 := sc.extBut _ _ S.Ti2 (sb.extBut _ _ S.Ti1 (sa.extBut _ _ S.TOz hTO))
    have kk : ∀ c o, c ≠ z → c ≠ TO → c ≠ i1 → c ≠ i2 → hp.get? c = some o → hc.get? c = some o := fun c o q1 _ q3 q4 y => sc.extBut _ _ q4 (sb.extBut _ _ q3 (sa.extBut _ _ q1 y))
    have w1 : St1 (i + 1) hc := D1.over t1b sc S.sep2_1
    have pu : ∀ {c o}, hc.get? c = some o → (hc.push { cls := .type "tuple", data := .seq #[x1, x2] }).get? c = some o := fun y => Heap.get?_push_of_some _ y
    have tT : IsTupOf2 (hc.push { cls := .type "tuple", data := .seq #[x1, x2] }) hc.objs.size x1 x2 := Heap.get?_push_size _ rfl
    have zs : (hc.push { cls := .type "tuple", data := .seq #[x1, x2] }).objs.size = hc.objs.size + 1 := Heap.size_push ..
    refine wpAny_pure ⟨_, rfl, ?_⟩
    show Q (.ref hc.objs.size) _
    rw [sz] at tT zs ⊢
    exact hQ x1 x2 _ tk2 _ _ px1 px2 hf (pu zz) ⟨_, _, pu uu⟩ (D1.frame _ _ _ w1 fun b _ o y => pu y) (D2.frame _ _ _ t2c fun b _ o y => pu y) tT zs fun c o q1 q2 q3 q4 y => pu (kk c o q1 q2 q3 q4 y)

/-- .. at its end -/
theorem znext_end {Q : Fin → Shared → Prop} (S : ZipSep2 z TI TO i1 i2 fp1 fp2) (D1 : Draws prog w A i1 fp1 n1 P1 St1) (D2 : Draws prog w A i2 fp2 n2 P2 St2)
    (hz : ZRec s.heap z f0 f1 TI TO) (hf : ZF f0) (hTI : IsTupOf2 s.heap TI (.ref i1) (.ref i2)) (hTO : ∃ a1 a2, IsTupOf2 s.heap TO a1 a2) (st1 : St1 i s.heap) (st2 : St2 i s.heap) (hend : i = n1 ∨ (i < n1 ∧ i = n2))
    (hE : ∀ h' tk e, (∀ c o, c ≠ z → c ≠ TO → c ≠ i1 → c ≠ i2 → s.heap.get? c = some o → h'.get? c = some o) → (∃ o, h'.get? e = some o ∧ o.cls = .type "StopIteration") → E (.ref e) { s with heap := h', toks := tk }) :
    wpAny (model prog w) A (Builtin.«zip.__next__» ⟨[.ref z], []⟩) Q E s := by
  obtain ⟨b1, b2, hTO⟩ := hTO
  obtain ⟨hp, gs, dr, tk0, os⟩ := s
  show wpAny _ _ (field (.ref z) 2 >>= _) _ _ _
  refine wpAny_bind (wpAny_field hz rfl (x := .bool false) rfl ?_)
  show wpAny _ _ (field (.ref z) 3 >>= _) _ _ _
  refine wpAny_bind (wpAny_field hz rfl (x := .ref TI) rfl ?_)
  refine wpAny_bind (wpAny_seqItems hTI rfl ?_)
  refine wpAny_bind (zfree hz hf ?_ fun ha za sa => ?_)
  · simp only [if_true]
    refine wpAny_bind (wpAny_rule (wpAny_bind (wpAny_field hz rfl (x := .ref TO) rfl ?_)))
    refine wpAny_bind (wpAny_setField_rec hz (by simp) fun ha za sa => ?_)
    replace za : ZRec ha z .ellipsis f1 TI TO := za
    replace sa : Heap.SameBut z hp ha := sa
    refine wpAny_bind ?_
    simp only [List.zipIdx_cons, List.zipIdx_nil, List.forIn_cons, List.forIn_nil]
    refine wpAny_bind (wpAny_bind (wpAny_onRaise ?_))
    show wpAny _ _ (Builtin.SmallTypes.nextOf (.ref i1) >>= _) _ _ ⟨ha, gs, dr, tk0, os⟩
    -- an iterator has ended
    have stop : ∀ {hq hr : Heap} {j e : Addr} {tk : Nat}, Heap.ExtBut j hq hr → ZRec hq z .ellipsis f1 TI TO → z ≠ j → (∀ c o, c ≠ z → c ≠ TO → c ≠ i1 → c ≠ i2 → hp.get? c = some o → hr.get? c = some o) → (∃ o, hr.get? e = some o ∧ o.cls = .type "StopIteration") →
        wpAny (model prog w) A (setField (.ref z) 0 .none) (fun _ s' => E (.ref e) s') (fun e' s' => E e' s') ⟨hr, gs, dr, tk, os⟩ := fun {hq hr j e tk} sq zq nj kp hst => by
      obtain ⟨oe, q1, q2⟩ := hst
      have zr : ZRec hr z .ellipsis f1 TI TO := sq _ _ nj zq
      have ez : e ≠ z := fun y => by
        subst y
        rw [zr] at q1
        cases q1
        simp at q2
      refine wpAny_setField_rec (s := ⟨hr, gs, dr, tk, os⟩) zr (by simp) fun hs' _ ss' => ?_
      replace ss' : Heap.SameBut z hr hs' := ss'
      exact hE hs' tk e (fun c o c1 c2 c3 c4 y => ss'.extBut _ _ c1 (kp c o c1 c2 c3 c4 y)) ⟨oe, ss'.extBut _ _ ez q1, q2⟩
    rcases hend with rfl | ⟨hlt, rfl⟩
    · refine wpAny_bind (D1.done ⟨ha, gs, dr, tk0, os⟩ _ _ (D1.over st1 sa S.zf1) fun hb e xb hst => ?_)
      replace xb : Heap.ExtBut i1 ha hb := xb
      exact stop xb za S.zi1 (fun c o c1 c2 c3 c4 y => xb _ _ c3 (sa.extBut _ _ c1 y)) hst
    · refine wpAny_bind (D1.item i _ _ _ hlt (D1.over st1 sa S.zf1) fun x1 hb tk1 px1 t1b sb => wpAny_pure ?_)
      replace sb : Heap.SameBut i1 ha hb := sb
      have ub : IsTupOf2 hb TO b1 b2 := sb.extBut _ _ S.Ti1 (sa.extBut _ _ S.TOz hTO)
      refine wpAny_bind (wpAny_seqItems (s := ⟨hb, gs, dr, tk1, os⟩) ub rfl ?_)
      refine wpAny_bind (updateSeq_IsTupOf2 (s := ⟨hb, gs, dr, tk1, os⟩) ub fun hc uc sc => ?_)
      replace sc : Heap.SameBut TO hb hc := sc
      refine wpAny_bind (wpAny_letGo (wpAny_pure (wpAny_bind (wpAny_bind (wpAny_onRaise ?_)))))
      show wpAny _ _ (Builtin.SmallTypes.nextOf (.ref i2) >>= _) _ _ ⟨hc, gs, dr, tk1, os⟩
      refine wpAny_bind (D2.done ⟨hc, gs, dr, tk1, os⟩ _ _ (D2.over (D2.over (D2.over st2 sa S.zf2) sb S.sep1_2) sc S.Tf2) fun hd e xd hst => ?_)
      replace xd : Heap.ExtBut i2 hc hd := xd
      exact stop xd (sc.extBut _ _ S.TOz.symm (sb.extBut _ _ S.zi1 za)) S.zi2 (fun c o c1 c2 c3 c4 y => xd _ _ c4 (sc.extBut _ _ c2 (sb.extBut _ _ c3 (sa.extBut _ _ c1 y)))) hst
  · simp only [Bool.false_eq_true, if_false]
    replace sa : Heap.SameBut z hp ha := sa
    refine wpAny_bind ?_
    rw [← Array.forIn_toList]
    simp only [List.forIn_cons, List.forIn_nil]
    refine wpAny_bind (wpAny_bind (wpAny_holding ?_))
    show wpAny _ _ (Builtin.SmallTypes.nextOf (.ref i1) >>= _) _ _ ⟨ha, gs, dr, tk0, os⟩
    rcases hend with rfl | ⟨hlt, rfl⟩
    · refine wpAny_bind (D1.done ⟨ha, gs, dr, tk0, os⟩ _ _ (D1.over st1 sa S.zf1) fun hb e xb hst => ?_)
      replace xb : Heap.ExtBut i1 ha hb := xb
      exact hE hb tk0 e (fun c o c1 c2 c3 c4 y => xb _ _ c3 (sa.extBut _ _ c1 y)) hst
    · refine wpAny_bind (D1.item i _ _ _ hlt (D1.over st1 sa S.zf1) fun x1 hb tk1 px1 t1b sb => wpAny_pure (wpAny_pure ?_))
      replace sb : Heap.SameBut i1 ha hb := sb
      refine wpAny_bind (wpAny_bind (wpAny_holding ?_))
      show wpAny _ _ (Builtin.SmallTypes.nextOf (.ref i2) >>= _) _ _ ⟨hb, gs, dr, tk1, os⟩
      refine wpAny_bind (D2.done ⟨hb, gs, dr, tk1, os⟩ _ _ (D2.over (D2.over st2 sa S.zf2) sb S.sep1_2) fun hc e xc hst => ?_)
      replace xc : Heap.ExtBut i2 hb hc := xc
      exact hE hc tk1 e (fun c o c1 c2 c3 c4 y => xc _ _ c4 (sb.extBut _ _ c3 (sa.extBut _ _ c1 y))) hst
end
end DL
/-! ZF: enumerate over a zip of two; what it walks over data. -/
namespace DL
open PySem
variable [HasT]
open Sem (wp)
section
variable {prog : Program} {w : World} {A : Around} {E : Value → Shared → Prop} {s : Shared} {z TI TO i1 i2 : Addr} {fp1 fp2 : List Addr} {n1 n2 i : Nat} {P1 P2 : Nat → Value → Prop} {St1 St2 : Nat → Heap → Prop} {f0 : Value} {f1 : Bool}
theorem znextOf {Q : Value → Shared → Prop} (S : ZipSep2 z TI TO i1 i2 fp1 fp2) (D1 : Draws prog w A.in1 i1 fp1 n1 P1 St1) (D2 : Draws prog w A.in1 i2 fp2 n2 P2 St2)
    (hz : ZRec s.heap z f0 f1 TI TO) (hf : ZF f0) (hTI : IsTupOf2 s.heap TI (.ref i1) (.ref i2)) (hTO : ∃ a1 a2, IsTupOf2 s.heap TO a1 a2) (st1 : St1 i s.heap) (st2 : St2 i s.heap) (hlt1 : i < n1) (hlt2 : i < n2)
    (hQ : ∀ x1 x2 h' tk g0 g1, P1 i x1 → P2 i x2 → ZF g0 → ZRec h' z g0 g1 TI TO → (∃ a1 a2, IsTupOf2 h' TO a1 a2) → St1 (i + 1) h' → St2 (i + 1) h' → IsTupOf2 h' s.heap.objs.size x1 x2 → h'.objs.size = s.heap.objs.size + 1 →
      (∀ c o, c ≠ z → c ≠ TO → c ≠ i1 → c ≠ i2 → s.heap.get? c = some o → h'.get? c = some o) → Q (.ref s.heap.objs.size) { s with heap := h', toks := tk }) :
    wpAny (model prog w) A (Builtin.SmallTypes.nextOf (.ref z)) Q E s := by
  have ty : s.TypeIs (.ref z) "zip" := ⟨_, hz, rfl⟩
  unfold Builtin.SmallTypes.nextOf
  exact wpAny_bind (wpAny_callSpecial?_slot (name := Str.ofString "__next__") ty F.slot_zip_next (wpAny_call_entry F.slot_zip_next ty F.entry_zip_next
    (znext S D1 D2 hz hf hTI hTO st1 st2 hlt1 hlt2 fun x1 x2 h' tk g0 g1 q1 q2 q3 q4 q5 q6 q7 q8 q9 q10 => wpAny_pure (hQ x1 x2 h' tk g0 g1 q1 q2 q3 q4 q5 q6 q7 q8 q9 q10)) (F.args_zip_next_1 _)))
theorem znextOf_end {Q : Value → Shared → Prop} (S : ZipSep2 z TI TO i1 i2 fp1 fp2) (D1 : Draws prog w A.in1 i1 fp1 n1 P1 St1) (D2 : Draws prog w A.in1 i2 fp2 n2 P2 St2)
    (hz : ZRec s.heap z f0 f1 TI TO) (hf : ZF f0) (hTI : IsTupOf2 s.heap TI (.ref i1) (.ref i2)) (hTO : ∃ a1 a2, IsTupOf2 s.heap TO a1 a2) (st1 : St1 i s.heap) (st2 : St2 i s.heap) (hend : i = n1 ∨ (i < n1 ∧ i = n2))
    (hE : ∀ h' tk e, (∀ c o, c ≠ z → c ≠ TO → c ≠ i1 → c ≠ i2 → s.heap.get? c = some o → h'.get? c = some o) → (∃ o, h'.get? e = some o ∧ o.cls = .type "StopIteration") → E (.ref e) { s with heap := h', toks := tk }) :
    wpAny (model prog w) A (Builtin.SmallTypes.nextOf (.ref z)) Q E s := by
  have ty : s.TypeIs (.ref z) "zip" := ⟨_, hz, rfl⟩
  unfold Builtin.SmallTypes.nextOf
  exact wpAny_bind (wpAny_callSpecial?_slot (name := Str.ofString "__next__") ty F.slot_zip_next (wpAny_call_entry F.slot_zip_next ty F.entry_zip_next
    (znext_end S D1 D2 hz hf hTI hTO st1 st2 hend hE) (F.args_zip_next_1 _)))

/-- next of an enumerate over a zip -/
theorem eznext {Q : Value → Shared → Prop} {e : Addr} {c : Int} {old : Value} (S : ZipSep2 z TI TO i1 i2 fp1 fp2) (D1 : Draws prog w A.in1 i1 fp1 n1 P1 St1) (D2 : Draws prog w A.in1 i2 fp2 n2 P2 St2)
    (ee : e ≠ z ∧ e ≠ TI ∧ e ≠ TO ∧ e ∉ fp1 ∧ e ∉ fp2) (he : IsEnum s.heap e z c old)
    (hz : ZRec s.heap z f0 f1 TI TO) (hf : ZF f0) (hTI : IsTupOf2 s.heap TI (.ref i1) (.ref i2)) (hTO : ∃ a1 a2, IsTupOf2 s.heap TO a1 a2) (st1 : St1 i s.heap) (st2 : St2 i s.heap) (hlt1 : i < n1) (hlt2 : i < n2)
    (hQ : ∀ x1 x2 h' tk t g0 g1, P1 i x1 → P2 i x2 → ZF g0 → ZRec h' z g0 g1 TI TO → IsTupOf2 h' TI (.ref i1) (.ref i2) → (∃ a1 a2, IsTupOf2 h' TO a1 a2) → St1 (i + 1) h' → St2 (i + 1) h' → IsTupOf2 h' s.heap.objs.size x1 x2 →
      IsEnumOut h' e z (c + 1) (.ref s.heap.objs.size) (s.heap.objs.size + 1) → IsTupOf2 h' (s.heap.objs.size + 1) (.int c t) (.ref s.heap.objs.size) → h'.objs.size = s.heap.objs.size + 2 →
      (∀ c o, c ≠ z → c ≠ TO → c ≠ i1 → c ≠ i2 → c ≠ e → s.heap.get? c = some o → h'.get? c = some o) → Q (.ref (s.heap.objs.size + 1)) { s with heap := h', toks := tk }) :
    wpAny (model prog w) A (Builtin.«enumerate.__next__» ⟨[.ref e], []⟩) (fun fin s' => ∃ v, fin = .done (.ret v) ∧ Q v s') E s := by
  obtain ⟨hp, gs, dr, tk0, os⟩ := s
  obtain ⟨ez, eTI, eTO, ef1, ef2⟩ := ee
  have e1 : e ≠ i1 := fun q => ef1 (q ▸ S.mem1)
  have e2 : e ≠ i2 := fun q => ef2 (q ▸ S.mem2)
  show wpAny _ _ (field (.ref e) 2 >>= _) _ _ _
  refine wpAny_bind (wpAny_field he rfl (x := .ref z) rfl ?_)
  refine wpAny_bind (znextOf S D1 D2 hz hf hTI hTO st1 st2 hlt1 hlt2 fun x1 x2 ha tka g0 g1 p1 p2 zf za uo ta tb tT sz kp => ?_)
  replace kp : ∀ c o, c ≠ z → c ≠ TO → c ≠ i1 → c ≠ i2 → hp.get? c = some o → ha.get? c = some o := kp
  replace sz : ha.objs.size = hp.objs.size + 1 := sz
  replace tT : IsTupOf2 ha hp.objs.size x1 x2 := tT
  have ea : IsEnum ha e z c old := kp _ _ ez eTO e1 e2 he
  have ui : IsTupOf2 ha TI (.ref i1) (.ref i2) := kp _ _ S.TIz S.TITO S.TIi1 S.TIi2 hTI
  obtain ⟨b1, b2, uo⟩ := uo
  show wpAny _ _ (field (.ref e) 3 >>= _) _ _ ⟨ha, gs, dr, tka, os⟩
  refine wpAny_bind (wpAny_field ea rfl (x := rawInt c) rfl ?_)
  show wpAny _ _ (field (.ref e) 4 >>= _) _ _ ⟨ha, gs, dr, tka, os⟩
  refine wpAny_bind (wpAny_field ea rfl (x := .none) rfl ?_)
  show wpAny _ _ (mkInt c >>= _) _ _ ⟨ha, gs, dr, tka, os⟩
  refine wpAny_bind (wpAny_mkInt ?_)
  show wpAny _ _ (setField (.ref e) 3 (rawInt (c + 1)) >>= _) _ _ ⟨ha, gs, dr, tka + 1, os⟩
  refine wpAny_bind (wpAny_setField_rec ea (by simp) fun hb eb sb => ?_)
  replace sb : Heap.SameBut e ha hb := sb
  replace eb : IsEnum hb e z (c + 1) old := eb
  show wpAny _ _ (setField (.ref e) 4 .none >>= _) _ _ ⟨hb, gs, dr, tka + 1, os⟩
  refine wpAny_bind (wpAny_setField_rec eb (by simp) fun hc ec sc => ?_)
  replace sc : Heap.SameBut e hb hc := sc
  replace ec : IsEnum hc e z (c + 1) old := ec
  show wpAny _ _ (newTuple [.int c tka, .ref hp.objs.size] >>= _) _ _ ⟨hc, gs, dr, tka + 1, os⟩
  refine wpAny_bind (wpAny_newTuple ?_)
  have szc : hc.objs.size = hp.objs.size + 1 := by rw [sc.1, sb.1, sz]
  have ed : IsEnum (hc.push { cls := .type "tuple", data := .seq #[.int c tka, .ref hp.objs.size] }) e z (c + 1) old := Heap.get?_push_of_some _ ec
  have td : IsTupOf2 (hc.push { cls := .type "tuple", data := .seq #[.int c tka, .ref hp.objs.size] }) hc.objs.size (.int c tka) (.ref hp.objs.size) := Heap.get?_push_size _ rfl
  have kd : ∀ b o, b ≠ e → ha.get? b = some o → (hc.push { cls := .type "tuple", data := .seq #[.int c tka, .ref hp.objs.size] }).get? b = some o := fun b o q y => Heap.get?_push_of_some _ (sc.extBut _ _ q (sb.extBut _ _ q y))
  have szd : (hc.push { cls := .type "tuple", data := .seq #[.int c tka, .ref hp.objs.size] }).objs.size = hp.objs.size + 2 := by rw [Heap.size_push, szc]
  generalize hhd : hc.push { cls := .type "tuple", data := .seq #[.int c tka, .ref hp.objs.size] } = hd at ed td kd szd
  rw [szc] at td
  show wpAny _ _ (Builtin.SmallTypes.ownedTupleIsFree (.ref e) >>= _) _ _ ⟨hd, gs, dr, tka + 1, os⟩
  refine wpAny_bind ?_
  unfold Builtin.SmallTypes.ownedTupleIsFree
  refine wpAny_bind (wpAny_field ed rfl (x := .none) rfl (wpAny_pure ?_))
  simp only [if_true]
  refine wpAny_bind (wpAny_rule (wpAny_bind (wpAny_field ed rfl (x := old) rfl ?_)))
  refine wpAny_bind (wpAny_setField_rec ed (by simp) fun hf' ef' sf' => ?_)
  replace sf' : Heap.SameBut e hd hf' := sf'
  replace ef' : IsEnum hf' e z (c + 1) (.ref hp.objs.size) := ef'
  rw [szc]
  show wpAny _ _ (Builtin.SmallTypes.ownedTupleHandOut (.ref e) (.ref (hp.objs.size + 1)) >>= _) _ _ ⟨hf', gs, dr, tka + 1, os⟩
  refine wpAny_bind ?_
  unfold Builtin.SmallTypes.ownedTupleHandOut
  refine wpAny_bind (wpAny_setField_rec ef' (by simp) fun hg' eg' sg' => ?_)
  replace sg' : Heap.SameBut e hf' hg' := sg'
  replace eg' : IsEnumOut hg' e z (c + 1) (.ref hp.objs.size) (hp.objs.size + 1) := eg'
  refine wpAny_setField_rec eg' (by simp) fun hh' eh' sh' => ?_
  replace sh' : Heap.SameBut e hg' hh' := sh'
  replace eh' : IsEnumOut hh' e z (c + 1) (.ref hp.objs.size) (hp.objs.size + 1) := eh'
  have elt : e < hp.objs.size := Heap.lt_size he
  have kk : ∀ b o, b ≠ e → hd.get? b = some o → hh'.get? b = some o := fun b o q y => sh'.extBut _ _ q (sg'.extBut _ _ q (sf'.extBut _ _ q y))
  have ka : ∀ b o, b ≠ e → ha.get? b = some o → hh'.get? b = some o := fun b o q y => kk b o q (kd b o q y)
  have n0 : (hp.objs.size : Nat) ≠ e := Nat.ne_of_gt elt
  have n1 : (hp.objs.size + 1 : Nat) ≠ e := Nat.ne_of_gt (Nat.lt_succ_of_lt elt)
  refine wpAny_bind (wpAny_letGo (wpAny_pure ⟨_, rfl, ?_⟩))
  exact hQ x1 x2 hh' _ tka g0 g1 p1 p2 zf (ka _ _ ez.symm za) (ka _ _ eTI.symm ui) ⟨b1, b2, ka _ _ eTO.symm uo⟩ (D1.frame _ _ _ ta fun b hb' o y => ka b o (fun q => ef1 (q ▸ hb')) y) (D2.frame _ _ _ tb fun b hb' o y => ka b o (fun q => ef2 (q ▸ hb')) y)
    (ka _ _ n0 tT) eh' (kk _ _ n1 td) (by rw [sh'.1, sg'.1, sf'.1, szd]) fun b o q1 q2 q3 q4 q5 y => ka b o q5 (kp b o q1 q2 q3 q4 y)

theorem pyNext_ez {Q : Option Value → Shared → Prop} {e : Addr} {c : Int} {old : Value} (S : ZipSep2 z TI TO i1 i2 fp1 fp2) (D1 : Draws prog w A.in1.in1 i1 fp1 n1 P1 St1) (D2 : Draws prog w A.in1.in1 i2 fp2 n2 P2 St2)
    (ee : e ≠ z ∧ e ≠ TI ∧ e ≠ TO ∧ e ∉ fp1 ∧ e ∉ fp2) (he : IsEnum s.heap e z c old)
    (hz : ZRec s.heap z f0 f1 TI TO) (hf : ZF f0) (hTI : IsTupOf2 s.heap TI (.ref i1) (.ref i2)) (hTO : ∃ a1 a2, IsTupOf2 s.heap TO a1 a2) (st1 : St1 i s.heap) (st2 : St2 i s.heap) (hlt1 : i < n1) (hlt2 : i < n2)
    (hQ : ∀ x1 x2 h' tk t g0 g1, P1 i x1 → P2 i x2 → ZF g0 → ZRec h' z g0 g1 TI TO → IsTupOf2 h' TI (.ref i1) (.ref i2) → (∃ a1 a2, IsTupOf2 h' TO a1 a2) → St1 (i + 1) h' → St2 (i + 1) h' → IsTupOf2 h' s.heap.objs.size x1 x2 →
      IsEnumOut h' e z (c + 1) (.ref s.heap.objs.size) (s.heap.objs.size + 1) → IsTupOf2 h' (s.heap.objs.size + 1) (.int c t) (.ref s.heap.objs.size) → h'.objs.size = s.heap.objs.size + 2 →
      (∀ c o, c ≠ z → c ≠ TO → c ≠ i1 → c ≠ i2 → c ≠ e → s.heap.get? c = some o → h'.get? c = some o) → Q (some (.ref (s.heap.objs.size + 1))) { s with heap := h', toks := tk }) :
    wpAny (model prog w) A (pyNext (.ref e)) Q E s := by
  have ty : s.TypeIs (.ref e) "enumerate" := ⟨_, he, rfl⟩
  unfold pyNext
  exact wpAny_bind (wpAny_attempt (wpAny_callSpecial?_slot (name := Str.ofString "__next__") ty F.slot_enumerate_next (wpAny_call_entry F.slot_enumerate_next ty F.entry_enumerate_next
    (eznext S D1 D2 ee he hz hf hTI hTO st1 st2 hlt1 hlt2 fun x1 x2 h' tk t g0 g1 q1 q2 q3 q4 q5 q6 q7 q8 q9 q10 q11 q12 q13 => wpAny_pure (hQ x1 x2 h' tk t g0 g1 q1 q2 q3 q4 q5 q6 q7 q8 q9 q10 q11 q12 q13)) (F.args_enumerate_next_1 _))))
theorem pyNext_ez_end {Q : Option Value → Shared → Prop} {e : Addr} {c : Int} {old : Value} (S : ZipSep2 z TI TO i1 i2 fp1 fp2) (D1 : Draws prog w A.in1.in1 i1 fp1 n1 P1 St1) (D2 : Draws prog w A.in1.in1 i2 fp2 n2 P2 St2)
    (he : IsEnum s.heap e z c old)
    (hz : ZRec s.heap z f0 f1 TI TO) (hf : ZF f0) (hTI : IsTupOf2 s.heap TI (.ref i1) (.ref i2)) (hTO : ∃ a1 a2, IsTupOf2 s.heap TO a1 a2) (st1 : St1 i s.heap) (st2 : St2 i s.heap) (hend : i = n1 ∨ (i < n1 ∧ i = n2))
    (hQ : ∀ h' tk, (∀ c o, c ≠ z → c ≠ TO → c ≠ i1 → c ≠ i2 → s.heap.get? c = some o → h'.get? c = some o) → Q none { s with heap := h', toks := tk }) :
    wpAny (model prog w) A (pyNext (.ref e)) Q E s := by
  have ty : s.TypeIs (.ref e) "enumerate" := ⟨_, he, rfl⟩
  unfold pyNext
  refine wpAny_bind (wpAny_attempt (wpAny_callSpecial?_slot (name := Str.ofString "__next__") ty F.slot_enumerate_next (wpAny_call_entry F.slot_enumerate_next ty F.entry_enumerate_next ?_ (F.args_enumerate_next_1 _))))
  show wpAny _ _ (field (.ref e) 2 >>= _) _ _ _
  refine wpAny_bind (wpAny_field he rfl (x := .ref z) rfl ?_)
  refine wpAny_bind (znextOf_end S D1 D2 hz hf hTI hTO st1 st2 hend fun h' tk x kp hst => ?_)
  obtain ⟨o, ho, hc⟩ := hst
  refine wpAny_bind (wpAny_isInstance (T := "StopIteration") (b := true) ⟨o, ho, hc⟩ isSubtype_stop ?_)
  exact wpAny_pure (hQ _ _ kp)
end

/-! ### enumerate(z) of a zip -/
section
variable {z : Addr}
set_option maxHeartbeats 1000000 in
theorem meets_enum_zip {f0 : Value} {f1 : Bool} {TI TO : Addr} (hf : f0 = .none) (hf1 : f1 = false) :
    Meets (Builtin.«enumerate.__new__» ⟨[.type "enumerate", .ref z], []⟩) (fun _ R s => ZRec s.heap z f0 f1 TI TO ∧
      R (.ok (.ret (.ref s.heap.objs.size))) { s with heap := s.heap.push { cls := .type "enumerate", data := .fields #[.none, .bool false, .ref z, rawInt 0, .none, .none] } }) :=
  .of_wp fun prog w A R s h => by
    subst hf hf1
    obtain ⟨hp, gs, dr, tk, os⟩ := s
    obtain ⟨h1, h⟩ := h
    have hsub := sub_enumerate
    have q1 : ∀ {A' : Around} {E : Value → Shared → Prop} {Q : Value → Shared → Prop}, Q (.ref z) ⟨hp, gs, dr, tk, os⟩ → wpAny (model prog w) A' (pyIter (.ref z)) Q E ⟨hp, gs, dr, tk, os⟩ :=
      fun q => wpAny_pyIter_zip (s := ⟨hp, gs, dr, tk, os⟩) h1 q
    wp_walk using q1
    refine wpAny_stack_any fun st => wpAny_pure ?_
    split
    · rename_i c _ _ _ _ _
      cases (c == Value.type "enumerate")
      · wp_walk using q1
        exact ⟨_, rfl, h⟩
      · wp_walk using q1
        exact ⟨_, rfl, h⟩
    · wp_walk using q1
      exact ⟨_, rfl, h⟩
end
end DL
/-! ZG: zip, enumerate as things walked over data. -/
namespace DL
open PySem PySem.Spec PyProof.Rows L2
variable [HasT]

/-! ### a list or a tuple at an address -/
def SIt (k : Bool) (h : Heap) (it a : Addr) (i : Nat) : Prop := match k with
  | true => h.IsTupleIter it a i
  | false => h.IsListIter it a i
def SOb (k : Bool) (h : Heap) (a : Addr) (items : Array Value) : Prop := match k with
  | true => h.IsTuple a items
  | false => h.IsList a items
def sobj (k : Bool) (a : Addr) : Obj := { cls := .type (match k with | true => "tuple_iterator" | false => "list_iterator"), data := .fields #[.ref a, .int 0 0] }
def kindD : D → Bool
  | .tup _ => true
  | _ => false
theorem sdraws {prog : Program} {w : World} {A : Around} (k : Bool) (hh : A.handled = none) (it a : Addr) (hne : a ≠ it) (items : Array Value) :
    Draws prog w A it [it, a] items.size (fun i v => items[i]? = some v) (fun i h => SIt k h it a i ∧ SOb k h a items) := by
  cases k with
  | true => exact Draws.tuple hh it a hne items
  | false => exact Draws.list hh it a hne items
theorem sbegins (k : Bool) (a : Addr) (items : Array Value) : Begins (.ref a) (sobj k a) fun h => SOb k h a items := by
  cases k with
  | true => exact begins_tuple a items
  | false => exact begins_list a items
theorem sit_start {k : Bool} {h : Heap} {it a : Addr} (e : h.get? it = some (sobj k a)) : SIt k h it a 0 := by
  cases k with
  | true => exact ⟨_, e, rfl, rfl⟩
  | false => exact ⟨_, e, rfl, rfl⟩
theorem SIt.at_ {k : Bool} {h h' : Heap} {it a : Addr} {i : Nat} (x : SIt k h it a i) (e : ∀ o, h.get? it = some o → h'.get? it = some o) : SIt k h' it a i := by
  cases k with
  | true => exact Heap.IsTupleIter.at (show h.IsTupleIter it a i from x) e
  | false => exact Heap.IsListIter.at (show h.IsListIter it a i from x) e
theorem SIt.obj {k : Bool} {h : Heap} {it a : Addr} {i : Nat} (x : SIt k h it a i) : ∃ o, h.get? it = some o ∧ ∀ v, o.data ≠ .cell v := by
  cases k with
  | true =>
    obtain ⟨o, e, _, d⟩ := (show h.IsTupleIter it a i from x)
    exact ⟨o, e, fun v q => by rw [d] at q; cases q⟩
  | false =>
    obtain ⟨o, e, _, d⟩ := (show h.IsListIter it a i from x)
    exact ⟨o, e, fun v q => by rw [d] at q; cases q⟩
structure Src (K : PySem.W.Frag) (x : D) (a : Addr) (xs : List D) (H : Hp) (A : List Addr) (S : Store) : Prop where
  rs : RelS K H A S
  rd : RelD K H A x (.ref a)
  sq : seqOf S x xs
theorem src_inv {X : Cx} {pins : List (Addr × Obj)} {σ : L2.St} {H : Hp} {s : Shared} {A : List Addr} {S : Store} {x : D} {a : Addr} {xs : List D} (I : Inv X pins σ H s) (h : Src X.K x a xs H A S) :
    ∃ its vs, Vals vs its ∧ RelDs X.K H A xs vs ∧ SOb (kindD x) s.heap a its.toArray ∧ its.length = xs.length := by
  rcases h.sq with e | e | ⟨n, e, hn⟩
  · have r := h.rd
    subst e
    obtain ⟨a', vs, e', h2, h3⟩ := r
    cases e'
    obtain ⟨its, rv, p, _⟩ := I.tuple h2.sq
    exact ⟨its, vs, rv, h3, p, by rw [← rv.length, h3.len]⟩
  · have r := h.rd
    subst e
    obtain ⟨a', vs, e', h2, h3⟩ := r
    cases e'
    obtain ⟨its, rv, p, _⟩ := I.list h2.sq
    exact ⟨its, vs, rv, h3, p.isList, by rw [← rv.length, h3.len]⟩
  · have r := h.rd
    subst e
    obtain ⟨a', e', ha⟩ := r
    cases e'
    obtain ⟨vs, h2, h3⟩ := h.rs.get hn ha
    obtain ⟨its, rv, p, _⟩ := I.list (.inl (.inl h2) : SqL X.K H a vs)
    exact ⟨its, vs, rv, h3, p.isList, by rw [← rv.length, h3.len]⟩
theorem Src.lt {X : Cx} {pins : List (Addr × Obj)} {σ : L2.St} {H : Hp} {s : Shared} {A : List Addr} {S : Store} {x : D} {a : Addr} {xs : List D} (I : Inv X pins σ H s) (h : Src X.K x a xs H A S) : a < s.heap.objs.size := by
  obtain ⟨its, vs, _, _, p, _⟩ := src_inv I h
  cases q : kindD x with
  | true =>
    rw [q] at p
    obtain ⟨o, e, _⟩ := (show s.heap.IsTuple a its.toArray from p)
    exact Heap.lt_size e
  | false =>
    rw [q] at p
    obtain ⟨o, e, _⟩ := (show s.heap.IsList a its.toArray from p)
    exact Heap.lt_size e
/-- the i-th item as the library's rules give it -/
theorem src_item {K : PySem.W.Frag} {H : Hp} {A : List Addr} {xs : List D} {vs : List V} {its : List Value} {i : Nat} {u : Value} (rv : Vals vs its) (r : RelDs K H A xs vs) (h : its.toArray[i]? = some u) : ∃ v d, RelV v u ∧ xs[i]? = some d ∧ RelD K H A d v := by
  have h' : its[i]? = some u := by simpa using h
  have hl := rv.length
  have hi := (List.getElem?_eq_some_iff.mp h').1
  have hi2 : i < vs.length := by omega
  obtain ⟨u', e1, e2⟩ := rv.get (List.getElem?_eq_getElem hi2)
  rw [h'] at e1
  cases e1
  obtain ⟨d, q1, q2⟩ := r.getV (List.getElem?_eq_getElem hi2)
  exact ⟨vs[i], d, e2, q1, q2⟩
/-- the value that stands i-th in the thing at a -/
def ValAt (K : PySem.W.Frag) (x : D) (a : Addr) (i : Nat) (H : Hp) (v : V) : Prop := ∀ A S xs, Src K x a xs H A S → ∃ d, xs[i]? = some d ∧ RelD K H A d v
theorem valAt_of {X : Cx} {pins : List (Addr × Obj)} {σ : L2.St} {H : Hp} {s : Shared} {x : D} {a : Addr} {i : Nat} {u : Value} {v : V} {its : List Value} (I : Inv X pins σ H s) (p : SOb (kindD x) s.heap a its.toArray) (h : its.toArray[i]? = some u) (ru : RelV v u) : ValAt X.K x a i H v := by
  intro A S xs sr
  obtain ⟨its', vs', rv', r', p', _⟩ := src_inv I sr
  have e : its = its' := by
    have q : its.toArray = its'.toArray := by
      cases k : kindD x with
      | true =>
        rw [k] at p p'
        obtain ⟨o, e1, _, n1, d1⟩ := (show s.heap.IsTuple a its.toArray from p)
        obtain ⟨o', e2, _, n2, d2⟩ := (show s.heap.IsTuple a its'.toArray from p')
        rw [e1] at e2
        cases e2
        rw [d1] at d2
        injection d2
      | false =>
        rw [k] at p p'
        obtain ⟨o, e1, _, n1, d1⟩ := (show s.heap.IsList a its.toArray from p)
        obtain ⟨o', e2, _, n2, d2⟩ := (show s.heap.IsList a its'.toArray from p')
        rw [e1] at e2
        cases e2
        rw [d1] at d2
        injection d2
    simpa using congrArg Array.toList q
  subst e
  obtain ⟨v', d, rv2, hd, rd⟩ := src_item rv' r' h
  rw [ru.inj rv2]
  exact ⟨d, hd, rd⟩

/-! ### zip of three -/
def It3 (K : PySem.W.Frag) (x1 x2 x3 : D) (a1 a2 a3 : Addr) : It where
  go := fun i H => ∃ A S xs1 xs2 xs3, Src K x1 a1 xs1 H A S ∧ Src K x2 a2 xs2 H A S ∧ Src K x3 a3 xs3 H A S ∧ i < xs1.length ∧ i < xs2.length ∧ i < xs3.length
  yld := fun i H x H' => ∃ T v1 v2 v3, x = .ref T ∧ H T = none ∧ H' = upd H T (.tup [v1, v2, v3]) ∧ ValAt K x1 a1 i H v1 ∧ ValAt K x2 a2 i H v2 ∧ ValAt K x3 a3 i H v3
  stop := fun i H => ∃ A S xs1 xs2 xs3, Src K x1 a1 xs1 H A S ∧ Src K x2 a2 xs2 H A S ∧ Src K x3 a3 xs3 H A S ∧ i = min (min xs1.length xs2.length) xs3.length
theorem turn3 {P : Program} {w : World} {K : PySem.W.Frag} {elts : List Expr} {kk : Nat} {tpos : Pos} {x1 x2 x3 : D} {a1 a2 a3 z TI TO i1 i2 i3 : Addr} (S3 : ZipSep3 z TI TO i1 i2 i3 [i1, a1] [i2, a2] [i3, a3]) (n1 : a1 ≠ i1) (n2 : a2 ≠ i2) (n3 : a3 ≠ i3) :
    Turn P w K (.Tuple elts kk tpos) (It3 K x1 x2 x3 a1 a2 a3) [z, TI, TO, i1, i2, i3] z (fun i h => IsZip h z TI TO .none ∧ IsTupOf3 h TI (.ref i1) (.ref i2) (.ref i3) ∧ (∃ b1 b2 b3, IsTupOf3 h TO b1 b2 b3) ∧ SIt (kindD x1) h i1 a1 i ∧ SIt (kindD x2) h i2 a2 i ∧ SIt (kindD x3) h i3 a3 i) where
  mem := by simp
  obj := fun i h st c hc => by
    obtain ⟨hz, hTI, ⟨_, _, _, hTO⟩, h1, h2, h3⟩ := st
    have hc' : c = z ∨ c = TI ∨ c = TO ∨ c = i1 ∨ c = i2 ∨ c = i3 := by simpa using hc
    rcases hc' with rfl | rfl | rfl | rfl | rfl | rfl
    · exact ⟨_, hz, fun v q => nomatch q⟩
    · exact ⟨_, hTI, fun v q => nomatch q⟩
    · exact ⟨_, hTO, fun v q => nomatch q⟩
    · exact h1.obj
    · exact h2.obj
    · exact h3.obj
  keep := fun i h h' st k => by
    obtain ⟨hz, hTI, ⟨b1, b2, b3, hTO⟩, h1, h2, h3⟩ := st
    exact ⟨k z (by simp) _ hz, k TI (by simp) _ hTI, ⟨b1, b2, b3, k TO (by simp) _ hTO⟩, h1.at_ fun o q => k i1 (by simp) o q, h2.at_ fun o q => k i2 (by simp) o q, h3.at_ fun o q => k i3 (by simp) o q⟩
  item := by
    intro X hP hw hK hc i pins s σ H E I hf st hg
    subst hP hw hK
    obtain ⟨hz, hTI, hTO, h1, h2, h3⟩ := st
    obtain ⟨A, S, xs1, xs2, xs3, c1, c2, c3, l1, l2, l3⟩ := hg
    obtain ⟨t1, vs1, rv1, r1, p1, m1⟩ := src_inv I c1
    obtain ⟨t2, vs2, rv2, r2, p2, m2⟩ := src_inv I c2
    obtain ⟨t3, vs3, rv3, r3, p3, m3⟩ := src_inv I c3
    have hh : X.A.in1.handled = none := I.ok.hd hc
    have G := GoesN.zip3 (prog := X.prog) (w := X.w) (A := X.A) (elts := elts) (x1 := kk) (pos := tpos) S3 (sdraws (kindD x1) hh i1 a1 n1 t1.toArray) (sdraws (kindD x2) hh i2 a2 n2 t2.toArray) (sdraws (kindD x3) hh i3 a3 n3 t3.toArray)
    have hlt : i < min (min t1.toArray.size t2.toArray.size) t3.toArray.size := by
      simp only [List.size_toArray]
      omega
    refine thn (G.goes i s (fun v s2 => ∃ x H', Inv X pins σ H' s2 ∧ RelV x v ∧ (It3 X.K x1 x2 x3 a1 a2 a3).yld i H x H' ∧ (IsZip s2.heap z TI TO .none ∧ IsTupOf3 s2.heap TI (.ref i1) (.ref i2) (.ref i3) ∧ (∃ b1 b2 b3, IsTupOf3 s2.heap TO b1 b2 b3) ∧ SIt (kindD x1) s2.heap i1 a1 (i + 1) ∧ SIt (kindD x2) s2.heap i2 a2 (i + 1) ∧ SIt (kindD x3) s2.heap i3 a3 (i + 1)) ∧ ∀ b ∈ [z, TI, TO, i1, i2, i3], H' b = none) _ hlt ⟨hz, hTI, hTO, ⟨h1, p1⟩, ⟨h2, p2⟩, ⟨h3, p3⟩⟩ fun v h' tk hY st' hkp htk => ?_) fun r s1 q => q
    obtain ⟨T, u1, u2, u3, rfl, hnew, y1, y2, y3, hT⟩ := hY
    obtain ⟨v1, d1, ru1, hd1, rd1⟩ := src_item rv1 r1 y1
    obtain ⟨v2, d2, ru2, hd2, rd2⟩ := src_item rv2 r2 y2
    obtain ⟨v3, d3, ru3, hd3, rd3⟩ := src_item rv3 r3 y3
    have nw : ObjOk X.prog X.w (upd H T (.tup [v1, v2, v3])) h' T (.tup [v1, v2, v3]) := ⟨by show 3 ≤ sizeLine; decide, [u1, u2, u3], .cons ru1 (.cons ru2 (.cons ru3 .nil)), hT⟩
    have I1 : Inv X pins σ (upd H T (.tup [v1, v2, v3])) { s with heap := h', toks := tk } := I.turnedNew (ch := [z, TI, TO, i1, i2, i3]) (fun c o hb q => hkp c o (fun q' => hb (by simp at q' ⊢; rcases q' with e | e | e | e | e <;> simp [e])) q) hf hnew nw
    obtain ⟨g1, g2, g3, ⟨g4, _⟩, ⟨g5, _⟩, ⟨g6, _⟩⟩ := st'
    refine ⟨.ref T, _, I1, rfl, ⟨T, v1, v2, v3, rfl, I.hok.fresh hnew, rfl, valAt_of I p1 y1 ru1, valAt_of I p2 y2 ru2, valAt_of I p3 y3 ru3⟩, ⟨g1, g2, g3, g4, g5, g6⟩, fun c hcm => ?_⟩
    obtain ⟨o, ho, _⟩ : ∃ o, s.heap.get? c = some o ∧ True := by
      obtain ⟨b1, b2, b3, hTO'⟩ := hTO
      have hc' : c = z ∨ c = TI ∨ c = TO ∨ c = i1 ∨ c = i2 ∨ c = i3 := by simpa using hcm
      rcases hc' with rfl | rfl | rfl | rfl | rfl | rfl
      · exact ⟨_, hz, trivial⟩
      · exact ⟨_, hTI, trivial⟩
      · exact ⟨_, hTO', trivial⟩
      · exact ⟨_, h1.obj.choose_spec.1, trivial⟩
      · exact ⟨_, h2.obj.choose_spec.1, trivial⟩
      · exact ⟨_, h3.obj.choose_spec.1, trivial⟩
    rw [upd_ne (Nat.ne_of_lt (Nat.lt_of_lt_of_le (Heap.lt_size ho) hnew))]
    exact (hf c hcm).1
  done := by
    intro X hP hw hK hc i pins s σ H E I hf st hg
    subst hP hw hK
    obtain ⟨hz, hTI, hTO, h1, h2, h3⟩ := st
    obtain ⟨A, S, xs1, xs2, xs3, c1, c2, c3, hi⟩ := hg
    obtain ⟨t1, vs1, rv1, r1, p1, m1⟩ := src_inv I c1
    obtain ⟨t2, vs2, rv2, r2, p2, m2⟩ := src_inv I c2
    obtain ⟨t3, vs3, rv3, r3, p3, m3⟩ := src_inv I c3
    have hh : X.A.in1.handled = none := I.ok.hd hc
    have G := GoesN.zip3 (prog := X.prog) (w := X.w) (A := X.A) (elts := elts) (x1 := kk) (pos := tpos) S3 (sdraws (kindD x1) hh i1 a1 n1 t1.toArray) (sdraws (kindD x2) hh i2 a2 n2 t2.toArray) (sdraws (kindD x3) hh i3 a3 n3 t3.toArray)
    have hi' : i = min (min t1.toArray.size t2.toArray.size) t3.toArray.size := by
      simp only [List.size_toArray]
      rw [m1, m2, m3]
      exact hi
    subst hi'
    exact G.stops s _ _ ⟨hz, hTI, hTO, ⟨h1, p1⟩, ⟨h2, p2⟩, ⟨h3, p3⟩⟩ fun h' tk hkp htk => I.turnedL (ch := [z, TI, TO, i1, i2, i3]) (fun c o hb q => hkp c o (fun q' => hb (by simp at q' ⊢; rcases q' with e | e | e | e | e <;> simp [e])) q) hf
  self := fun A i s Q E st h => wpAny_pyIter_zip st.1 h

def zip3D (xs ys zs : List D) : List D := (xs.zip (ys.zip zs)).map fun p => D.ztup [p.1, p.2.1, p.2.2]
theorem zip3D_len (xs ys zs : List D) : (zip3D xs ys zs).length = min (min xs.length ys.length) zs.length := by
  simp only [zip3D, List.length_map, List.length_zip]
  omega
theorem zip3D_get {xs ys zs : List D} {i : Nat} {d : D} (h : (zip3D xs ys zs)[i]? = some d) : ∃ a b c, xs[i]? = some a ∧ ys[i]? = some b ∧ zs[i]? = some c ∧ d = .ztup [a, b, c] := by
  have hi := (List.getElem?_eq_some_iff.mp h).1
  rw [zip3D_len] at hi
  have h1 : i < xs.length := by omega
  have h2 : i < ys.length := by omega
  have h3 : i < zs.length := by omega
  refine ⟨xs[i], ys[i], zs[i], List.getElem?_eq_getElem h1, List.getElem?_eq_getElem h2, List.getElem?_eq_getElem h3, ?_⟩
  obtain ⟨_, e⟩ := List.getElem?_eq_some_iff.mp h
  rw [← e]
  simp [zip3D]
def wZip3 (t : DA) : DIt := fun ρ S post => t ρ S fun ds S1 => ∃ x y u xs ys us, ds = [x, y, u] ∧ seqOf S1 x xs ∧ seqOf S1 y ys ∧ seqOf S1 u us ∧ post (zip3D xs ys us) (fun S2 => seqOf S2 x xs ∧ seqOf S2 y ys ∧ seqOf S2 u us) S1
theorem rels3 {K : PySem.W.Frag} {H : Hp} {A : List Addr} {d e f : D} {vs : List V} (r : RelDs K H A [d, e, f] vs) : ∃ v u w, vs = [v, u, w] ∧ RelD K H A d v ∧ RelD K H A e u ∧ RelD K H A f w := by
  obtain ⟨v, w, rfl, h1, h2⟩ := r
  obtain ⟨u, w', rfl, h3, h4⟩ := rels2 h2
  exact ⟨v, u, w', rfl, h1, h3, h4⟩
theorem seq_ref {K : PySem.W.Frag} {H : Hp} {A : List Addr} {S : Store} {x : D} {xs : List D} {v : V} (s : RelS K H A S) (q : seqOf S x xs) (r : RelD K H A x v) : ∃ a, v = .ref a := by
  obtain ⟨a, _, e, _⟩ := q.rel s r
  exact ⟨a, e⟩
theorem tup_rel {K : PySem.W.Frag} {H : Hp} {A : List Addr} {T : Addr} {vs : List V} {ds : List D} (hT : H T = none) (r : RelDs K H A ds vs) : RelD K (upd H T (.tup vs)) A (.ztup ds) (.ref T) :=
  ⟨T, vs, rfl, .inl (.inl upd_same), r.ext (Ext.same (same_upd hT))⟩
theorem itok3 {K : PySem.W.Frag} {H : Hp} {A : List Addr} {x y u : D} {a b c : Addr} {xs ys us : List D} (rx : RelD K H A x (.ref a)) (ry : RelD K H A y (.ref b)) (ru : RelD K H A u (.ref c)) :
    ItOk K (It3 K x y u a b c) H A (zip3D xs ys us) fun S2 => seqOf S2 x xs ∧ seqOf S2 y ys ∧ seqOf S2 u us := by
  intro H2 A2 S2 e s ⟨q1, q2, q3⟩
  have s1 : Src K x a xs H2 A2 S2 := ⟨s, rx.ext e, q1⟩
  have s2 : Src K y b ys H2 A2 S2 := ⟨s, ry.ext e, q2⟩
  have s3 : Src K u c us H2 A2 S2 := ⟨s, ru.ext e, q3⟩
  refine ⟨⟨A2, S2, xs, ys, us, s1, s2, s3, zip3D_len ..⟩, fun i d hd => ?_⟩
  obtain ⟨d1, d2, d3, h1, h2, h3, rfl⟩ := zip3D_get hd
  refine ⟨⟨A2, S2, xs, ys, us, s1, s2, s3, (List.getElem?_eq_some_iff.mp h1).1, (List.getElem?_eq_some_iff.mp h2).1, (List.getElem?_eq_some_iff.mp h3).1⟩, fun v H3 hy => ?_⟩
  obtain ⟨T, v1, v2, v3, rfl, hT, rfl, w1, w2, w3⟩ := hy
  obtain ⟨e1, g1, r1⟩ := w1 A2 S2 xs s1
  obtain ⟨e2, g2, r2⟩ := w2 A2 S2 ys s2
  obtain ⟨e3, g3, r3⟩ := w3 A2 S2 us s3
  rw [h1] at g1
  rw [h2] at g2
  rw [h3] at g3
  cases g1
  cases g2
  cases g3
  exact ⟨same_upd hT, tup_rel hT ⟨v1, _, rfl, r1, v2, _, rfl, r2, v3, _, rfl, r3, rfl⟩⟩
theorem di_zip3 {X : Cx} {e1 e2 e3 : Expr} {t : DA} {p pos tpos : Pos} {elts : List Expr} {kk : Nat} (hg : Gl X "zip") (hm : X.mg "zip" = none) (ha : PA X [e1, e2, e3] (liftA X.K t))
    (hs : starEach [e1, e2, e3] X.env = (false, eval e1 X.env) :: starEach [e2, e3] X.env := by rfl) (hpl : (backTo pos (starEach [e2, e3] X.env)).any (·.1) = false := by rfl) :
    PI X (.Tuple elts kk tpos) (.Call (.Name "zip" p) [e1, e2, e3] [] pos) (liftI X.K (wZip3 t)) := by
  refine ⟨fun pins s σ H R I ⟨A, ρ, S, post, n, rs, h, k⟩ => ?_⟩
  refine Call_ (ld_blt I hg hm PyProof.Rows.boot_zip (PyProof.Rows.callWith_type1 (thn (ha.run pos pins s σ H (fun vs H1 => ∃ a b c A1 S1 x y u xs ys us, vs = [.ref a, .ref b, .ref c] ∧ Ext H A H1 A1 ∧ Src X.K x a xs H1 A1 S1 ∧ Src X.K y b ys H1 A1 S1 ∧ Src X.K u c us H1 A1 S1 ∧ post (zip3D xs ys us) (fun S2 => seqOf S2 x xs ∧ seqOf S2 y ys ∧ seqOf S2 u us) S1) I
    ⟨A, ρ, S, _, n, rs, h, fun vs H1 A1 ds S1 e s1 r hh => ?_⟩) fun us s1 ⟨vs, H1, I1, r1, q1⟩ => ?_) hs hpl))
  · obtain ⟨x, y, u, xs, ys, us, rfl, q1, q2, q3, hp⟩ := hh
    obtain ⟨v1, v2, v3, rfl, r1, r2, r3⟩ := rels3 r
    obtain ⟨a, rfl⟩ := seq_ref s1 q1 r1
    obtain ⟨b, rfl⟩ := seq_ref s1 q2 r2
    obtain ⟨c, rfl⟩ := seq_ref s1 q3 r3
    exact ⟨a, b, c, A1, S1, x, y, u, xs, ys, us, rfl, e, ⟨s1, r1, q1⟩, ⟨s1, r2, q2⟩, ⟨s1, r3, q3⟩, hp⟩
  · obtain ⟨a, b, c, A1, S1, x, y, u, xs, ys, us', rfl, e, c1, c2, c3, hp⟩ := q1
    cases r1 with
    | cons w1 r1 =>
      cases r1 with
      | cons w2 r1 =>
        cases r1 with
        | cons w3 r1 =>
          cases r1
          cases w1
          cases w2
          cases w3
          obtain ⟨t1, _, _, _, p1, _⟩ := src_inv I1 c1
          obtain ⟨t2, _, _, _, p2, _⟩ := src_inv I1 c2
          obtain ⟨t3, _, _, _, p3, _⟩ := src_inv I1 c3
          have la := c1.lt I1
          have lb := c2.lt I1
          have lc := c3.lt I1
          refine zip_begins3 (sbegins (kindD x) a t1.toArray) (sbegins (kindD y) b t2.toArray) (sbegins (kindD u) c t3.toArray) p1 p2 p3 fun h' hz hTI hTO o1 o2 o3 hsz hk => wpAny_pyIter_zip hz ?_
          have I2 : Inv X pins σ H1 { s1 with heap := h' } := I1.kept (t' := s1.toks) hk
          have off : ∀ {N a : Nat} (j : Nat), a < N → a ≠ N + j := fun j q => by omega
          have off0 : ∀ {N a : Nat}, a < N → a ≠ N := fun q => by omega
          have sep := zip_sep3 (N := s1.heap.objs.size) (fp1 := [a]) (fp2 := [b]) (fp3 := [c]) (fun b' hb => by rw [List.mem_singleton.mp hb]; exact la) (fun b' hb => by rw [List.mem_singleton.mp hb]; exact lb) (fun b' hb => by rw [List.mem_singleton.mp hb]; exact lc)
          refine ⟨_, _, _, It3 X.K x y u a b c, H1, rfl, I2, turn3 sep (off0 la) (off 1 lb) (off 2 lc), ⟨hz, hTI, ⟨_, _, _, hTO⟩, sit_start o1, sit_start o2, sit_start o3⟩, fun d hd => ?_, k _ H1 A1 _ _ S1 e c1.rs (itok3 c1.rd c2.rd c3.rd) hp⟩
          have hle : s1.heap.objs.size ≤ d := by
            have hd' : d = s1.heap.objs.size + 5 ∨ d = s1.heap.objs.size + 3 ∨ d = s1.heap.objs.size + 4 ∨ d = s1.heap.objs.size ∨ d = s1.heap.objs.size + 1 ∨ d = s1.heap.objs.size + 2 := by simpa using hd
            rcases hd' with q | q | q | q | q | q
            · rw [q]; exact Nat.le_add_right _ _
            · rw [q]; exact Nat.le_add_right _ _
            · rw [q]; exact Nat.le_add_right _ _
            · rw [q]; exact Nat.le_refl _
            · rw [q]; exact Nat.le_add_right _ _
            · rw [q]; exact Nat.le_add_right _ _
          exact I1.fpOk hle (I1.hok.fresh hle)
end DL
/-! ZH: enumerate(zip(x, y)) walked over data. -/
namespace DL
open PySem PySem.Spec PyProof.Rows L2
variable [HasT]

/-- a thing that nobody knew is tracked from now on -/
theorem inv_track {X : Cx} {pins : List (Addr × Obj)} {σ : L2.St} {H : Hp} {s : Shared} {T : Addr} {ob : HO} (I : Inv X pins σ H s) (hf : FpOk X pins H T) (nw : ObjOk X.prog X.w (upd H T ob) s.heap T ob) : Inv X pins σ (upd H T ob) s := by
  have hn : H T = none := hf.1
  have ne : ∀ b u, H b = some u → b ≠ T := fun b u q => ne_of_none q hn
  refine I.step (h' := s.heap) (g' := s.gens) (d' := s.drawn) (t' := s.toks) (ch := [T]) (fun b hb => ?_) (fun b o _ _ _ q _ => q) (fun b o _ _ _ q _ => ⟨o.slots, q⟩) (fun b o hb q n => ?_) (fun b o _ q => ⟨o, q⟩) (fun b xs q => ?_) (fun b o u q => ?_) (fun b ps q => ⟨#[], ?_⟩) (fun m hm => hm) (fun b u q => ?_) I.bare
  · rw [List.mem_singleton.mp hb]
    exact ⟨hf.2.2.2.1, hf.2.1, hf.2.2.2.2.1, hf.2.2.2.2.2⟩
  · rw [upd_ne (fun z => hb (by rw [z]; exact List.mem_singleton.mpr rfl))]
    exact n
  · rw [upd_ne (ne _ _ q)]
    exact q
  · rw [upd_ne (ne _ _ q)]
    exact q
  · rw [upd_ne (ne _ _ q), q]
    simp
  · by_cases hb : b = T
    · subst hb
      rw [upd_same] at q
      cases q
      exact nw
    · rw [upd_ne hb] at q
      exact (I.hok b u q).stay (fun c v _ r => r) (fun c r => by rw [upd_ne (ne _ _ r)]; exact r) fun c xs r => by rw [upd_ne (ne _ _ r)]; exact r

def ItE (K : PySem.W.Frag) (x1 x2 : D) (a1 a2 : Addr) : It where
  go := fun i H => ∃ A S xs1 xs2, Src K x1 a1 xs1 H A S ∧ Src K x2 a2 xs2 H A S ∧ i < xs1.length ∧ i < xs2.length
  yld := fun i H x H' => ∃ T U v1 v2, x = .ref U ∧ H T = none ∧ upd H T (.tup [v1, v2]) U = none ∧ H' = upd (upd H T (.tup [v1, v2])) U (.tup [.int i, .ref T]) ∧ ValAt K x1 a1 i H v1 ∧ ValAt K x2 a2 i H v2
  stop := fun i H => ∃ A S xs1 xs2, Src K x1 a1 xs1 H A S ∧ Src K x2 a2 xs2 H A S ∧ (i = xs1.length ∨ (i < xs1.length ∧ i = xs2.length))
def TnE (x1 x2 : D) (a1 a2 e z TI TO i1 i2 : Addr) (i : Nat) (h : Heap) : Prop :=
  (∃ old, IsEnum h e z (i : Int) old) ∧ (∃ f0 f1, ZF f0 ∧ ZRec h z f0 f1 TI TO) ∧ IsTupOf2 h TI (.ref i1) (.ref i2) ∧ (∃ b1 b2, IsTupOf2 h TO b1 b2) ∧ SIt (kindD x1) h i1 a1 i ∧ SIt (kindD x2) h i2 a2 i
theorem turnE {P : Program} {w : World} {K : PySem.W.Frag} {elts : List Expr} {kk : Nat} {tpos : Pos} {x1 x2 : D} {a1 a2 e z TI TO i1 i2 : Addr} (S2 : ZipSep2 z TI TO i1 i2 [i1, a1] [i2, a2]) (ee : e ≠ z ∧ e ≠ TI ∧ e ≠ TO ∧ e ∉ [i1, a1] ∧ e ∉ [i2, a2]) (n1 : a1 ≠ i1) (n2 : a2 ≠ i2) :
    Turn P w K (.Tuple elts kk tpos) (ItE K x1 x2 a1 a2) [e, z, TI, TO, i1, i2] e (TnE x1 x2 a1 a2 e z TI TO i1 i2) where
  mem := by simp
  obj := fun i h st c hc => by
    obtain ⟨⟨old, he⟩, ⟨f0, f1, _, hz⟩, hTI, ⟨_, _, hTO⟩, h1, h2⟩ := st
    have hc' : c = e ∨ c = z ∨ c = TI ∨ c = TO ∨ c = i1 ∨ c = i2 := by simpa using hc
    rcases hc' with rfl | rfl | rfl | rfl | rfl | rfl
    · exact ⟨_, he, fun v q => nomatch q⟩
    · exact ⟨_, hz, fun v q => nomatch q⟩
    · exact ⟨_, hTI, fun v q => nomatch q⟩
    · exact ⟨_, hTO, fun v q => nomatch q⟩
    · exact h1.obj
    · exact h2.obj
  keep := fun i h h' st k => by
    obtain ⟨⟨old, he⟩, ⟨f0, f1, hf, hz⟩, hTI, ⟨b1, b2, hTO⟩, h1, h2⟩ := st
    exact ⟨⟨old, k e (by simp) _ he⟩, ⟨f0, f1, hf, k z (by simp) _ hz⟩, k TI (by simp) _ hTI, ⟨b1, b2, k TO (by simp) _ hTO⟩, h1.at_ fun o q => k i1 (by simp) o q, h2.at_ fun o q => k i2 (by simp) o q⟩
  item := by
    intro X hP hw hK hc i pins s σ H E I hf st hg
    subst hP hw hK
    obtain ⟨⟨old, he⟩, ⟨f0, f1, hzf, hz⟩, hTI, hTO, h1, h2⟩ := st
    obtain ⟨A, S, xs1, xs2, c1, c2, l1, l2⟩ := hg
    obtain ⟨t1, vs1, rv1, r1, p1, m1⟩ := src_inv I c1
    obtain ⟨t2, vs2, rv2, r2, p2, m2⟩ := src_inv I c2
    have hh : X.A.in1.in1.handled = none := I.ok.hd hc
    have D1 := sdraws (prog := X.prog) (w := X.w) (kindD x1) hh i1 a1 n1 t1.toArray
    have D2 := sdraws (prog := X.prog) (w := X.w) (kindD x2) hh i2 a2 n2 t2.toArray
    have q1 : i < t1.toArray.size := by
      rw [List.size_toArray]
      omega
    have q2 : i < t2.toArray.size := by
      rw [List.size_toArray]
      omega
    refine pyNext_ez S2 D1 D2 ee he hz hzf hTI hTO ⟨h1, p1⟩ ⟨h2, p2⟩ q1 q2 fun u1 u2 h' tk t g0 g1 y1 y2 zf' z' TI' TO' s1 s2 T' e' U' hsz hkp => ?_
    refine ⟨_, rfl, wpAny_letOwnedTupleGo_enum (s := { s with heap := h', toks := tk }) e' fun h'' e'' sb => ?_⟩
    replace sb : Heap.SameBut e h' h'' := sb
    have elt : e < s.heap.objs.size := Heap.lt_size he
    obtain ⟨v1, d1, ru1, hd1, rd1⟩ := src_item rv1 r1 y1
    obtain ⟨v2, d2, ru2, hd2, rd2⟩ := src_item rv2 r2 y2
    have nT : (s.heap.objs.size : Nat) ≠ e := Nat.ne_of_gt elt
    have nU : (s.heap.objs.size + 1 : Nat) ≠ e := Nat.ne_of_gt (Nat.lt_succ_of_lt elt)
    have T2 : IsTupOf2 h'' s.heap.objs.size u1 u2 := sb.extBut _ _ nT T'
    have U2 : IsTupOf2 h'' (s.heap.objs.size + 1) (.int (i : Int) t) (.ref s.heap.objs.size) := sb.extBut _ _ nU U'
    have kp : ∀ c o, c ∉ [e, z, TI, TO, i1, i2] → s.heap.get? c = some o → h''.get? c = some o := fun c o hb q =>
      sb.extBut _ _ (fun q' => hb (by simp [q'])) (hkp c o (fun q' => hb (by simp [q'])) (fun q' => hb (by simp [q'])) (fun q' => hb (by simp [q'])) (fun q' => hb (by simp [q'])) (fun q' => hb (by simp [q'])) q)
    have fT : H s.heap.objs.size = none := I.hok.fresh (Nat.le_refl _)
    have nw1 : ObjOk X.prog X.w (upd H s.heap.objs.size (.tup [v1, v2])) h'' s.heap.objs.size (.tup [v1, v2]) := ⟨by show 2 ≤ sizeLine; decide, [u1, u2], .cons ru1 (.cons ru2 .nil), ⟨_, T2, rfl, _, rfl⟩⟩
    have I1 : Inv X pins σ (upd H s.heap.objs.size (.tup [v1, v2])) { s with heap := h'', toks := tk } := I.turnedNew (ch := [e, z, TI, TO, i1, i2]) kp hf (Nat.le_refl _) nw1
    have fU : upd H s.heap.objs.size (.tup [v1, v2]) (s.heap.objs.size + 1) = none := by
      rw [upd_ne (show (s.heap.objs.size + 1 : Nat) ≠ s.heap.objs.size by omega)]
      exact I.hok.fresh (Nat.le_succ _)
    have nw2 : ObjOk X.prog X.w (upd (upd H s.heap.objs.size (.tup [v1, v2])) (s.heap.objs.size + 1) (.tup [.int i, .ref s.heap.objs.size])) h'' (s.heap.objs.size + 1) (.tup [.int i, .ref s.heap.objs.size]) :=
      ⟨by show 2 ≤ sizeLine; decide, [.int i t, .ref s.heap.objs.size], .cons ⟨t, rfl⟩ (.cons rfl .nil), ⟨_, U2, rfl, _, rfl⟩⟩
    have I2 := inv_track I1 (I.fpOk (Nat.le_succ _) fU) nw2
    refine ⟨.ref (s.heap.objs.size + 1), _, I2, rfl, ⟨_, _, v1, v2, rfl, fT, fU, rfl, valAt_of I p1 y1 ru1, valAt_of I p2 y2 ru2⟩, ⟨⟨.ref (s.heap.objs.size), ?_⟩, ⟨g0, g1, zf', sb.extBut _ _ ee.1.symm z'⟩, sb.extBut _ _ ee.2.1.symm TI', ?_, ?_, ?_⟩, fun c hcm => ?_⟩
    · have q : (((i + 1 : Nat) : Int)) = (i : Int) + 1 := by omega
      rw [q]
      exact e''
    · obtain ⟨b1, b2, q⟩ := TO'
      exact ⟨b1, b2, sb.extBut _ _ ee.2.2.1.symm q⟩
    · exact s1.1.at_ fun o q => sb.extBut _ _ (fun q' => ee.2.2.2.1 (by simp [q'])) q
    · exact s2.1.at_ fun o q => sb.extBut _ _ (fun q' => ee.2.2.2.2 (by simp [q'])) q
    · obtain ⟨o, ho⟩ : ∃ o, s.heap.get? c = some o := by
        obtain ⟨b1, b2, hTO'⟩ := hTO
        have hc' : c = e ∨ c = z ∨ c = TI ∨ c = TO ∨ c = i1 ∨ c = i2 := by simpa using hcm
        rcases hc' with rfl | rfl | rfl | rfl | rfl | rfl
        · exact ⟨_, he⟩
        · exact ⟨_, hz⟩
        · exact ⟨_, hTI⟩
        · exact ⟨_, hTO'⟩
        · exact ⟨_, h1.obj.choose_spec.1⟩
        · exact ⟨_, h2.obj.choose_spec.1⟩
      have lt := Heap.lt_size ho
      rw [upd_ne (Nat.ne_of_lt (Nat.lt_succ_of_lt lt)), upd_ne (Nat.ne_of_lt lt)]
      exact (hf c hcm).1
  done := by
    intro X hP hw hK hc i pins s σ H E I hf st hg
    subst hP hw hK
    obtain ⟨⟨old, he⟩, ⟨f0, f1, hzf, hz⟩, hTI, hTO, h1, h2⟩ := st
    obtain ⟨A, S, xs1, xs2, c1, c2, hi⟩ := hg
    obtain ⟨t1, vs1, rv1, r1, p1, m1⟩ := src_inv I c1
    obtain ⟨t2, vs2, rv2, r2, p2, m2⟩ := src_inv I c2
    have hh : X.A.in1.in1.handled = none := I.ok.hd hc
    have D1 := sdraws (prog := X.prog) (w := X.w) (kindD x1) hh i1 a1 n1 t1.toArray
    have D2 := sdraws (prog := X.prog) (w := X.w) (kindD x2) hh i2 a2 n2 t2.toArray
    have hi' : i = t1.toArray.size ∨ (i < t1.toArray.size ∧ i = t2.toArray.size) := by
      simp only [List.size_toArray]
      rw [m1, m2]
      exact hi
    exact pyNext_ez_end S2 D1 D2 he hz hzf hTI hTO ⟨h1, p1⟩ ⟨h2, p2⟩ hi' fun h' tk hkp => ⟨rfl, I.turnedL (ch := [e, z, TI, TO, i1, i2]) (fun c o hb q => hkp c o (fun q' => hb (by simp [q'])) (fun q' => hb (by simp [q'])) (fun q' => hb (by simp [q'])) (fun q' => hb (by simp [q'])) q) hf⟩
  self := fun A i s Q E st h => by
    obtain ⟨⟨old, he⟩, _⟩ := st
    exact wpAny_pyIter_enum he h

def ezD (xs ys : List D) : List D := (List.range (min xs.length ys.length)).map fun (i : Nat) => D.ztup [.int (i : Int), .ztup [xs.getD i .non, ys.getD i .non]]
theorem ezD_len (xs ys : List D) : (ezD xs ys).length = min xs.length ys.length := by simp [ezD]
theorem ezD_get {xs ys : List D} {i : Nat} {d : D} (h : (ezD xs ys)[i]? = some d) : ∃ a b, xs[i]? = some a ∧ ys[i]? = some b ∧ d = .ztup [.int (i : Int), .ztup [a, b]] := by
  have hi := (List.getElem?_eq_some_iff.mp h).1
  rw [ezD_len] at hi
  have h1 : i < xs.length := by omega
  have h2 : i < ys.length := by omega
  refine ⟨xs[i], ys[i], List.getElem?_eq_getElem h1, List.getElem?_eq_getElem h2, ?_⟩
  obtain ⟨_, e⟩ := List.getElem?_eq_some_iff.mp h
  rw [← e]
  simp [ezD, h1, h2]
def wEz (t : DA) : DIt := fun ρ S post => t ρ S fun ds S1 => ∃ x y xs ys, ds = [x, y] ∧ seqOf S1 x xs ∧ seqOf S1 y ys ∧ post (ezD xs ys) (fun S2 => seqOf S2 x xs ∧ seqOf S2 y ys) S1
theorem itokE {K : PySem.W.Frag} {H : Hp} {A : List Addr} {x y : D} {a b : Addr} {xs ys : List D} (rx : RelD K H A x (.ref a)) (ry : RelD K H A y (.ref b)) :
    ItOk K (ItE K x y a b) H A (ezD xs ys) fun S2 => seqOf S2 x xs ∧ seqOf S2 y ys := by
  intro H2 A2 S2 e s ⟨q1, q2⟩
  have s1 : Src K x a xs H2 A2 S2 := ⟨s, rx.ext e, q1⟩
  have s2 : Src K y b ys H2 A2 S2 := ⟨s, ry.ext e, q2⟩
  refine ⟨⟨A2, S2, xs, ys, s1, s2, by rw [ezD_len]; omega⟩, fun i d hd => ?_⟩
  obtain ⟨d1, d2, h1, h2, rfl⟩ := ezD_get hd
  refine ⟨⟨A2, S2, xs, ys, s1, s2, (List.getElem?_eq_some_iff.mp h1).1, (List.getElem?_eq_some_iff.mp h2).1⟩, fun v H3 hy => ?_⟩
  obtain ⟨T, U, v1, v2, rfl, hT, hU, rfl, w1, w2⟩ := hy
  obtain ⟨e1, g1, r1⟩ := w1 A2 S2 xs s1
  obtain ⟨e2, g2, r2⟩ := w2 A2 S2 ys s2
  rw [h1] at g1
  rw [h2] at g2
  cases g1
  cases g2
  refine ⟨fun c o q => same_upd hU _ _ (same_upd hT _ _ q), tup_rel hU ⟨_, _, rfl, rfl, _, _, rfl, tup_rel hT ⟨v1, _, rfl, r1, v2, _, rfl, r2, rfl⟩, rfl⟩⟩
theorem di_ez {X : Cx} {e1 e2 : Expr} {t : DA} {p p2 pos pos2 tpos : Pos} {elts : List Expr} {kk : Nat} (hg : Gl X "zip") (hm : X.mg "zip" = none) (hge : Gl X "enumerate") (hme : X.mg "enumerate" = none) (ha : PA X [e1, e2] (liftA X.K t))
    (hs : starEach [e1, e2] X.env = (false, eval e1 X.env) :: starEach [e2] X.env := by rfl) (hpl : (backTo pos2 (starEach [e2] X.env)).any (·.1) = false := by rfl)
    (hs2 : starEach [.Call (.Name "zip" p2) [e1, e2] [] pos2] X.env = (false, eval (.Call (.Name "zip" p2) [e1, e2] [] pos2) X.env) :: starEach [] X.env := by rfl) :
    PI X (.Tuple elts kk tpos) (.Call (.Name "enumerate" p) [.Call (.Name "zip" p2) [e1, e2] [] pos2] [] pos) (liftI X.K (wEz t)) := by
  refine ⟨fun pins s σ H R I ⟨A, ρ, S, post, n, rs, h, k⟩ => ?_⟩
  refine Call_ (ld_blt I hge hme PyProof.Rows.boot_enumerate ?_)
  refine PyProof.Rows.callWith_type1 (PyProof.Rows.args_cons ?_ hs2) hs2 rfl
  refine Call_ (ld_blt I hg hm PyProof.Rows.boot_zip (PyProof.Rows.callWith_type1 (thn (ha.run pos2 pins s σ H (fun vs H1 => ∃ a b A1 S1 x y xs ys, vs = [.ref a, .ref b] ∧ Ext H A H1 A1 ∧ Src X.K x a xs H1 A1 S1 ∧ Src X.K y b ys H1 A1 S1 ∧ post (ezD xs ys) (fun S2 => seqOf S2 x xs ∧ seqOf S2 y ys) S1) I
    ⟨A, ρ, S, _, n, rs, h, fun vs H1 A1 ds S1 e s1 r hh => ?_⟩) fun us s1 ⟨vs, H1, I1, r1, q1⟩ => ?_) hs hpl))
  · obtain ⟨x, y, xs, ys, rfl, q1, q2, hp⟩ := hh
    obtain ⟨v1, v2, rfl, r1, r2⟩ := rels2 r
    obtain ⟨a, rfl⟩ := seq_ref s1 q1 r1
    obtain ⟨b, rfl⟩ := seq_ref s1 q2 r2
    exact ⟨a, b, A1, S1, x, y, xs, ys, rfl, e, ⟨s1, r1, q1⟩, ⟨s1, r2, q2⟩, hp⟩
  · obtain ⟨a, b, A1, S1, x, y, xs, ys, rfl, e, c1, c2, hp⟩ := q1
    cases r1 with
    | cons w1 r1 =>
      cases r1 with
      | cons w2 r1 =>
        cases r1
        cases w1
        cases w2
        obtain ⟨t1, _, _, _, p1, _⟩ := src_inv I1 c1
        obtain ⟨t2, _, _, _, p2, _⟩ := src_inv I1 c2
        have la := c1.lt I1
        have lb := c2.lt I1
        refine zip_begins2 (sbegins (kindD x) a t1.toArray) (sbegins (kindD y) b t2.toArray) p1 p2 fun h' hz hTI hTO o1 o2 hsz hk => PyProof.Rows.args_nil ?_
        have I2 : Inv X pins σ H1 { s1 with heap := h' } := I1.kept (t' := s1.toks) hk
        refine callType_new F.called_enumerate (by decide) (F.typeCall_enumerate_1 _) (F.newCall_enumerate_1 _) (fun obj => F.args_object_init_2 obj _) F.entry_enumerate_new (meets_enum_zip rfl rfl) ⟨hz, ?_⟩
        have hkE : ∀ c o, h'.get? c = some o → (h'.push { cls := .type "enumerate", data := .fields #[.none, .bool false, .ref (s1.heap.objs.size + 4), rawInt 0, .none, .none] }).get? c = some o := fun c o q => Heap.get?_push_of_some _ q
        have hE : IsEnum (h'.push { cls := .type "enumerate", data := .fields #[.none, .bool false, .ref (s1.heap.objs.size + 4), rawInt 0, .none, .none] }) h'.objs.size (s1.heap.objs.size + 4) 0 .none := Heap.get?_push_size _ rfl
        generalize hhE : h'.push { cls := .type "enumerate", data := .fields #[.none, .bool false, .ref (s1.heap.objs.size + 4), rawInt 0, .none, .none] } = h2 at hkE hE ⊢
        refine ⟨⟨_, hE, rfl⟩, wpAny_pyIter_enum hE ?_⟩
        have I3 : Inv X pins σ H1 { s1 with heap := h2 } := I2.kept (t' := s1.toks) hkE
        rw [hsz] at hE ⊢
        have off : ∀ {N a : Nat} (j : Nat), a < N → a ≠ N + j := fun j q => by omega
        have off0 : ∀ {N a : Nat}, a < N → a ≠ N := fun q => by omega
        have nn : ∀ {N : Nat} (i j : Nat), i ≠ j → (N + i : Nat) ≠ N + j := fun i j q => by omega
        have n5 : ∀ {N : Nat} (i : Nat), i ≠ 0 → (N + i : Nat) ≠ N := fun i q => by omega
        have sep := zip_sep2 (N := s1.heap.objs.size) (fp1 := [a]) (fp2 := [b]) (fun b' hb => by rw [List.mem_singleton.mp hb]; exact la) (fun b' hb => by rw [List.mem_singleton.mp hb]; exact lb)
        have ee : (s1.heap.objs.size + 5 : Nat) ≠ s1.heap.objs.size + 4 ∧ (s1.heap.objs.size + 5 : Nat) ≠ s1.heap.objs.size + 2 ∧ (s1.heap.objs.size + 5 : Nat) ≠ s1.heap.objs.size + 3 ∧ (s1.heap.objs.size + 5 : Addr) ∉ [s1.heap.objs.size, a] ∧ (s1.heap.objs.size + 5 : Addr) ∉ [s1.heap.objs.size + 1, b] := by
          refine ⟨nn 5 4 (by decide), nn 5 2 (by decide), nn 5 3 (by decide), fun hm => ?_, fun hm => ?_⟩
          · have hm' : (s1.heap.objs.size + 5 : Addr) = s1.heap.objs.size ∨ (s1.heap.objs.size + 5 : Addr) = a := by simpa using hm
            rcases hm' with q | q
            · exact n5 5 (by decide) q
            · exact off 5 la q.symm
          · have hm' : (s1.heap.objs.size + 5 : Addr) = s1.heap.objs.size + 1 ∨ (s1.heap.objs.size + 5 : Addr) = b := by simpa using hm
            rcases hm' with q | q
            · exact nn 5 1 (by decide) q
            · exact off 5 lb q.symm
        refine ⟨_, _, _, ItE X.K x y a b, H1, rfl, I3, turnE sep ee (off0 la) (off 1 lb), ⟨⟨_, hE⟩, ⟨_, _, .inl rfl, hkE _ _ hz⟩, hkE _ _ hTI, ⟨_, _, hkE _ _ hTO⟩, sit_start (hkE _ _ o1), sit_start (hkE _ _ o2)⟩, fun d hd => ?_, k _ H1 A1 _ _ S1 e c1.rs (itokE c1.rd c2.rd) hp⟩
        have hle : s1.heap.objs.size ≤ d := by
          have hd' : d = s1.heap.objs.size + 5 ∨ d = s1.heap.objs.size + 4 ∨ d = s1.heap.objs.size + 2 ∨ d = s1.heap.objs.size + 3 ∨ d = s1.heap.objs.size ∨ d = s1.heap.objs.size + 1 := by simpa using hd
          rcases hd' with q | q | q | q | q | q
          · rw [q]; exact Nat.le_add_right _ _
          · rw [q]; exact Nat.le_add_right _ _
          · rw [q]; exact Nat.le_add_right _ _
          · rw [q]; exact Nat.le_add_right _ _
          · rw [q]; exact Nat.le_refl _
          · rw [q]; exact Nat.le_add_right _ _
        exact I1.fpOk hle (I1.hok.fresh hle)
end DL
/-! DR: calls and defs where no guard is held; keyword calls; three names at once; the law's own end. -/
namespace DL
open PySem PySem.Spec PyProof.Rows L2
variable [HasT]

section
variable {X : Cx} {k : Nat} {fa : Addr} {fd : FuncData} {ps : List Str} {sp : DSp} {x : Str} {p pos : Pos} {e : Expr} {es : List Expr} {t : DA}
theorem de_callG (F : FnG X.prog X.w X.K X.mg X.base CX0 k fa fd ps (spL X.K sp)) (hgd : X.A.guards = some []) (hr : Room k X.A) (hg : Gl X x) (hm : X.mg x = some (.ref fa)) (hk : PySem.W.keepIn X.K (.ref fa) = true) (hb : L2.Binds X.K fd ps [])
    (ha : PA X (e :: es) (liftA X.K t)) (hdb : (x == ("__debug__" : Str)) = false := by decide) (he : starEach (e :: es) X.env = (false, eval e X.env) :: starEach es X.env := by rfl) (hpl : (backTo pos (starEach es X.env)).any (·.1) = false := by rfl) :
    PE X (.Call (.Name x p) (e :: es) [] pos) (liftE X.K (dCall sp t)) :=
  pe_mono (pe_callG F hgd hr hg hm hk hb pass0 ha hdb he hpl) fun σ H Q ⟨A, ρ, S, post, n, s, h, kk⟩ => ⟨A, ρ, S, _, n, s, h, fun vs H' A' ds S' e' s' r p1 => by
    show spL X.K sp (vs ++ []) H' Q E0
    rw [List.append_nil]
    exact lift_callD s' r p1 (kk.go e')⟩
/-- how a call by keywords alone binds: g puts the values in the parameters' order -/
structure KwB (K : PySem.W.Frag) (fd : FuncData) (ps ks : List Str) (g : {α : Type} → List α → List α) : Prop where
  len : ∀ {α : Type} (l : List α), l.length = ks.length → (g l).length = ps.length
  mp : ∀ {α β : Type} (h : α → β) (l : List α), g (l.map h) = (g l).map h
  to : ∀ (s : Shared) (ws : List Value), K.In s.heap → ws.length = ks.length → BindsTo s fd ⟨[], ks.zip ws⟩ (ps.zip (g ws))
def dCallK (sp : DSp) (n : Nat) (g : List D → List D) (t : DA) : DE := fun ρ S post => t ρ S fun ds S1 => ds.length = n ∧ callD sp (g ds) S1 post
theorem RelDs.getEl {K : PySem.W.Frag} {H : Hp} {A : List Addr} : ∀ {ds : List D} {vs : List V}, RelDs K H A ds vs → ∃ ps : List (D × V), ds = ps.map (·.1) ∧ vs = ps.map (·.2) ∧ ∀ p ∈ ps, RelD K H A p.1 p.2
  | [], _, r => ⟨[], rfl, r, fun _ h => nomatch h⟩
  | d :: ds, _, ⟨v, w, rfl, h2, h3⟩ => by
    obtain ⟨ps, rfl, rfl, h⟩ := RelDs.getEl h3
    exact ⟨(d, v) :: ps, rfl, rfl, fun p hp => by
      rcases List.mem_cons.mp hp with rfl | hp
      · exact h2
      · exact h p hp⟩
theorem relDs_of {K : PySem.W.Frag} {H : Hp} {A : List Addr} : ∀ {ps : List (D × V)}, (∀ p ∈ ps, RelD K H A p.1 p.2) → RelDs K H A (ps.map (·.1)) (ps.map (·.2))
  | [], _ => rfl
  | p :: ps, h => ⟨p.2, ps.map (·.2), rfl, h p List.mem_cons_self, relDs_of fun q hq => h q (List.mem_cons_of_mem _ hq)⟩
theorem valsPair : ∀ {vs : List V} {us : List Value}, Vals vs us → ∃ ps : List (V × Value), vs = ps.map (·.1) ∧ us = ps.map (·.2) ∧ ∀ p ∈ ps, RelV p.1 p.2
  | _, _, .nil => ⟨[], rfl, rfl, fun _ h => nomatch h⟩
  | _, _, .cons r h => by
    obtain ⟨ps, rfl, rfl, hh⟩ := valsPair h
    exact ⟨(_, _) :: ps, rfl, rfl, fun p hp => by
      rcases List.mem_cons.mp hp with rfl | hp
      · exact r
      · exact hh p hp⟩
theorem pairVals : ∀ {ps : List (V × Value)}, (∀ p ∈ ps, RelV p.1 p.2) → Vals (ps.map (·.1)) (ps.map (·.2))
  | [], _ => .nil
  | p :: ps, h => .cons (h p List.mem_cons_self) (pairVals fun q hq => h q (List.mem_cons_of_mem _ hq))
theorem de_callKw {ks : List Str} {kws : List Keyword} {g : {α : Type} → List α → List α} (F : FnG X.prog X.w X.K X.mg X.base CX0 k fa fd ps (spL X.K sp)) (hgd : X.A.guards = some []) (hr : Room k X.A) (hg : Gl X x) (hm : X.mg x = some (.ref fa)) (hk : PySem.W.keepIn X.K (.ref fa) = true)
    (hb : KwB X.K fd ps ks g) (hsub : ∀ {α : Type} (l : List α) (a : α), a ∈ g l → a ∈ l) (hkw : PK X kws (liftA X.K t)) (hdb : (x == ("__debug__" : Str)) = false := by decide)
    (hall : (backToKw pos (keywordEach kws X.env)).all (·.1.isSome) = true := by rfl) (hks : (backToKw pos (keywordEach kws X.env)).filterMap (·.1) = ks := by rfl)
    (hpl : ((backTo pos (starEach [] X.env)).any (·.1) || (backToKw pos (keywordEach kws X.env)).any (·.1.isNone)) = false := by rfl) :
    PE X (.Call (.Name x p) [] kws pos) (liftE X.K (dCallK sp ks.length g t)) := by
  refine ⟨fun pins s σ H Q I ⟨A, ρ, S, post, n, sS, h, kk⟩ => ?_⟩
  refine wpAny_Call_Name_kw (ld_glob I hg hm ?_ hdb)
  refine PySem.W.callWith_KW0 (h₀ := X.base) I.ok.mod.kin hk hall (thn (hkw.run pos pins s σ H (fun zs H1 => zs.length = ks.length ∧ spL X.K sp (g zs) H1 Q E0) I ⟨A, ρ, S, _, n, sS, h, fun vs H' A' ds S' e' s' r p1 => ?_⟩) fun ws s2 ⟨zs, H2, I2, rz, l2, q2⟩ => ⟨I2.kIn, ?_⟩) hpl
  · refine ⟨by rw [r.len]; exact p1.1, ?_⟩
    obtain ⟨prs, rfl, rfl, hp⟩ := r.getEl
    have rr : RelDs X.K H' A' (g (prs.map (·.1))) (g (prs.map (·.2))) := by
      rw [hb.mp, hb.mp]
      exact relDs_of fun q hq => hp q (hsub _ _ hq)
    exact lift_callD s' rr p1.2 (kk.go e')
  · rw [hks]
    have lw : ws.length = ks.length := rz.length.symm.trans l2
    have rz2 : Vals (g zs) (g ws) := by
      obtain ⟨prs, rfl, rfl, hp⟩ := valsPair rz
      rw [hb.mp, hb.mp]
      exact pairVals fun q hq => hp q (hsub _ _ hq)
    refine wpAny_call (codeAny_mono (F.run X.A X.stack s2 H2 ⟨[], ks.zip ws⟩ (g ws) (g zs) Q E0 hgd hr I2.env0 (hb.to s2 ws I2.kIn lw) rz2 q2) fun r s' hq => ?_)
    cases r with
    | error ex => exact hq.elim
    | ok fl =>
      cases fl with
      | ret u => exact I2.after hq
      | next => exact hq.elim
      | brk => exact hq.elim
      | cont => exact hq.elim
/-- x, y, z = a, b, c over data -/
def dPar3 (i j l : Nat) (ta : DA) : DS := fun E ρ S => ta ρ S fun ds S1 => ∃ u v w, ds = [u, v, w] ∧ E.nx (((ρ.set i (some u)).set j (some v)).set l (some w)) S1
theorem ds_par3 {W : WX} {i j l : Nat} {x y z : Str} {a b c : Expr} {ta : DA} {px py pz pt pos : Pos} {kt k2 pt2} (hc : X.calm = true) (hN : X.N.Nodup) (ha : PA X [a, b, c] (liftA X.K ta)) (hi : X.N[i]? = some x := by rfl) (hj : X.N[j]? = some y := by rfl) (hl : X.N[l]? = some z := by rfl)
    (hij : i ≠ j := by decide) (hil : i ≠ l := by decide) (hjl : j ≠ l := by decide)
    (hx : X.env.scope.names.lookup x = some .local := by rfl) (hy : X.env.scope.names.lookup y = some .local := by rfl) (hz : X.env.scope.names.lookup z = some .local := by rfl)
    (hw : swappedStores [.Tuple [.Name x px, .Name y py, .Name z pz] kt pt] (.Tuple [a, b, c] k2 pt2) X.env = pure (some [x, y, z]) := by rfl)
    (hs : swapsWithSole [.Tuple [.Name x px, .Name y py, .Name z pz] kt pt] (.Tuple [a, b, c] k2 pt2) pos.line X.env = pure false := by rfl) :
    PS X (.Assign [.Tuple [.Name x px, .Name y py, .Name z pz] kt pt] (.Tuple [a, b, c] k2 pt2) pos) (liftS X.K W (dPar3 i j l ta)) :=
  ps_mono (ps_par3 hc hN hi hj hl hij hil hjl hx hy hz ha hw hs) fun Dn σ H ⟨A, ρ, S, E, n, s, h, k1, k2, k3, k4⟩ => ⟨A, ρ, S, _, n, s, h, fun vs H' A' ds S' e s' r ⟨u, v, w, hd, p⟩ => by
    subst hd
    obtain ⟨v1, r1, rfl, g1, q1⟩ := r
    obtain ⟨v2, v3, rfl, g2, g3⟩ := rels2 q1
    exact ⟨v1, v2, v3, rfl, k1 _ H' A' _ S' e ((((n.ext e).set i g1).set j g2).set l g3) s' p⟩⟩
/-- x, y = a, b over data -/
def dPar2 (i j : Nat) (ta : DA) : DS := fun E ρ S => ta ρ S fun ds S1 => ∃ u v, ds = [u, v] ∧ E.nx ((ρ.set i (some u)).set j (some v)) S1
end

theorem fn_okG {P : Program} {w : World} {K : PySem.W.Frag} {mg : Str → Option Value} {base : Heap} {x qual : Str} {st : Stmt} {f : Addr} {fd : FuncData} {N ps : List Str} {k : Nat} {sp : DSp} {tb : DS} (F : Fun K x qual st f fd) (Sc : FnScope N ps (defScope st))
    (hl : ∀ ds S post, sp ds S post → ds.length = ps.length)
    (hb : ∀ (cdv : Value) (A : Around) (outer : List Env) (s : Shared) (H : Hp) (E : XK), (A.deeper (envOfC qual (defScope st) s.heap.objs.size f cdv)).guards = some [] → Room k (A.deeper (envOfC qual (defScope st) s.heap.objs.size f cdv)) →
      PSs (cxOf CX0 P w K mg base N qual (defScope st) f cdv A outer s H E).nox (defBody st) (liftS K W0 tb))
    (hd : ∀ ds S post, sp ds S post → tb ⟨fun _ S' => fnEnd S post .non S', fnEnd S post, fun _ _ => False, fun _ _ => False, fun _ _ _ _ => False⟩ (startD N ds) S) : FnG P w K mg base CX0 (k + 1) f fd ps (spL K sp) := by
  refine fnG_of F Sc (fun vs H Q E ⟨A, ds, S, post, s, r, h, kk⟩ => by rw [r.len]; exact hl ds S post h) (fun cdv A0 outer s0 H vs Q E hgd hr ⟨A, ds, S, post, s, r, h, kk⟩ => ⟨_, (hb cdv A0 outer s0 H E hgd hr).nox, ?_⟩)
  exact fnBody s r (hd ds S post h) kk
end DL
/-! DS0: the law's own end, for promises that want no guard held. -/
namespace DL
open PySem PySem.Spec PyProof.Rows L2
variable [HasT]

theorem intVals : ∀ {us : List Value} {ks : List Int}, IntsAre us ks → Vals (ks.map V.int) us
  | _, _, .nil => .nil
  | _, _, .cons n t r => .cons ⟨t, rfl⟩ (intVals r)
theorem endG {P : Program} {w : World} {K : PySem.W.Frag} {mg mb : Str → Option Value} {k : Nat} {fa sc : Addr} {fd : FuncData} {x : Str} {sp : Sp} {s0 : Shared} {us : List Value} {ks : List Int}
    (KX : K.In s0.heap) (nG : s0.heap.Ns mainGlobals mg) (nB : s0.heap.Ns builtinsNs mb) (bb : ∀ z : Str, z ≠ "__name__" → mb z = bootBuiltins z) (lim : s0.heap.NoLimit) (gn : s0.gens = #[])
    (hsc : s0.heap.get? sc = some { cls := .type "list", data := .seq us.toArray }) (ii : IntsAre us ks) (kl : ks.length ≤ sizeLine) (rm : Room k callerA)
    (F : ∀ base : Heap, K.In base → base.Ns mainGlobals mg → FnG P w K mg base CX0 k fa fd [x] sp) (bd : ∀ (s : Shared) (u : Value), BindsTo s fd ⟨[u], []⟩ [(x, u)])
    (spk : ∀ H : Hp, Only H → SqL K H sc (ks.map V.int) → sp [.ref sc] H (fun v _ => v = .bl true) fun _ _ _ => False) :
    codeAny (model P w) callerA (.call (.ref fa) ⟨[.ref sc], []⟩) (fun r s' => r = .ok (.ret (.bool true)) ∧ OldK s0.heap s'.heap ∧ s'.os = s0.os ∧ AllBare s'.gens) s0 := by
  have rv := intVals ii
  have lU := ii.length
  have core : ∀ H : Hp, Only H → SqL K H sc (ks.map V.int) → HOk P w H s0.heap → (∀ b, H b ≠ none → b = sc) → (H sc ≠ none → K.lookup sc = none) →
      codeAny (model P w) callerA (.call (.ref fa) ⟨[.ref sc], []⟩) (fun r s' => r = .ok (.ret (.bool true)) ∧ OldK s0.heap s'.heap ∧ s'.os = s0.os ∧ AllBare s'.gens) s0 := by
    intro H hO hS ok1 only1 free1
    have below1 : ∀ {b : Addr} {o : Obj}, s0.heap.get? b = some o → H b = none → (hidT s0.heap H).get? b = some o := fun e n => hidT_get e n
    have dictNone : ∀ {b : Addr} {o : Obj} {es : Array DictEntry} {ep : Nat}, s0.heap.get? b = some o → o.data = .dict es ep → H b = none := by
      intro b o es ep e d
      cases q : H b with
      | none => rfl
      | some u =>
        obtain rfl : b = sc := only1 b (by rw [q]; simp)
        rw [hsc] at e
        cases e
        cases (show Data.seq us.toArray _ = Data.dict es ep from d)
    have ns1 : ∀ {b : Addr} {m : Str → Option Value}, s0.heap.Ns b m → (hidT s0.heap H).Ns b m := fun {b m} ⟨o, es, ep, e, d, r⟩ => ⟨o, es, ep, below1 e (dictNone e d), d, r⟩
    have kin1 : K.In (hidT s0.heap H) := by
      intro b o e
      refine below1 (KX b o e) ?_
      cases q : H b with
      | none => rfl
      | some u =>
        obtain rfl : b = sc := only1 b (by rw [q]; simp)
        rw [free1 (by rw [q]; simp)] at e
        cases e
    have md : Mod K mg (hidT s0.heap H) := ⟨kin1, ns1 nG, ⟨mb, ns1 nB, bb⟩, by
      obtain ⟨mc, h1, h2⟩ := lim
      exact ⟨mc, ns1 h1, h2⟩⟩
    have nothing : ∀ b : Addr, b ∉ ([] : List Addr) := fun b => by simp
    have env1 : Env0 P w K mg (hidT s0.heap H) callerA [] s0 H := ⟨rfl, md, fun b o e => of_hidT e, Nat.le_of_eq (hidT_size _ _), trivial, fun b hb => absurd (show b ∈ ([] : List Addr) from hb) (nothing b), ok1, .of_eq gn⟩
    have run1 := (F _ kin1 (ns1 nG)).run callerA [] s0 H ⟨[.ref sc], []⟩ [.ref sc] [.ref sc] _ _ rfl rm env1 (bd s0 (.ref sc)) (.cons rfl .nil) (spk H hO hS)
    refine codeAny_mono run1 fun r s' h => ?_
    match r, h with
    | .error e, h => exact h.elim
    | .ok .next, h => exact h.elim
    | .ok .brk, h => exact h.elim
    | .ok .cont, h => exact h.elim
    | .ok (.ret u), h =>
      obtain ⟨v, H', os, bare, un, ok2, rr, q⟩ := h
      cases (show v = .bl true from q)
      obtain rfl : u = Value.bool true := rr
      refine ⟨rfl, OldK.of_keep fun b o e => ?_, os, bare⟩
      cases q : H b with
      | none => exact un.keep b o e q (fun z => absurd (show b ∈ ([] : List Addr) from z) (nothing b)) (nothing b)
      | some u =>
        rcases hO b with z | ⟨ob, xs, z⟩
        · rw [q] at z
          cases z
        · obtain ⟨e1, _⟩ := ok1 b _ z
          obtain ⟨e2, _⟩ := ok2 b _ (un.frzs b ob _ z)
          rw [e] at e1
          cases e1
          exact e2
  cases hk : K.lookup sc with
  | some o =>
    have e := KX sc o hk
    rw [hsc] at e
    cases e
    refine core (fun _ => none) (fun _ => .inl rfl) (.inr ⟨_, us.toArray, _, hk, rfl, rfl, rfl, by rw [List.size_toArray, lU]; exact kl, by simpa using rv⟩) (fun b u z => ?_) (fun b z => absurd rfl z) fun z => absurd rfl z
    cases (show (none : Option HO) = some u from z)
  | none =>
    let H0 : Hp := fun b => if b = sc then some (.frz { cls := .type "list", data := .seq us.toArray } (.lst (ks.map V.int))) else none
    have here : H0 sc = some (.frz { cls := .type "list", data := .seq us.toArray } (.lst (ks.map V.int))) := if_pos rfl
    have away : ∀ {b : Addr}, b ≠ sc → H0 b = none := fun hb => if_neg hb
    refine core H0 (fun b => ?_) (.inl (.inr ⟨_, here⟩)) (fun b u z => ?_) (fun b z => ?_) fun _ => hk
    · by_cases hb : b = sc
      · subst hb
        exact .inr ⟨_, _, here⟩
      · exact .inl (away hb)
    · by_cases hb : b = sc
      · subst hb
        cases here.symm.trans z
        exact ⟨hsc, by rw [List.length_map]; exact kl, us, _, rv, hsc⟩
      · cases (away hb).symm.trans z
    · by_cases hb : b = sc
      · exact hb
      · exact absurd (away hb) z
theorem walkG {l : PySem.W.OpenLaw} {n k : Nat} {q : Program} {loose : List Str} {XP : (Str → Option Value) → Heap → Prop} {YP : World → Heap → Prop} {d : DefRec} {K : Params → PySem.W.Frag} {sp : DSp} {x : Str}
    (hn : l.most = some n) (hn2 : n ≤ sizeLine) (nodef : d.params.defaults = []) (rm : Room k callerA) (hY : ∀ (w : World) (h : Heap), YP w h → (K w.params).In h)
    (F : ∀ (w : World) (mg : Str → Option Value) (fa : Addr) (h : Heap), (K w.params).In h → h.Ns mainGlobals mg → mg d.name = some (.ref fa) →
      ∃ fd : FuncData, (∀ (s : Shared) (u : Value), BindsTo s fd ⟨[u], []⟩ [(x, u)]) ∧ ∀ base : Heap, (K w.params).In base → base.Ns mainGlobals mg → FnG l.prog w (K w.params) mg base CX0 k fa fd [x] (spL (K w.params) sp))
    (hsp : ∀ (ns : List Int), ns.length ≤ n → sp [.rl (ns.map D.int)] [] fun d _ => d = .bl true) (hT : HasT.T = [] := by rfl) :
    PySem.W.WalkO q loose XP YP l.row.toRowW d [] (fun f vs => PySem.call f vs) := by
  refine Att.attach_call hn nodef fun w s₀ s₁ mg mb fa o pm cd doc a us ks G Y ho hd hcd hmg hobj hints hlen hg => ?_
  have KX := hY w _ Y
  obtain ⟨fd, hb, hF⟩ := F w mg fa _ KX G.T.g hmg
  refine endG KX G.T.g G.T.b G.T.builtins G.T.nolimit hg hobj hints (Nat.le_trans hlen hn2) rm hF hb fun H hO hS => ?_
  have toFix : FixL (K w.params) H a (ks.map V.int) := by
    rcases hS with (h | ⟨ob, h⟩) | h
    · exfalso
      rcases hO a with z | ⟨_, _, z⟩
      · rw [h] at z
        cases z
      · rw [h] at z
        cases z
    · exact .inl ⟨ob, h⟩
    · exact .inr (.inr h)
  have rel : ∀ {ks : List Int}, RelDs (K w.params) H [] (ks.map D.int) (ks.map V.int) := by
    intro ks
    induction ks with
    | nil => rfl
    | cons i ks ih => exact ⟨.int i, ks.map V.int, rfl, rfl, ih⟩
  refine ⟨[], [.rl (ks.map D.int)], [], _, ⟨rfl, List.nodup_nil, fun n e h => by simp at h, fun p hp => by rw [hT] at hp; cases hp⟩, ⟨.ref a, [], rfl, ⟨a, ks.map V.int, rfl, toFix, rel⟩, rfl⟩, hsp ks hlen, fun v H' A' d S' e s' r p => ?_⟩
  subst p
  exact r
end DL
/-! DT: names for the readings that a walk writes; a def that may be called. -/
namespace DL
open PySem PySem.Spec PyProof.Rows L2
variable [HasT]

def oSub : D2 := o2J fun i j => .int (i - j)
def oMul : D2 := o2I CMul fun i j => .int (i * j)
def oMod : D2 := o2I (fun _ j => 0 < j) fun i j => .int (i % j)
def oDiv : D2 := o2I CDiv fun i j => .int (i / j)
def oPow : D2 := o2I CPow fun i j => .int (i ^ j.toNat)
def oLt : D2 := o2J fun i j => .bl (decide (i < j))
def oLe : D2 := o2J fun i j => .bl (decide (i ≤ j))
def oGt : D2 := o2J fun i j => .bl (decide (j < i))
def oGe : D2 := o2J fun i j => .bl (decide (j ≤ i))
def oNeg : D1 := o1J fun i => .int (-i)
def cMin : DC := c2I fun i j => if j < i then j else i
def cMax : DC := c2I fun i j => if j > i then j else i
section
variable {K : PySem.W.Frag}
theorem rul_sub : Rul2 K oSub (rI0 fun i j => .int (i - j)) := rul_2J fun _ _ _ _ _ => rfl
theorem rul_mul : Rul2 K oMul (rI CMul fun i j => .int (i * j)) := rul_2I fun _ _ _ _ _ => rfl
theorem rul_mod : Rul2 K oMod (rI (fun _ j => 0 < j) fun i j => .int (i % j)) := rul_2I fun _ _ _ _ _ => rfl
theorem rul_div : Rul2 K oDiv (rI CDiv fun i j => .int (i / j)) := rul_2I fun _ _ _ _ _ => rfl
theorem rul_pow : Rul2 K oPow (rI CPow fun i j => .int (i ^ j.toNat)) := rul_2I fun _ _ _ _ _ => rfl
theorem rul_lt : Rul2 K oLt (rI0 fun i j => .bl (decide (i < j))) := rul_2J fun _ _ _ _ _ => rfl
theorem rul_le : Rul2 K oLe (rI0 fun i j => .bl (decide (i ≤ j))) := rul_2J fun _ _ _ _ _ => rfl
theorem rul_gt : Rul2 K oGt (rI0 fun i j => .bl (decide (j < i))) := rul_2J fun _ _ _ _ _ => rfl
theorem rul_ge : Rul2 K oGe (rI0 fun i j => .bl (decide (j ≤ i))) := rul_2J fun _ _ _ _ _ => rfl
theorem rul_neg : Rul1 K oNeg (rU fun i => .int (-i)) := rul_1J fun _ _ _ _ => rfl
theorem rul_min : RulC K cMin (fun xs H Q => ∃ i j, xs = [.int i, .int j] ∧ Q (.int ((fun i j : Int => if j < i then j else i) i j)) H) := rul_2c
theorem rul_max : RulC K cMax (fun xs H Q => ∃ i j, xs = [.int i, .int j] ∧ Q (.int ((fun i j : Int => if j > i then j else i) i j)) H) := rul_2c
end
/-- a def that may be called by its name, with its promise -/
structure CalG (P : Program) (w : World) (K : PySem.W.Frag) (mg : Str → Option Value) (base : Heap) (k : Nat) (x : Str) (sp : DSp) : Prop where
  ex : ∃ (f : Addr) (fd : FuncData) (ps : List Str), FnG P w K mg base CX0 k f fd ps (spL K sp) ∧ mg x = some (.ref f) ∧ PySem.W.keepIn K (.ref f) = true ∧ L2.Binds K fd ps []
section
variable {X : Cx} {k j : Nat} {sp : DSp} {x : Str} {p pos : Pos} {e : Expr} {es : List Expr} {t : DA}
theorem de_cal (C : CalG X.prog X.w X.K X.mg X.base j x sp) (hgd : X.A.guards = some []) (hr : Room k X.A) (hj : j ≤ k) (hg : Gl X x) (ha : PA X (e :: es) (liftA X.K t)) (hdb : (x == ("__debug__" : Str)) = false := by decide)
    (he : starEach (e :: es) X.env = (false, eval e X.env) :: starEach es X.env := by rfl) (hpl : (backTo pos (starEach es X.env)).any (·.1) = false := by rfl) : PE X (.Call (.Name x p) (e :: es) [] pos) (liftE X.K (dCall sp t)) := by
  obtain ⟨f, fd, ps, F, hm, hk, hb⟩ := C.ex
  exact de_callG F hgd (hr.mono hj) hg hm hk hb ha hdb he hpl
end
/-- a def that may be called by keywords alone -/
structure CalK (P : Program) (w : World) (K : PySem.W.Frag) (mg : Str → Option Value) (base : Heap) (k : Nat) (x : Str) (sp : DSp) (ks : List Str) (g : {α : Type} → List α → List α) : Prop where
  ex : ∃ (f : Addr) (fd : FuncData) (ps : List Str), FnG P w K mg base CX0 k f fd ps (spL K sp) ∧ mg x = some (.ref f) ∧ PySem.W.keepIn K (.ref f) = true ∧ KwB K fd ps ks g
  sub : ∀ {α : Type} (l : List α) (a : α), a ∈ g l → a ∈ l
section
variable {X : Cx} {k j : Nat} {sp : DSp} {x : Str} {p pos : Pos} {kws : List Keyword} {ks : List Str} {g : {α : Type} → List α → List α} {t : DA}
theorem de_calK {n : Nat} (C : CalK X.prog X.w X.K X.mg X.base j x sp ks g) (hgd : X.A.guards = some []) (hr : Room k X.A) (hj : j ≤ k) (hg : Gl X x) (hkw : PK X kws (liftA X.K t)) (hn : ks.length = n := by rfl) (hdb : (x == ("__debug__" : Str)) = false := by decide)
    (hall : (backToKw pos (keywordEach kws X.env)).all (·.1.isSome) = true := by rfl) (hks : (backToKw pos (keywordEach kws X.env)).filterMap (·.1) = ks := by rfl)
    (hpl : ((backTo pos (starEach [] X.env)).any (·.1) || (backToKw pos (keywordEach kws X.env)).any (·.1.isNone)) = false := by rfl) : PE X (.Call (.Name x p) [] kws pos) (liftE X.K (dCallK sp n (fun l => g l) t)) := by
  subst hn
  obtain ⟨f, fd, ps, F, hm, hk, hb⟩ := C.ex
  exact de_callKw F hgd (hr.mono hj) hg hm hk hb C.sub hkw hdb hall hks hpl
end
/-- the def binds these keywords -/
theorem kwB_of {K : PySem.W.Frag} {x qual : Str} {st : Stmt} {f : Addr} {fd : FuncData} {ps ks : List Str} {g : {α : Type} → List α → List α} (F : Fun K x qual st f fd) (len : ∀ {α : Type} (l : List α), l.length = ks.length → (g l).length = ps.length)
    (mp : ∀ {α β : Type} (h : α → β) (l : List α), g (l.map h) = (g l).map h)
    (h : ∀ (kV doc pm : Value) (an : Option Addr) (cdv ct : Value) (ws : List Value), ws.length = ks.length → bindArgs (PySem.W.fnOf x qual (defArgs st) (defBody st) (defScope st) .none kV doc pm an cdv ct) ⟨[], ks.zip ws⟩ = pure (ps.zip (g ws))) : KwB K fd ps ks g := by
  obtain ⟨oc, od, kV, doc, pm, an, cdv, ct, osl, rfl, lk, hcd⟩ := F.ex
  exact ⟨len, mp, fun s ws _ hl => .of_eq (h kV doc pm an cdv ct ws hl)⟩
/-- the store is put back -/
def dGc0 (te : DE) : DE := fun ρ S post => te ρ S fun d S1 => below S.length d = true ∧ (S1.take S.length).all (belowE S.length) = true ∧ post d (S1.take S.length)
theorem de_gc0 {X : Cx} {e : Expr} {te : DE} (h : PE X e (liftE X.K te)) : PE X e (liftE X.K (dGc0 te)) :=
  pe_mono h fun σ H Q ⟨A, ρ, S, post, n, s, p, k⟩ => ⟨A, ρ, S, _, n, s, p, fun v1 H1 A1 d1 S1 e1 s1 r1 ⟨b1, b2, p1⟩ =>
    k v1 H1 (A1.take S.length) d1 (S1.take S.length) (e1.take (Nat.le_of_eq s.len.symm)) (s1.take b2) (r1.take b1) p1⟩
end DL
/-! DU: carrying a walk out over data. -/
namespace DL
open PySem PySem.Spec PyProof.Rows L2
variable [HasT]

/-! ### sequences -/
theorem seqOf_tup {S : Store} {xs ds : List D} : seqOf S (.tup xs) ds ↔ xs = ds := by simp [seqOf]
theorem seqOf_rl {S : Store} {xs ds : List D} : seqOf S (.rl xs) ds ↔ xs = ds := by simp [seqOf]
theorem seqOf_lr {S : Store} {n : Nat} {ds : List D} : seqOf S (.lr n) ds ↔ S[n]? = some (.lst ds) := by simp [seqOf]
theorem atI_of {α : Type} {xs : List α} {i : Int} (h0 : 0 ≤ i) {v : α} (h : xs[i.toNat]? = some v) : L2.atI xs i = some v := by
  have e : ((i.toNat : Nat) : Int) = i := by omega
  have := atI_nat h
  rwa [e] at this
theorem ixN_of {n : Nat} {i : Int} (h0 : 0 ≤ i) (h : i < n) : L2.ixN n i = some i.toNat := by
  unfold ixN
  rw [if_pos h0, if_pos h]
/-! ### nothing of the store within -/
mutual
theorem ren_below (f : Nat → Nat) : ∀ d : D, below 0 d = true → ren f d = d
  | .non, _ => by rw [ren] <;> simp
  | .bl _, _ => by rw [ren] <;> simp
  | .int _, _ => by rw [ren] <;> simp
  | .str _, _ => by rw [ren] <;> simp
  | .tup ds, h => by
    rw [below] at h
    rw [ren, rens_belows f ds h]
  | .ztup ds, h => by
    rw [below] at h
    rw [ren, rens_belows f ds h]
  | .rl ds, h => by
    rw [below] at h
    rw [ren, rens_belows f ds h]
  | .lr n, h => by simp [below] at h
  | .exc _ _ _ w, h => by
    rw [below] at h
    rw [ren, ren_below f w h]
  | .opq _, _ => by rw [ren] <;> simp
theorem rens_belows (f : Nat → Nat) : ∀ ds : List D, belows 0 ds = true → rens f ds = ds
  | [], _ => by rw [rens]
  | d :: ds, h => by
    rw [belows, Bool.and_eq_true] at h
    rw [rens, ren_below f d h.1, rens_belows f ds h.2]
end
mutual
theorem below_mono {n m : Nat} (hn : n ≤ m) : ∀ d : D, below n d = true → below m d = true
  | .non, _ => by rw [below] <;> simp
  | .bl _, _ => by rw [below] <;> simp
  | .int _, _ => by rw [below] <;> simp
  | .str _, _ => by rw [below] <;> simp
  | .tup ds, h => by
    rw [below] at h ⊢
    exact belows_mono hn ds h
  | .ztup ds, h => by
    rw [below] at h ⊢
    exact belows_mono hn ds h
  | .rl ds, h => by
    rw [below] at h ⊢
    exact belows_mono hn ds h
  | .exc _ _ _ w, h => by
    rw [below] at h ⊢
    exact below_mono hn w h
  | .opq _, _ => by rw [below] <;> simp
  | .lr k, h => by
    rw [below, decide_eq_true_eq] at h ⊢
    omega
theorem belows_mono {n m : Nat} (hn : n ≤ m) : ∀ ds : List D, belows n ds = true → belows m ds = true
  | [], _ => by rw [belows]
  | d :: ds, h => by
    rw [belows, Bool.and_eq_true] at h ⊢
    exact ⟨below_mono hn d h.1, belows_mono hn ds h.2⟩
end
theorem belows_iff {n : Nat} : ∀ {ds : List D}, belows n ds = true ↔ ∀ d ∈ ds, below n d = true
  | [] => by simp [belows]
  | d :: ds => by simp [belows, belows_iff (ds := ds)]
theorem belows_append {n : Nat} {xs ys : List D} : belows n (xs ++ ys) = (belows n xs && belows n ys) := by
  rw [Bool.eq_iff_iff, Bool.and_eq_true, belows_iff, belows_iff, belows_iff]
  simp only [List.mem_append]
  exact ⟨fun h => ⟨fun d hd => h d (.inl hd), fun d hd => h d (.inr hd)⟩, fun h d hd => hd.elim (h.1 d) (h.2 d)⟩
theorem belows_map {α : Type} {n : Nat} (f : α → D) (h : ∀ x, below n (f x) = true) (xs : List α) : belows n (xs.map f) = true := by
  rw [belows_iff]
  intro d hd
  obtain ⟨x, _, rfl⟩ := List.mem_map.mp hd
  exact h x
theorem belows_ints (n : Nat) (xs : List Int) : belows n (xs.map D.int) = true := belows_map _ (fun _ => by rw [below] <;> simp) xs
theorem belowE_mono {n m : Nat} (hn : n ≤ m) (e : Ent) (h : belowE n e = true) : belowE m e = true := by
  cases e with
  | lst ds => exact belows_mono hn ds h
  | dct kvs => exact belows_mono hn _ h
theorem renE_below (f : Nat → Nat) (e : Ent) (h : belowE 0 e = true) : renE f e = e := by
  cases e with
  | lst ds =>
    show Ent.lst (rens f ds) = _
    rw [rens_belows f ds h]
  | dct kvs =>
    show Ent.dct (kvs.map fun p => (p.1, ren f p.2)) = _
    have e : (kvs.map fun p => (p.1, ren f p.2)) = kvs := by
      have h' : ∀ p ∈ kvs, ren f p.2 = p.2 := fun p hp => ren_below f _ (belows_iff.mp h _ (List.mem_map.mpr ⟨p, hp, rfl⟩))
      calc kvs.map (fun p => (p.1, ren f p.2)) = kvs.map id := List.map_congr_left fun p hp => by rw [h' p hp]; rfl
        _ = kvs := List.map_id _
    rw [e]
/-! ### ends of a def -/
theorem end_same {S S' : Store} {post : DK} {d : D} (h1 : S'.length = S.length) (h2 : below S.length d = true) (h3 : S'.all (belowE S.length) = true) (h : post d S') : fnEnd S post d S' := by
  refine .inl ⟨S.length, Nat.le_refl _, h2, ?_, ?_⟩
  · rw [List.take_of_length_le (Nat.le_of_eq h1)]
    exact h3
  · rw [List.take_of_length_le (Nat.le_of_eq h1)]
    exact h
/-- no store at the start, and none at the end -/
theorem end_none {S' : Store} {post : DK} {d : D} (h2 : below 0 d = true) (h : post d []) : fnEnd [] post d S' := .inl ⟨0, Nat.le_refl _, h2, rfl, h⟩
/-- of the store only what was there stays -/
theorem end_take {S S' : Store} {post : DK} {d : D} (h2 : below S.length d = true) (h3 : (S'.take S.length).all (belowE S.length) = true) (h : post d (S'.take S.length)) : fnEnd S post d S' := .inl ⟨S.length, Nat.le_refl _, h2, h3, h⟩
theorem end_new {S S' : Store} {post : DK} {j : Nat} (e : Ent) (h1 : S.length ≤ j) (h2 : S'[j]? = some e) (h3 : belowE S.length e = true) (h4 : (S'.take S.length).all (belowE S.length) = true) (h : post (.lr S.length) (S'.take S.length ++ [e])) : fnEnd S post (.lr j) S' := .inr ⟨j, e, rfl, h1, h2, h3, h4, h⟩
/-! ### calls -/
/-- what is handed in hangs on no store -/
theorem call_pure {sp : DSp} {ds : List D} {S : Store} {post : DK} (hb : belows 0 ds = true) (h : sp ds [] fun d S' => post (ren (fun i => S.length + i) d) (S ++ S'.map (renE fun i => S.length + i))) : callD sp ds S post := by
  refine ⟨[], ds, [], List.nodup_nil, rens_belows _ ds hb, rfl, fun i n e h1 _ => by simp at h1, ?_⟩
  have e : rn [] S.length = fun i => S.length + i := by
    funext i
    simp [rn]
  rw [e]
  simpa [setAll] using h
/-- the first is one thing of the store -/
theorem call_one {sp : DSp} {ds : List D} {S : Store} {j : Nat} {e : Ent} {post : DK} (hj : S[j]? = some e) (hb : belows 0 ds = true) (he : belowE 0 e = true)
    (h : sp (.lr 0 :: ds) [e] fun d S' => post (ren (rn [j] S.length) d) (setAll [j] ((S'.take 1).map (renE (rn [j] S.length))) S ++ (S'.drop 1).map (renE (rn [j] S.length)))) : callD sp (.lr j :: ds) S post := by
  refine ⟨[j], .lr 0 :: ds, [e], by simp, ?_, rfl, fun i n e' h1 h2 => ?_, h⟩
  · rw [rens, rens_belows _ ds hb, ren]
    simp [rn]
  · have hi : i = 0 := by
      have := (List.getElem?_eq_some_iff.mp h1).1
      simp at this
      exact this
    subst hi
    simp at h1 h2
    subst h1 h2
    rw [renE_below _ _ he]
    exact hj
/-- the first two are things of the store -/
theorem call_two {sp : DSp} {ds : List D} {S : Store} {j k : Nat} {e e2 : Ent} {post : DK} (hjk : j ≠ k) (hj : S[j]? = some e) (hk : S[k]? = some e2) (hb : belows 0 ds = true) (he : belowE 0 e = true) (he2 : belowE 0 e2 = true)
    (h : sp (.lr 0 :: .lr 1 :: ds) [e, e2] fun d S' => post (ren (rn [j, k] S.length) d) (setAll [j, k] ((S'.take 2).map (renE (rn [j, k] S.length))) S ++ (S'.drop 2).map (renE (rn [j, k] S.length)))) : callD sp (.lr j :: .lr k :: ds) S post := by
  refine ⟨[j, k], .lr 0 :: .lr 1 :: ds, [e, e2], by simp [hjk], ?_, rfl, fun i n e' h1 h2 => ?_, h⟩
  · rw [rens, rens, rens_belows _ ds hb, ren, ren]
    simp [rn]
  · have hi : i < 2 := (List.getElem?_eq_some_iff.mp h1).1
    match i, hi with
    | 0, _ =>
      simp at h1 h2
      subst h1 h2
      rw [renE_below _ _ he]
      exact hj
    | 1, _ =>
      simp at h1 h2
      subst h1 h2
      rw [renE_below _ _ he2]
      exact hk
/-! ### rows picked out -/
def flt {α : Type} (c : Nat → Bool) (v : Nat → α) (n : Nat) : List α := ((List.range n).filter c).map v
theorem flt_zero {α : Type} {c : Nat → Bool} {v : Nat → α} : flt c v 0 = [] := rfl
theorem flt_succ {α : Type} {c : Nat → Bool} {v : Nat → α} {n : Nat} : flt c v (n + 1) = flt c v n ++ (if c n = true then [v n] else []) := by
  unfold flt
  rw [List.range_succ, List.filter_append, List.map_append]
  congr 1
  by_cases h : c n = true
  · simp [h]
  · simp [h]
theorem flt_pos {α : Type} {c : Nat → Bool} {v : Nat → α} {n : Nat} (h : c n = true) : flt c v n ++ [v n] = flt c v (n + 1) := by rw [flt_succ, if_pos h]
theorem flt_neg {α : Type} {c : Nat → Bool} {v : Nat → α} {n : Nat} (h : ¬ c n = true) : flt c v n = flt c v (n + 1) := by rw [flt_succ, if_neg h, List.append_nil]
theorem flt_len {α : Type} {c : Nat → Bool} {v : Nat → α} {n : Nat} : (flt c v n).length ≤ n := by
  unfold flt
  rw [List.length_map]
  have := List.length_filter_le c (List.range n)
  rwa [List.length_range] at this
theorem flt_map {α β : Type} {c : Nat → Bool} {v : Nat → α} (f : α → β) {n : Nat} : (flt c v n).map f = flt c (fun i => f (v i)) n := by
  unfold flt
  rw [List.map_map]
  rfl
theorem flt_all {α : Type} {v : Nat → α} {n : Nat} : flt (fun _ => true) v n = (List.range n).map v := by
  unfold flt
  rw [List.filter_eq_self.mpr fun _ _ => rfl]
theorem flt_congr {α : Type} {c c' : Nat → Bool} {v v' : Nat → α} {n : Nat} (h : ∀ i, i < n → c i = c' i) (h2 : ∀ i, i < n → c i = true → v i = v' i) : flt c v n = flt c' v' n := by
  induction n with
  | zero => rfl
  | succ n ih =>
    rw [flt_succ, flt_succ, ih (fun i hi => h i (by omega)) (fun i hi => h2 i (by omega)), ← h n (by omega)]
    by_cases q : c n = true
    · rw [if_pos q, if_pos q, h2 n (by omega) q]
    · rw [if_neg q, if_neg q]
theorem flt_mem {α : Type} {c : Nat → Bool} {v : Nat → α} {n : Nat} {a : α} : a ∈ flt c v n ↔ ∃ i, i < n ∧ c i = true ∧ v i = a := by
  unfold flt
  rw [List.mem_map]
  constructor
  · rintro ⟨i, hi, rfl⟩
    rw [List.mem_filter, List.mem_range] at hi
    exact ⟨i, hi.1, hi.2, rfl⟩
  · rintro ⟨i, h1, h2, rfl⟩
    exact ⟨i, List.mem_filter.mpr ⟨List.mem_range.mpr h1, h2⟩, rfl⟩
/-! ### pages, edits -/
def tI (xs : List Int) : D := .tup (xs.map D.int)
def dE (p : Int × Int) : D := .tup [.int p.1, .int p.2]
def tE (es : List (Int × Int)) : D := .tup (es.map dE)
theorem below_tI (n : Nat) (xs : List Int) : below n (tI xs) = true := by
  unfold tI
  rw [below]
  exact belows_ints n xs
theorem below_dE (n : Nat) (p : Int × Int) : below n (dE p) = true := by simp [dE, below, belows]
theorem below_tE (n : Nat) (es : List (Int × Int)) : below n (tE es) = true := by
  unfold tE
  rw [below]
  exact belows_map _ (below_dE n) es
theorem tI_inj {xs ys : List Int} : tI xs = tI ys ↔ xs = ys := by
  unfold tI
  constructor
  · intro h
    have h' : xs.map D.int = ys.map D.int := by injection h
    exact List.map_inj_right (fun a b e => by injection e) |>.mp h'
  · intro h
    rw [h]
theorem toPs_ints (xs : List Int) : toPs (xs.map D.int) = xs.map PyData.int := by
  induction xs with
  | nil => rfl
  | cons x xs ih => rw [List.map_cons, toPs, ih, toP, List.map_cons]
theorem eqvAll_ints : ∀ (xs ys : List Int), PyData.eqvAll (xs.map PyData.int) (ys.map PyData.int) = decide (xs = ys)
  | [], [] => by rw [List.map_nil, PyData.eqvAll]; simp
  | [], y :: ys => by rw [List.map_nil, List.map_cons, PyData.eqvAll]; simp
  | x :: xs, [] => by rw [List.map_nil, List.map_cons, PyData.eqvAll]; simp
  | x :: xs, y :: ys => by
    rw [List.map_cons, List.map_cons, PyData.eqvAll, eqvAll_ints xs ys, PyData.eqv]
    by_cases h : x = y
    · subst h
      simp
    · simp [h]
theorem eqv_tI (xs ys : List Int) : PyData.eqv (toP (tI xs)) (toP (tI ys)) = decide (xs = ys) := by
  unfold tI
  rw [toP, toP, toPs_ints, toPs_ints, PyData.eqv, eqvAll_ints]
/-- equal data are equal -/
theorem oEq_fine {neg : Bool} {c k c' k' : Nat} {xs ys : List D} {S : Store} {post : DK} (h1 : Fine c k (.tup xs)) (h2 : Fine c' k' (.tup ys)) (hk : k ≤ 64) (hk' : k' ≤ 64) (h : post (.bl (neg ^^ PyData.eqv (toP (.tup xs)) (toP (.tup ys)))) S) : oEq neg (.tup xs) (.tup ys) S post :=
  ⟨_, _, .inl ⟨h1.1, rfl⟩, .inl ⟨h2.1, rfl⟩, h1.2.shaped hk, h2.2.shaped hk', h⟩
end DL
/-! DV: a walk is carried out by the simplifier. -/
namespace DL
open PySem PySem.Spec PyProof.Rows L2
variable [HasT]
section
variable {S : Store} {post : DK} {n m : Nat} {i j : Int} {xs ys ds : List D} {d x y : D}
theorem go_ix_lr : oIx (.lr n) (.int i) S post ↔ ∃ ds, S[n]? = some (.lst ds) ∧ ∃ d, L2.atI ds i = some d ∧ post d S := by
  constructor
  · rintro ⟨ds, j, d, h1, h2, h3, h4⟩
    cases h2
    exact ⟨ds, seqOf_lr.mp h1, d, h3, h4⟩
  · rintro ⟨ds, h1, d, h3, h4⟩
    exact ⟨ds, i, d, seqOf_lr.mpr h1, rfl, h3, h4⟩
theorem go_ix_tup : oIx (.tup xs) (.int i) S post ↔ ∃ d, L2.atI xs i = some d ∧ post d S := by
  constructor
  · rintro ⟨ds, j, d, h1, h2, h3, h4⟩
    cases h2
    cases seqOf_tup.mp h1
    exact ⟨d, h3, h4⟩
  · rintro ⟨d, h3, h4⟩
    exact ⟨xs, i, d, seqOf_tup.mpr rfl, rfl, h3, h4⟩
theorem go_ix_rl : oIx (.rl xs) (.int i) S post ↔ ∃ d, L2.atI xs i = some d ∧ post d S := by
  constructor
  · rintro ⟨ds, j, d, h1, h2, h3, h4⟩
    cases h2
    cases seqOf_rl.mp h1
    exact ⟨d, h3, h4⟩
  · rintro ⟨d, h3, h4⟩
    exact ⟨xs, i, d, seqOf_rl.mpr rfl, rfl, h3, h4⟩
theorem go_at0 {α : Type} {x : α} {xs : List α} : L2.atI (x :: xs) 0 = some x := atI_of (Int.le_refl _) rfl
theorem go_at1 {α : Type} {x y : α} {xs : List α} : L2.atI (x :: y :: xs) 1 = some y := atI_of (by decide) rfl
theorem go_at2 {α : Type} {x y z : α} {xs : List α} : L2.atI (x :: y :: z :: xs) 2 = some z := atI_of (by decide) rfl
theorem go_ix0 {n : Nat} : L2.ixN (n + 1) 0 = some 0 := ixN_of (Int.le_refl _) (by omega)
theorem go_ix1 {n : Nat} : L2.ixN (n + 1 + 1) 1 = some 1 := ixN_of (by decide) (by omega)
theorem go_ix20 : L2.ixN 2 0 = some 0 := rfl
theorem go_ix21 : L2.ixN 2 1 = some 1 := rfl
theorem go_int_int : cInt [.int i] S post ↔ post (.int i) S := by simp [cInt]
theorem go_int_bl {b : Bool} : cInt [.bl b] S post ↔ post (.int (if b then 1 else 0)) S := by simp [cInt]
theorem go_2c {g : Int → Int → Int} : c2I g [.int i, .int j] S post ↔ post (.int (g i j)) S := by
  constructor
  · rintro ⟨a, b, h, p⟩
    injection h with h1 h2
    injection h2 with h3 h4
    cases h1
    cases h3
    exact p
  · exact fun p => ⟨i, j, rfl, p⟩
theorem go_2I {C : Int → Int → Prop} {g : Int → Int → D} : o2I C g (.int i) (.int j) S post ↔ C i j ∧ post (g i j) S := Iff.rfl
theorem go_2J {g : Int → Int → D} : o2J g (.int i) (.int j) S post ↔ post (g i j) S := Iff.rfl
theorem go_1J {g : Int → D} : o1J g (.int i) S post ↔ post (g i) S := Iff.rfl
theorem go_add : oAdd (.int i) (.int j) S post ↔ post (.int (i + j)) S := Iff.rfl
theorem go_add_lr : oAdd (.lr n) (.lr m) S post ↔ ∃ xs, S[n]? = some (.lst xs) ∧ ∃ ys, S[m]? = some (.lst ys) ∧ xs.length + ys.length ≤ 100000 ∧ post (.lr S.length) (S ++ [.lst (xs ++ ys)]) :=
  ⟨fun ⟨xs, ys, a, b, c, d⟩ => ⟨xs, a, ys, b, c, d⟩, fun ⟨xs, a, ys, b, c, d⟩ => ⟨xs, ys, a, b, c, d⟩⟩
theorem go_set {p : Store → Prop} : setSeq (.lr n) (.int i) d S p ↔ ∃ ds, S[n]? = some (.lst ds) ∧ ∃ j, L2.ixN ds.length i = some j ∧ p (S.set n (.lst (ds.set j d))) := by
  constructor
  · rintro ⟨a, ds, k, j, h1, h2, h3, h4, h5⟩
    cases h1
    cases h3
    exact ⟨ds, h2, j, h4, h5⟩
  · rintro ⟨ds, h2, j, h4, h5⟩
    exact ⟨n, ds, i, j, rfl, h2, rfl, h4, h5⟩
theorem go_len : cLen [x] S post ↔ ∃ xs, seqOf S x xs ∧ post (.int xs.length) S := by
  constructor
  · rintro ⟨a, xs, h, q, p⟩
    cases h
    exact ⟨xs, q, p⟩
  · exact fun ⟨xs, q, p⟩ => ⟨x, xs, rfl, q, p⟩
theorem go_tuple : cTuple [x] S post ↔ ∃ xs, seqOf S x xs ∧ post (.tup xs) S := by
  constructor
  · rintro ⟨a, xs, h, q, p⟩
    cases h
    exact ⟨xs, q, p⟩
  · exact fun ⟨xs, q, p⟩ => ⟨x, xs, rfl, q, p⟩
theorem go_list : cList [x] S post ↔ ∃ xs, seqOf S x xs ∧ post (.lr S.length) (S ++ [.lst xs]) := by
  constructor
  · rintro ⟨a, xs, h, q, p⟩
    cases h
    exact ⟨xs, q, p⟩
  · exact fun ⟨xs, q, p⟩ => ⟨x, xs, rfl, q, p⟩
theorem go_eq_int {neg : Bool} : oEq neg (.int i) (.int j) S post ↔ post (.bl (neg ^^ decide (i = j))) S := Iff.rfl
theorem go_eq_bl {neg a b : Bool} : oEq neg (.bl a) (.bl b) S post ↔ post (.bl (neg ^^ decide (a = b))) S := Iff.rfl
theorem go_eq_str {neg : Bool} {a b : Str} : oEq neg (.str a) (.str b) S post ↔ post (.bl (neg ^^ decide (a = b))) S := Iff.rfl
theorem go_gtup {k : Nat} {gs : DGs} {ρ : DEnv} {p : DEnv → Store → Prop} : gTup k gs (.tup xs) ρ S p ↔ xs.length = k ∧ gs xs ρ S p := by
  constructor
  · rintro ⟨ds, h | h, a, b⟩
    · cases h
      exact ⟨a, b⟩
    · cases h
  · exact fun ⟨a, b⟩ => ⟨xs, .inl rfl, a, b⟩
theorem go_gztup {k : Nat} {gs : DGs} {ρ : DEnv} {p : DEnv → Store → Prop} : gTup k gs (.ztup xs) ρ S p ↔ xs.length = k ∧ gs xs ρ S p := by
  constructor
  · rintro ⟨ds, h | h, a, b⟩
    · cases h
    · cases h
      exact ⟨a, b⟩
  · exact fun ⟨a, b⟩ => ⟨xs, .inr rfl, a, b⟩
theorem go_gcons {g : DG} {gs : DGs} {ρ : DEnv} {p : DEnv → Store → Prop} : gCons g gs (d :: xs) ρ S p ↔ g d ρ S fun ρ1 S1 => gs xs ρ1 S1 p := by
  constructor
  · rintro ⟨a, b, h, q⟩
    cases h
    exact q
  · exact fun q => ⟨d, xs, rfl, q⟩
theorem go_gnil {ρ : DEnv} {p : DEnv → Store → Prop} : gNil [] ρ S p ↔ p ρ S := ⟨fun h => h.2, fun h => ⟨rfl, h⟩⟩
theorem go_bl {b : Bool} {f : Bool → Prop} : asB (.bl b) f ↔ f b := Iff.rfl
def appK (o : D) (post : DK) (d : D) (S2 : Store) : Prop := ∃ (n : Nat) (ds : List D), o = .lr n ∧ S2[n]? = some (.lst ds) ∧ ds.length ≤ 100000 ∧ post .non (S2.set n (.lst (ds ++ [d])))
theorem go_app {to te : DE} {ρ : DEnv} : dApp to te ρ S post ↔ to ρ S fun o S1 => (∃ (n : Nat) (ds : List D), o = .lr n ∧ S1[n]? = some (.lst ds)) ∧ te ρ S1 (appK o post) := Iff.rfl
theorem go_ex_lr {P : Nat → Prop} : (∃ k, D.lr n = .lr k ∧ P k) ↔ P n := by
  constructor
  · rintro ⟨k, h, p⟩
    cases h
    exact p
  · exact fun p => ⟨n, rfl, p⟩
theorem go_app1 : appK (.lr n) post d S ↔ ∃ ds, S[n]? = some (.lst ds) ∧ ds.length ≤ 100000 ∧ post .non (S.set n (.lst (ds ++ [d]))) := by
  constructor
  · rintro ⟨k, ds, h, p⟩
    cases h
    exact ⟨ds, p⟩
  · exact fun ⟨ds, p⟩ => ⟨n, ds, rfl, p⟩
theorem go_app0 : (∃ (k : Nat) (ds : List D), D.lr n = .lr k ∧ S[k]? = some (.lst ds)) ↔ ∃ ds, S[n]? = some (.lst ds) := by
  constructor
  · rintro ⟨k, ds, h, p⟩
    cases h
    exact ⟨ds, p⟩
  · exact fun ⟨ds, p⟩ => ⟨n, ds, rfl, p⟩
end
theorem go_seqS {t u : DS} {E : DEnds} {ρ : DEnv} {S : Store} : dSeq t u E ρ S = t { E with nx := u E } ρ S := rfl
/-! ### loops -/
section
variable {w : DIt} {g : DG} {tt : DT} {te : DE} {tb : DS} {vs : List Nat} {ρ : DEnv} {S : Store} {post : DK} {E : DEnds} {t : DA}
def lcK (g : DG) (tt : DT) (te : DE) (vs : List Nat) (ρ : DEnv) (post : DK) (xs : List D) (C : Store → Prop) (S1 : Store) : Prop := ∃ I : Nat → List D → Store → Prop, I 0 [] S1 ∧ (∀ i acc S, i ≤ xs.length → I i acc S → C S) ∧
  (∀ (i : Nat) (d : D) (acc : List D) (S : Store), xs[i]? = some d → I i acc S → g d (wipeD ρ vs) S fun ρ2 S2 => tt ρ2 S2 fun b S3 => if b = true then te ρ2 S3 fun y S4 => acc.length ≤ 100000 ∧ I (i + 1) (acc ++ [y]) S4 else I (i + 1) acc S3) ∧
  ∀ acc S, I xs.length acc S → post (.lr S.length) (S ++ [.lst acc])
theorem go_lc : dLc w g tt te vs ρ S post = w ρ S (lcK g tt te vs ρ post) := rfl
def forK (g : DG) (tb : DS) (E : DEnds) (ρ : DEnv) (xs : List D) (C : Store → Prop) (S1 : Store) : Prop := ∃ I : Nat → DEnv → Store → Prop, I 0 ρ S1 ∧ (∀ i ρ S, i ≤ xs.length → I i ρ S → C S) ∧
  (∀ (i : Nat) (d : D) (ρ : DEnv) (S : Store), xs[i]? = some d → I i ρ S → g d ρ S fun ρ2 S2 => tb { E with nx := I (i + 1), ct := I (i + 1), bk := E.nx } ρ2 S2) ∧ ∀ ρ S, I xs.length ρ S → E.nx ρ S
theorem go_for : dFor w g tb E ρ S = w ρ S (forK g tb E ρ) := rfl
variable {p : List D → (Store → Prop) → Store → Prop} {x y z : D} {j k : Int}
theorem go_seq : wSeq te ρ S p = te ρ S fun d S1 => ∃ xs, seqOf S1 d xs ∧ p xs (fun S2 => seqOf S2 d xs) S1 := rfl
def rng1K (p : List D → (Store → Prop) → Store → Prop) (ds : List D) (S1 : Store) : Prop := ∃ j, ds = [.int j] ∧ -1000000 ≤ j ∧ j ≤ 1000000 ∧ p (upTo 0 j.toNat) (fun _ => True) S1
theorem go_rng1 : wRng1 t ρ S p = t ρ S (rng1K p) := rfl
theorem go_rng1K : rng1K p [.int j] S ↔ (-1000000 ≤ j ∧ j ≤ 1000000) ∧ p (upTo 0 j.toNat) (fun _ => True) S := by
  constructor
  · rintro ⟨i, h, a, b, c⟩
    cases h
    exact ⟨⟨a, b⟩, c⟩
  · exact fun ⟨⟨a, b⟩, c⟩ => ⟨j, rfl, a, b, c⟩
def rng2K (p : List D → (Store → Prop) → Store → Prop) (ds : List D) (S1 : Store) : Prop := ∃ i j, ds = [.int i, .int j] ∧ -1000000 ≤ i ∧ i ≤ 1000000 ∧ -1000000 ≤ j ∧ j ≤ 1000000 ∧ p (upTo i (j - i).toNat) (fun _ => True) S1
theorem go_rng2 : wRng2 t ρ S p = t ρ S (rng2K p) := rfl
theorem go_rng2K : rng2K p [.int j, .int k] S ↔ (-1000000 ≤ j ∧ j ≤ 1000000 ∧ -1000000 ≤ k ∧ k ≤ 1000000) ∧ p (upTo j (k - j).toNat) (fun _ => True) S := by
  constructor
  · rintro ⟨i, l, h, a, b, c, d, e⟩
    cases h
    exact ⟨⟨a, b, c, d⟩, e⟩
  · exact fun ⟨⟨a, b, c, d⟩, e⟩ => ⟨j, k, rfl, a, b, c, d, e⟩
def ezK (p : List D → (Store → Prop) → Store → Prop) (ds : List D) (S1 : Store) : Prop := ∃ x y xs ys, ds = [x, y] ∧ seqOf S1 x xs ∧ seqOf S1 y ys ∧ p (ezD xs ys) (fun S2 => seqOf S2 x xs ∧ seqOf S2 y ys) S1
theorem go_ez : wEz t ρ S p = t ρ S (ezK p) := rfl
theorem go_ezK : ezK p [x, y] S ↔ ∃ xs, seqOf S x xs ∧ ∃ ys, seqOf S y ys ∧ p (ezD xs ys) (fun S2 => seqOf S2 x xs ∧ seqOf S2 y ys) S := by
  constructor
  · rintro ⟨a, b, xs, ys, h, q, r, c⟩
    cases h
    exact ⟨xs, q, ys, r, c⟩
  · exact fun ⟨xs, q, ys, r, c⟩ => ⟨x, y, xs, ys, rfl, q, r, c⟩
def zip3K (p : List D → (Store → Prop) → Store → Prop) (ds : List D) (S1 : Store) : Prop := ∃ x y u xs ys us, ds = [x, y, u] ∧ seqOf S1 x xs ∧ seqOf S1 y ys ∧ seqOf S1 u us ∧ p (zip3D xs ys us) (fun S2 => seqOf S2 x xs ∧ seqOf S2 y ys ∧ seqOf S2 u us) S1
theorem go_zip3 : wZip3 t ρ S p = t ρ S (zip3K p) := rfl
theorem go_zip3K : zip3K p [x, y, z] S ↔ ∃ xs, seqOf S x xs ∧ ∃ ys, seqOf S y ys ∧ ∃ zs, seqOf S z zs ∧ p (zip3D xs ys zs) (fun S2 => seqOf S2 x xs ∧ seqOf S2 y ys ∧ seqOf S2 z zs) S := by
  constructor
  · rintro ⟨a, b, c, xs, ys, zs, h, q, r, s, u⟩
    cases h
    exact ⟨xs, q, ys, r, zs, s, u⟩
  · exact fun ⟨xs, q, ys, r, zs, s, u⟩ => ⟨x, y, z, xs, ys, zs, rfl, q, r, s, u⟩
/-- a comprehension that leaves the store alone -/
theorem lc_pure {xs : List D} {C : Store → Prop} {S1 : Store} (c : Nat → Bool) (v : Nat → D) (hC : C S1) (hl : xs.length ≤ 100000)
    (step : ∀ (i : Nat) (d : D) (acc : List D) (J : List D → Store → Prop), xs[i]? = some d → acc.length ≤ 100000 → (c i = true → J (acc ++ [v i]) S1) → (c i = false → J acc S1) →
      g d (wipeD ρ vs) S1 fun ρ2 S2 => tt ρ2 S2 fun b S3 => if b = true then te ρ2 S3 fun y S4 => acc.length ≤ 100000 ∧ J (acc ++ [y]) S4 else J acc S3)
    (fin : post (.lr S1.length) (S1 ++ [.lst (flt c v xs.length)])) : lcK g tt te vs ρ post xs C S1 := by
  refine ⟨fun i acc S => S = S1 ∧ acc = flt c v i, ⟨rfl, rfl⟩, fun i acc S _ h => by rw [h.1]; exact hC, fun i d acc S hd h => ?_, fun acc S h => by rw [h.1, h.2]; exact fin⟩
  obtain ⟨rfl, rfl⟩ := h
  have hi := (List.getElem?_eq_some_iff.mp hd).1
  have hn : (flt c v i).length ≤ i := flt_len
  exact step i d _ (fun acc S' => S' = S ∧ acc = flt c v (i + 1)) hd (by omega) (fun h => ⟨rfl, flt_pos h⟩) fun h => ⟨rfl, flt_neg (by rw [h]; decide)⟩
/-- a comprehension that keeps an invariant -/
theorem lc_inv {xs : List D} {C : Store → Prop} {S1 : Store} (I : Nat → List D → Store → Prop) (h0 : I 0 [] S1) (hC : ∀ i acc S, i ≤ xs.length → I i acc S → C S)
    (step : ∀ (i : Nat) (d : D) (acc : List D) (S : Store), xs[i]? = some d → I i acc S → g d (wipeD ρ vs) S fun ρ2 S2 => tt ρ2 S2 fun b S3 => if b = true then te ρ2 S3 fun y S4 => acc.length ≤ 100000 ∧ I (i + 1) (acc ++ [y]) S4 else I (i + 1) acc S3)
    (fin : ∀ acc S, I xs.length acc S → post (.lr S.length) (S ++ [.lst acc])) : lcK g tt te vs ρ post xs C S1 := ⟨I, h0, hC, step, fin⟩
theorem for_inv {xs : List D} {C : Store → Prop} {S1 : Store} (I : Nat → DEnv → Store → Prop) (h0 : I 0 ρ S1) (hC : ∀ i ρ S, i ≤ xs.length → I i ρ S → C S)
    (step : ∀ (i : Nat) (d : D) (ρ : DEnv) (S : Store), xs[i]? = some d → I i ρ S → g d ρ S fun ρ2 S2 => tb { E with nx := I (i + 1), ct := I (i + 1), bk := E.nx } ρ2 S2)
    (fin : ∀ ρ S, I xs.length ρ S → E.nx ρ S) : forK g tb E ρ xs C S1 := ⟨I, h0, hC, step, fin⟩
theorem int_at {xs : List Int} {i : Nat} {d : D} (h : (xs.map D.int)[i]? = some d) : ∃ a, xs[i]? = some a ∧ xs.getD i 0 = a ∧ d = .int a := by
  rw [List.getElem?_map] at h
  cases q : xs[i]? with
  | none =>
    rw [q] at h
    cases h
  | some a =>
    rw [q] at h
    cases h
    exact ⟨a, rfl, by rw [List.getD_eq_getElem?_getD, q]; rfl, rfl⟩
theorem ren_tI (f : Nat → Nat) (xs : List Int) : ren f (tI xs) = tI xs := ren_below f _ (below_tI 0 xs)
theorem ren_tE (f : Nat → Nat) (xs : List (Int × Int)) : ren f (tE xs) = tE xs := ren_below f _ (below_tE 0 xs)
theorem ren_int (f : Nat → Nat) (i : Int) : ren f (.int i) = .int i := ren_below f _ (by simp [below])
theorem ren_bl (f : Nat → Nat) (i : Bool) : ren f (.bl i) = .bl i := ren_below f _ (by simp [below])
theorem ren_ints (f : Nat → Nat) (xs : List Int) : rens f (xs.map D.int) = xs.map D.int := rens_belows f _ (belows_ints 0 xs)
end
theorem end_new0 {S : Store} {post : DK} {e : Ent} (h1 : belowE 0 e = true) (h : post (.lr 0) [e]) : fnEnd [] post (.lr S.length) (S ++ [e]) :=
  end_new e (Nat.zero_le _) (by rw [List.getElem?_append_right (Nat.le_refl _), Nat.sub_self]; rfl) h1 rfl h
theorem lay_ints : ∀ xs : List Int, PyData.canLayAll0 (xs.map PyData.int) = true ∧ PyData.depthAll (xs.map PyData.int) = 0
  | [] => ⟨rfl, rfl⟩
  | x :: xs => by
    obtain ⟨a, b⟩ := lay_ints xs
    refine ⟨?_, ?_⟩
    · rw [List.map_cons, PyData.canLayAll0, a]
      rfl
    · rw [List.map_cons, PyData.depthAll, b]
      rfl
theorem shaped_ints (xs : List Int) : SeqAt.shaped (.list (xs.map PyData.int)) = true := by
  obtain ⟨a, b⟩ := lay_ints xs
  unfold SeqAt.shaped
  rw [PyData.canLay0, PyData.depth, a, b]
  rfl
theorem plains_ints : ∀ xs : List Int, plains (xs.map D.int) = true
  | [] => rfl
  | x :: xs => by
    rw [List.map_cons, plains, plains_ints xs]
    rfl
/-- a list of ints beside a list of ints -/
theorem oEq_rl {neg : Bool} {xs ys : List Int} {S : Store} {n : Nat} {post : DK} (h : S[n]? = some (.lst (ys.map D.int))) (p : post (.bl (neg ^^ decide (xs = ys))) S) : oEq neg (.rl (xs.map D.int)) (.lr n) S post := by
  refine ⟨.list (toPs (xs.map D.int)), .list (toPs (ys.map D.int)), .inl ⟨by rw [plain]; exact plains_ints xs, by rw [toP]⟩, .inr ⟨n, _, rfl, h, plains_ints ys, rfl⟩, ?_, ?_, ?_⟩
  · rw [toPs_ints]
    exact shaped_ints xs
  · rw [toPs_ints]
    exact shaped_ints ys
  · rw [toPs_ints, toPs_ints, PyData.eqv, eqvAll_ints]
    exact p
end DL
/-! DW: membership, dicts, all, is True. -/
namespace DL
open PySem PySem.Spec PyProof.Rows L2
variable [HasT]

/-! ### dicts -/
def keyD : D → Option Key
  | .int i => some (.inl i)
  | .str x => some (.inr x)
  | _ => none
def valD (kvs : List (Key × D)) (k : Key) : Option D := (kvs.find? fun kv => decide (kv.1 = k)).map (·.2)
def putD (kvs : List (Key × D)) (k : Key) (d : D) : List (Key × D) := if (kvs.any fun kv => decide (kv.1 = k)) = true then kvs.map (fun kv => if kv.1 = k then (kv.1, d) else kv) else kvs ++ [(k, d)]
theorem keyD_rel {K : PySem.W.Frag} {H : Hp} {A : List Addr} {d : D} {v : V} {k : Key} (r : RelD K H A d v) (h : keyD d = some k) : v = kV k := by
  cases d <;> simp [keyD] at h
  · subst h
    exact r
  · subst h
    exact r
section
variable {K : PySem.W.Frag} {H : Hp} {A : List Addr}
/-- entries that stand for each other -/
inductive RelP (K : PySem.W.Frag) (H : Hp) (A : List Addr) : List (Key × D) → List (Key × V) → Prop
  | nil : RelP K H A [] []
  | cons {k : Key} {d : D} {v : V} {ds : List (Key × D)} {vs : List (Key × V)} (h : RelD K H A d v) (t : RelP K H A ds vs) : RelP K H A ((k, d) :: ds) ((k, v) :: vs)
theorem relP_of : ∀ {kvs : List (Key × D)} {ws : List (Key × V)}, ws.map (·.1) = kvs.map (·.1) → RelDs K H A (kvs.map (·.2)) (ws.map (·.2)) → RelP K H A kvs ws
  | [], [], _, _ => .nil
  | [], _ :: _, h, _ => by simp at h
  | _ :: _, [], h, _ => by simp at h
  | (k, d) :: ds, (k', v) :: vs, h, ⟨v', r', e, h1, h2⟩ => by
    rw [List.map_cons, List.map_cons] at h
    injection h with e1 e2
    have e1' : k' = k := e1
    subst e1'
    rw [List.map_cons] at e
    injection e with e3 e4
    have e3' : v = v' := e3
    subst e3'
    rw [← e4] at h2
    exact .cons h1 (relP_of e2 h2)
theorem RelP.keys : ∀ {kvs : List (Key × D)} {ws : List (Key × V)}, RelP K H A kvs ws → ws.map (·.1) = kvs.map (·.1)
  | _, _, .nil => rfl
  | _, _, .cons h t => by rw [List.map_cons, List.map_cons, RelP.keys t]
theorem RelP.vals : ∀ {kvs : List (Key × D)} {ws : List (Key × V)}, RelP K H A kvs ws → RelDs K H A (kvs.map (·.2)) (ws.map (·.2))
  | _, _, .nil => rfl
  | _, _, .cons h t => ⟨_, _, rfl, h, RelP.vals t⟩
theorem RelP.len {kvs : List (Key × D)} {ws : List (Key × V)} (h : RelP K H A kvs ws) : ws.length = kvs.length := by
  have := congrArg List.length h.keys
  simpa using this
theorem RelP.any {kvs : List (Key × D)} {ws : List (Key × V)} (h : RelP K H A kvs ws) (k : Key) : (ws.any fun kv => decide (kv.1 = k)) = kvs.any fun kv => decide (kv.1 = k) := by
  induction h with
  | nil => rfl
  | cons h t ih => rw [List.any_cons, List.any_cons, ih]
theorem RelP.val_some {kvs : List (Key × D)} {ws : List (Key × V)} (h : RelP K H A kvs ws) {k : Key} {d : D} (e : valD kvs k = some d) : ∃ v, valV ws k = some v ∧ RelD K H A d v := by
  induction h with
  | nil => cases e
  | @cons k' d' v' ds vs hd t ih =>
    unfold valD at e
    unfold valV
    by_cases c : k' = k
    · rw [List.find?_cons_of_pos (by simpa using c)] at e
      cases e
      exact ⟨v', by rw [List.find?_cons_of_pos (by simpa using c)]; rfl, hd⟩
    · rw [List.find?_cons_of_neg (by simpa using c)] at e
      rw [List.find?_cons_of_neg (by simpa using c)]
      exact ih e
theorem RelP.val_isSome {kvs : List (Key × D)} {ws : List (Key × V)} (h : RelP K H A kvs ws) (k : Key) : (valV ws k).isSome = (valD kvs k).isSome := by
  induction h with
  | nil => rfl
  | @cons k' d' v' ds vs hd t ih =>
    unfold valD valV
    by_cases c : k' = k
    · rw [List.find?_cons_of_pos (by simpa using c), List.find?_cons_of_pos (by simpa using c)]
      rfl
    · rw [List.find?_cons_of_neg (by simpa using c), List.find?_cons_of_neg (by simpa using c)]
      exact ih
theorem RelP.append {a c : List (Key × D)} {b d : List (Key × V)} (h : RelP K H A a b) (g : RelP K H A c d) : RelP K H A (a ++ c) (b ++ d) := by
  induction h with
  | nil => exact g
  | cons h t ih => exact .cons h ih
theorem RelP.put {kvs : List (Key × D)} {ws : List (Key × V)} (h : RelP K H A kvs ws) (k : Key) {d : D} {v : V} (r : RelD K H A d v) : RelP K H A (putD kvs k d) (putK ws k v) := by
  have key : RelP K H A (kvs.map fun kv => if kv.1 = k then (kv.1, d) else kv) (ws.map fun kv => if kv.1 = k then (kv.1, v) else kv) := by
    induction h with
    | nil => exact .nil
    | @cons k' d' v' ds vs hd t ih =>
      rw [List.map_cons, List.map_cons]
      by_cases c : k' = k
      · rw [if_pos c, if_pos c]
        exact .cons r ih
      · rw [if_neg c, if_neg c]
        exact .cons hd ih
  unfold putD putK
  rw [h.any k]
  by_cases c : (kvs.any fun kv => decide (kv.1 = k)) = true
  · rw [if_pos c, if_pos c]
    exact key
  · rw [if_neg c, if_neg c]
    exact h.append (.cons r .nil)
theorem RelE.pairs {kvs : List (Key × D)} {a : Addr} (r : RelE K H A (.dct kvs) a) : ∃ ws, H a = some (.dK ws) ∧ RelP K H A kvs ws := by
  obtain ⟨ws, h1, h2, h3⟩ := r
  exact ⟨ws, h1, relP_of h2 h3⟩
theorem RelP.ext {H' : Hp} {A' : List Addr} {kvs : List (Key × D)} {ws : List (Key × V)} (h : RelP K H A kvs ws) (e : Ext H A H' A') : RelP K H' A' kvs ws := by
  induction h with
  | nil => exact .nil
  | cons h t ih => exact .cons (h.ext e) ih
theorem RelP.ent {kvs : List (Key × D)} {ws : List (Key × V)} {a : Addr} (h : RelP K H A kvs ws) (e : H a = some (.dK ws)) : RelE K H A (.dct kvs) a := ⟨ws, e, h.keys, h.vals⟩
end
/-! ### x in y -/
def oIn (neg : Bool) : D2 := fun x y S post => (∃ ds d, seqOf S y ds ∧ plains ds = true ∧ dataOf S x d ∧ SeqAt.shaped d = true ∧ SeqAt.shaped (.list (toPs ds)) = true ∧ post (.bl (neg ^^ (toPs ds).any fun z => PyData.eqv z d)) S) ∨
  ∃ n kvs k, y = .lr n ∧ S[n]? = some (.dct kvs) ∧ keyD x = some k ∧ post (.bl (neg ^^ (valD kvs k).isSome)) S
def rIn2 (K : PySem.W.Frag) (neg : Bool) : R2 := fun x y H Q => (∃ d ds, Dp K H x d ∧ (Dp K H y (.list ds) ∨ Dp K H y (.tuple ds)) ∧ SeqAt.shaped d = true ∧ SeqAt.shaped (.list ds) = true ∧ Q (.bl (neg ^^ ds.any fun z => PyData.eqv z d)) H) ∨
  ∃ a o, y = .ref a ∧ DGet H a x o ∧ Q (.bl (neg ^^ o.isSome)) H
theorem op_in2 {X : Cx} (hu : X.A.units + 65 < cLine) : OpR X (compareOp .In) (rIn2 X.K false) := by
  intro pins s σ H x y v u Q I rx ry h
  rcases h with ⟨d, ds, hd, he, sd, se, q⟩ | ⟨a, o, rfl, g, q⟩
  · obtain ⟨as, r1⟩ := Dp.reads I d x v hd rx
    rw [Bool.false_xor] at q
    rcases he with he | he
    · obtain ⟨bs, r2⟩ := Dp.reads I (.list ds) y u he ry
      exact SeqAt.in_list_reads r2 r1 (SeqAt.canLay_of_shaped se) (SeqAt.canLay_of_shaped sd) (room_in_shaped sd hu) ⟨.bl _, H, I, rfl, q⟩
    · obtain ⟨bs, r2⟩ := Dp.reads I (.tuple ds) y u he ry
      exact SeqAt.in_tuple_reads r2 r1 (SeqAt.canLay_of_shaped se) (SeqAt.canLay_of_shaped sd) (room_in_shaped sd hu) ⟨.bl _, H, I, rfl, q⟩
  · obtain rfl : u = Value.ref a := ry
    rw [Bool.false_xor] at q
    exact d_in (by omega) I g rx fun s3 I3 => ⟨.bl o.isSome, H, I3, rfl, q⟩
theorem op_notIn2 {X : Cx} (hu : X.A.units + 65 < cLine) : OpR X (compareOp .NotIn) (rIn2 X.K true) := by
  intro pins s σ H x y v u Q I rx ry h
  rcases h with ⟨d, ds, hd, he, sd, se, q⟩ | ⟨a, o, rfl, g, q⟩
  · obtain ⟨as, r1⟩ := Dp.reads I d x v hd rx
    rw [Bool.true_xor] at q
    rcases he with he | he
    · obtain ⟨bs, r2⟩ := Dp.reads I (.list ds) y u he ry
      exact SeqAt.notIn_list_reads r2 r1 (SeqAt.canLay_of_shaped se) (SeqAt.canLay_of_shaped sd) (room_in_shaped sd hu) ⟨.bl _, H, I, rfl, q⟩
    · obtain ⟨bs, r2⟩ := Dp.reads I (.tuple ds) y u he ry
      exact SeqAt.notIn_tuple_reads r2 r1 (SeqAt.canLay_of_shaped se) (SeqAt.canLay_of_shaped sd) (room_in_shaped sd hu) ⟨.bl _, H, I, rfl, q⟩
  · obtain rfl : u = Value.ref a := ry
    rw [Bool.true_xor] at q
    exact d_notIn (by omega) I g rx fun s3 I3 => ⟨.bl (!o.isSome), H, I3, rfl, q⟩
section
variable {K : PySem.W.Frag}
theorem RelS.dct {H : Hp} {A : List Addr} {S : Store} (s : RelS K H A S) {n : Nat} {kvs : List (Key × D)} {v : V} (hn : S[n]? = some (.dct kvs)) (r : RelD K H A (.lr n) v) : ∃ a ws, v = .ref a ∧ A[n]? = some a ∧ H a = some (.dK ws) ∧ RelP K H A kvs ws := by
  obtain ⟨a, e, ha⟩ := r
  obtain ⟨ws, h1, h2⟩ := (s.get hn ha).pairs
  exact ⟨a, ws, e, ha, h1, h2⟩
theorem rul_in {neg : Bool} : Rul2 K (oIn neg) (rIn2 K neg) := by
  intro H A S d1 d2 v1 v2 post Q s r1 r2 h k
  rcases h with ⟨ds, d, hq, hp, hx, h1, h2, p⟩ | ⟨n, kvs, ky, rfl, hn, hk, p⟩
  · refine .inl ⟨d, toPs ds, hx.rel s r1, ?_, h1, h2, k.now (d := .bl _) s rfl p⟩
    rcases hq with rfl | rfl | ⟨n, rfl, hn⟩
    · refine .inr ?_
      have q := r2.dp (by rw [plain]; exact hp)
      rwa [toP] at q
    · refine .inl ?_
      have q := r2.dp (by rw [plain]; exact hp)
      rwa [toP] at q
    · exact .inl ((show dataOf S (.lr n) (.list (toPs ds)) from .inr ⟨n, ds, rfl, hn, hp, rfl⟩).rel s r2)
  · obtain ⟨a, ws, rfl, _, hw, rp⟩ := s.dct hn r2
    have e := keyD_rel r1 hk
    subst e
    refine .inr ⟨a, valV ws ky, rfl, .inl ⟨ws, ky, .inl hw, rfl, rfl⟩, ?_⟩
    rw [rp.val_isSome]
    exact k.now (d := .bl _) s rfl p
end
/-! ### d[k], d[k] = v -/
def rIx2 (K : PySem.W.Frag) : R2 := fun x y H Q => rIx K x y H Q ∨ ∃ a v, x = .ref a ∧ (∃ kvs k, Rd H a (.dK kvs) ∧ y = kV k ∧ some v = valV kvs k) ∧ Q v H
def oIx2 : D2 := fun x y S post => oIx x y S post ∨ ∃ n kvs k d, x = .lr n ∧ S[n]? = some (.dct kvs) ∧ keyD y = some k ∧ valD kvs k = some d ∧ post d S
def setAny : DSet := fun o i d S post => setSeq o i d S post ∨ ∃ n kvs k, o = .lr n ∧ S[n]? = some (.dct kvs) ∧ keyD i = some k ∧ kvs.length ≤ 100000 ∧ post (S.set n (.dct (putD kvs k d)))
def rSet2 : TSet := fun o i v H Q => rSetL o i v H Q ∨ rSetD o i v H Q
theorem set_any {X : Cx} (hu : X.A.units + 1 < cLine) : PSet X rSet2 := by
  intro pins s σ H o i v ov iv u Q I ro ri rv h
  rcases h with h | h
  · exact set_list pins s σ H o i v ov iv u Q I ro ri rv h
  · exact set_dict hu pins s σ H o i v ov iv u Q I ro ri rv h
section
variable {K : PySem.W.Frag}
theorem rul_setAny : RulSet K setAny rSet2 := by
  intro H A S o i d ov iv v post Q s ro ri r h k
  rcases h with h | ⟨n, kvs, ky, rfl, hn, hk, hl, p⟩
  · exact .inl (rul_set H A S o i d ov iv v post Q s ro ri r h k)
  · obtain ⟨a, ws, rfl, ha, hw, rp⟩ := s.dct hn ro
    have e := keyD_rel ri hk
    subst e
    have hp : a ∈ A := List.mem_iff_getElem?.mpr ⟨n, ha⟩
    have m1 : LdO (.dK ws) := .inr (.inl ⟨_, rfl⟩)
    have m2 : LdO (.dK (putK ws ky v)) := .inr (.inl ⟨_, rfl⟩)
    have e : Ext H A (upd H a (.dK (putK ws ky v))) A := ext_set (S := S) hp hw m1 m2
    exact .inr ⟨a, _, rfl, DPut.k hw (by rw [rp.len]; exact lt_line hl), k _ A _ e (s.set (en := .dct (putD kvs ky d)) ha hw m1 m2 (((rp.put ky r).ext e).ent upd_same)) p⟩
end
/-! ### all, is True -/
def cAll : DC := fun ds S post => ∃ (x : D) (bs : List Bool), ds = [x] ∧ seqOf S x (bs.map D.bl) ∧ (∀ ys, x ≠ .tup ys) ∧ post (.bl (bs.all id)) S
theorem rels_bl {K : PySem.W.Frag} {H : Hp} {A : List Addr} : ∀ {bs : List Bool} {vs : List V}, RelDs K H A (bs.map D.bl) vs → vs = bs.map V.bl
  | [], _, h => h
  | b :: bs, _, ⟨v, r, rfl, h1, h2⟩ => by
    rw [rels_bl h2, show v = .bl b from h1]
    rfl
theorem rul_all {K : PySem.W.Frag} : RulC K cAll (rAll K) := by
  intro H A S ds vs post Q s r hh k
  obtain ⟨x, bs, rfl, hq, hx, h⟩ := hh
  obtain ⟨v, rfl, rv⟩ := rels1 r
  obtain ⟨a, us, rfl, hs, w⟩ := hq.rel s rv
  have e := rels_bl w
  subst e
  refine ⟨a, bs, rfl, ?_, k.now (d := .bl _) s rfl h⟩
  rcases hq with rfl | rfl | ⟨n, rfl, hn⟩
  · exact absurd rfl (hx _)
  · obtain ⟨a', vs', e, h2, h3⟩ := rv
    cases e
    rw [rels_bl h3] at h2
    exact h2.sq
  · obtain ⟨a', e, ha⟩ := rv
    cases e
    obtain ⟨vs', h1, h2⟩ := s.get hn ha
    rw [rels_bl h2] at h1
    exact .inl (.inl h1)
/-- is None, is not None, is True, is not True, .. -/
def oIs (neg : Bool) : D2 := fun x y S post => oIsN neg x y S post ∨ ∃ a b, x = .bl a ∧ y = .bl b ∧ post (.bl (neg ^^ decide (a = b))) S
def rIs2 : R2 := fun x y H Q => (y = .non ∧ Q (.bl (decide (x = .non))) H) ∨ rIsB x y H Q
def rNotIs2 : R2 := fun x y H Q => (y = .non ∧ Q (.bl (!decide (x = .non))) H) ∨ rNotB x y H Q
theorem op_is2 {X : Cx} : OpR X (compareOp .Is) rIs2 := OpR.or op_isN op_isBl
theorem op_notIs2 {X : Cx} : OpR X (compareOp .IsNot) rNotIs2 := OpR.or op_notN op_notBl
theorem rul_is {K : PySem.W.Frag} : Rul2 K (oIs false) rIs2 := by
  intro H A S d1 d2 v1 v2 post Q s r1 r2 h k
  rcases h with h | ⟨a, b, rfl, rfl, p⟩
  · exact .inl (rul_isN H A S d1 d2 v1 v2 post Q s r1 r2 h k)
  · cases (show v1 = .bl a from r1)
    cases (show v2 = .bl b from r2)
    rw [Bool.false_xor] at p
    exact .inr ⟨a, b, rfl, rfl, k.now (d := .bl _) s rfl p⟩
theorem rul_notIs {K : PySem.W.Frag} : Rul2 K (oIs true) rNotIs2 := by
  intro H A S d1 d2 v1 v2 post Q s r1 r2 h k
  rcases h with h | ⟨a, b, rfl, rfl, p⟩
  · exact .inl (rul_notN H A S d1 d2 v1 v2 post Q s r1 r2 h k)
  · cases (show v1 = .bl a from r1)
    cases (show v2 = .bl b from r2)
    rw [Bool.true_xor] at p
    exact .inr ⟨a, b, rfl, rfl, k.now (d := .bl _) s rfl p⟩
/-! ### tuples and lists put together -/
def oAdd2 : D2 := fun x y S post => oAdd x y S post ∨ ∃ xs ys, x = .tup xs ∧ y = .tup ys ∧ xs.length + ys.length ≤ 100000 ∧ post (.tup (xs ++ ys)) S
def rCatP (K : PySem.W.Frag) : R2 := fun x y H Q => ∃ a b xs ys, x = .ref a ∧ y = .ref b ∧ SqT K H a xs ∧ SqT K H b ys ∧ xs.length + ys.length ≤ sizeLine ∧
  (xs = [] → Q (.ref b) H) ∧ (xs ≠ [] → ys = [] → Q (.ref a) H) ∧ (xs ≠ [] → ys ≠ [] → ∀ (p : Addr) (o : Obj), H p = none → o.dict = none → Q (.ref p) (upd H p (.frz o (.tup (xs ++ ys)))))
theorem op_catP {X : Cx} : OpR X (binaryOp .Add) (rCatP X.K) := by
  intro pins s σ H x y v u Q I rx ry h
  obtain ⟨a, b, xs, ys, rfl, rfl, ha, hb, hz, q0, q1, q2⟩ := h
  obtain rfl : v = Value.ref a := rx
  obtain rfl : u = Value.ref b := ry
  obtain ⟨its, r1, p1, _⟩ := I.tuple ha
  obtain ⟨its2, r2, p2, _⟩ := I.tuple hb
  by_cases hx : xs = []
  · subst hx
    cases r1
    exact cat_tup0 p1 p2 ⟨.ref b, H, I, rfl, q0 rfl⟩
  · refine HT.cat_tup p1 p2 (fun z => hx (r1.nil_iff.mp z)) (fun z => ⟨.ref a, H, I, rfl, q1 hx (r2.nil_iff.mp z)⟩) (fun z => ?_) (by rw [← r1.length, ← r2.length]; exact hz)
    exact ⟨.ref s.heap.objs.size, _, laidP (tk := s.toks) I (fun b ob q => Heap.get?_push_of_some _ q) (Nat.le_refl _) (by rw [Heap.get?_push_size _ rfl]) (r1.append r2) (by rw [List.length_append]; exact hz), rfl, q2 hx (fun w => z (r2.nil_iff.mpr w)) _ (obT (its ++ its2)) (I.hok.fresh (Nat.le_refl _)) rfl⟩
def rAdd4 (K : PySem.W.Frag) : R2 := fun x y H Q => rAdd3 x y H Q ∨ rCatP K x y H Q
theorem op_add4 {X : Cx} : OpR X (binaryOp .Add) (rAdd4 X.K) := OpR.or op_add3 op_catP
theorem rul_add4 {K : PySem.W.Frag} : Rul2 K oAdd2 (rAdd4 K) := by
  intro H A S d1 d2 v1 v2 post Q s r1 r2 h k
  rcases h with h | ⟨xs, ys, rfl, rfl, hl, p⟩
  · exact .inl (rul_add H A S d1 d2 v1 v2 post Q s r1 r2 h k)
  · obtain ⟨a, us, e1, h1, w1⟩ := r1
    obtain ⟨b, ws, e2, h2, w2⟩ := r2
    have nil : ∀ {ds : List D} {vs : List V}, RelDs K H A ds vs → vs = [] → ds = [] := fun w e => by
      have := w.len
      rw [e] at this
      exact List.length_eq_zero_iff.mp this.symm
    refine .inr ⟨a, b, us, ws, e1, e2, h1.sq, h2.sq, by rw [w1.len, w2.len]; exact le_line hl, fun e => ?_, fun _ e => ?_, fun _ _ q o hq ho => fin_tup s k hq ho (w1.append w2) p⟩
    · have e3 := nil w1 e
      subst e3
      exact k.now (d := .tup ys) s ⟨b, ws, rfl, h2, w2⟩ p
    · have e3 := nil w2 e
      subst e3
      rw [List.append_nil] at p
      exact k.now (d := .tup xs) s ⟨a, us, rfl, h1, w1⟩ p
/-! ### a[k], of a list, a tuple, a dict -/
theorem ix_any {X : Cx} (hu : X.A.units + 1 < cLine) : IxR X (rIx2 X.K) := by
  refine IxR.or ix_seq ?_
  intro value slice pins s σ H x y v u Q I rx ry ⟨a, z, ex, g, q⟩ hs
  subst ex
  obtain rfl : v = Value.ref a := rx
  obtain ⟨kvs, k, e, ey, l⟩ := g
  subst ey
  obtain ⟨_, _, vs, rel, dd⟩ := dk_rd I.hok e
  obtain ⟨w', hw, rw'⟩ := RelO.some_of (v := z) (o := valueAt vs k) (by rw [l]; exact rel.val k)
  exact subscriptTail_builtinR (x := w') (dict_typeIs I (.inl ⟨kvs, k, e, rfl, l⟩)) PySem.F.slot_dict_getitem.lookup (wpAny_getItem_of (kV_is ry) dd.mapOf hw ⟨rfl, z, H, I.tok _, rw', q⟩) hs
theorem rul_ix2 {K : PySem.W.Frag} : Rul2 K oIx2 (rIx2 K) := by
  intro H A S d1 d2 v1 v2 post Q s r1 r2 h k
  rcases h with h | ⟨n, kvs, ky, d, rfl, hn, hk, hd, p⟩
  · exact .inl (rul_ix H A S d1 d2 v1 v2 post Q s r1 r2 h k)
  · obtain ⟨a, ws, rfl, _, hw, rp⟩ := s.dct hn r1
    have e := keyD_rel r2 hk
    subst e
    obtain ⟨v, hv, rv⟩ := rp.val_some hd
    exact .inr ⟨a, v, rfl, ⟨ws, ky, .inl hw, rfl, hv.symm⟩, k.now s rv p⟩
end DL
/-! DX: dict comprehensions, sorted, dict of pairs, tuple(enumerate()). -/
namespace DL
open PySem PySem.Spec PyProof.Rows L2
variable [HasT]

/-! ### {k: v for ..} -/
def dDc (w : DIt) (g : DG) (tt : DT) (tk tv : DE) (vs : List Nat) : DE := fun ρ S post => w ρ S fun xs C S1 => ∃ I : Nat → List (Key × D) → Store → Prop, I 0 [] S1 ∧ (∀ i acc S, i ≤ xs.length → I i acc S → C S) ∧
  (∀ (i : Nat) (d : D) (acc : List (Key × D)) (S : Store), xs[i]? = some d → I i acc S → g d (wipeD ρ vs) S fun ρ2 S2 => tt ρ2 S2 fun b S3 => if b = true then tk ρ2 S3 fun y S4 => tv ρ2 S4 fun z S5 => ∃ k, keyD y = some k ∧ acc.length ≤ 100000 ∧ I (i + 1) (putD acc k z) S5 else I (i + 1) acc S3) ∧
  ∀ acc S, I xs.length acc S → post (.lr S.length) (S ++ [.dct acc])
theorem RelP.keep0 {K : PySem.W.Frag} {H H' : Hp} {A : List Addr} (k : ∀ a o, H a = some o → ¬ MutO o → H' a = some o) {kvs : List (Key × D)} {ws : List (Key × V)} (h : RelP K H A kvs ws) : RelP K H' A kvs ws := by
  induction h with
  | nil => exact .nil
  | cons h t ih =>
    have g := h.keep (B := []) k
    rw [List.append_nil] at g
    exact .cons g ih
theorem RelP.keepB {K : PySem.W.Frag} {H : Hp} {A B : List Addr} {kvs : List (Key × D)} {ws : List (Key × V)} (h : RelP K H A kvs ws) : RelP K H (A ++ B) kvs ws := by
  induction h with
  | nil => exact .nil
  | cons h t ih => exact .cons (h.keep fun _ _ q _ => q) ih
theorem lift_dc {K : PySem.W.Frag} {w : DIt} {g : DG} {tt : DT} {tk tv : DE} {vs ws : List Nat} (hws : ∀ i ∈ ws, i ∈ vs) {σ : L2.St} {H : Hp} {Q : VK} : liftE K (dDc w g tt tk tv vs) σ H Q → tDc (liftI K w) (liftW K ws g) (liftT K tt) (liftE K tk) (liftE K tv) vs σ H Q := by
  rintro ⟨A, ρ, S, post, n, s, h, k⟩
  refine ⟨A, ρ, S, _, n, s, h, fun J H' A' xs C S' e s' ok ⟨I, i0, iC, step, done⟩ => ?_⟩
  intro Dl hDl
  refine ⟨fun i m H2 => m = xs.length - i ∧ i ≤ xs.length ∧ ∃ A2 S2 acc us, Ext H' A' H2 A2 ∧ RelS K H2 A2 S2 ∧ Dl ∉ A2 ∧ H2 Dl = some (.dK us) ∧ RelP K H2 A2 acc us ∧ I i acc S2, ⟨xs.length, by simp, Nat.zero_le _, A', S', [], [], Ext.same (same_upd hDl), s'.same (same_upd hDl), s'.notin hDl, upd_same, .nil, i0⟩, ?_⟩
  rintro i m H2 ⟨rfl, hi, A2, S2, acc, us, e2, s2, hn2, hd2, r2, p2⟩
  obtain ⟨st, go⟩ := ok H2 A2 S2 e2 s2 (iC i acc S2 hi p2)
  by_cases hlt : i < xs.length
  · have hx : xs[i]? = some xs[i] := List.getElem?_eq_getElem hlt
    obtain ⟨g1, g2⟩ := go i _ hx
    refine .inr ⟨g1, fun H3 => ∃ A3 S3 acc3 us3, Ext H' A' H3 A3 ∧ RelS K H3 A3 S3 ∧ Dl ∉ A3 ∧ H3 Dl = some (.dK us3) ∧ RelP K H3 A3 acc3 us3 ∧ I (i + 1) acc3 S3, fun H3 ⟨A3, S3, acc3, us3, q⟩ => ⟨xs.length - (i + 1), by omega, rfl, hlt, A3, S3, acc3, us3, q⟩, fun x H3 hy => ?_⟩
    obtain ⟨same, rx⟩ := g2 x H3 hy
    have e3 : Ext H2 A2 H3 A2 := Ext.same same
    have n3 : RelN K H3 A2 (wipeD ρ vs) (L2.wipe σ vs) := ((n.ext e).ext e2).ext e3 |>.wipe vs
    refine ⟨A2, wipeD ρ vs, S2, xs[i], _, n3, s2.same same, rx, step i _ acc S2 hx p2, fun σ4 H4 A4 ρ4 S4 e4 n4 s4 hw p4 => ?_⟩
    have hww : L2.wipe σ4 vs = L2.wipe σ vs := by
      rw [hw vs hws]
      have idem : ∀ (us : List Nat) (τ : L2.St), (∀ i ∈ us, i ∈ vs) → L2.wipe (L2.wipe τ us) vs = L2.wipe τ vs := by
        intro us
        induction us with
        | nil => intro τ _; rfl
        | cons u us ih =>
          intro τ hu
          show L2.wipe ((L2.wipe τ us).set u none) vs = _
          rw [wipe_set _ u none vs (hu u List.mem_cons_self)]
          exact ih τ fun i hi => hu i (List.mem_cons_of_mem _ hi)
      exact idem vs σ fun _ h => h
    refine ⟨hww, A4, ρ4, S4, _, n4, s4, p4, fun b H5 A5 S5 e5 s5 p5 => ?_⟩
    have stay : ∀ {H6 : Hp} {A6 : List Addr}, Ext H2 A2 H6 A6 → H6 Dl = some (.dK us) ∧ Dl ∉ A6 := fun {H6 A6} e6 => by
      refine ⟨?_, fun hm => ?_⟩
      · rcases e6.keep _ _ hd2 with q | ⟨q, _⟩ | ⟨_, q⟩
        · exact q
        · exact absurd q hn2
        · cases q
      · obtain ⟨B, rfl, f⟩ := e6.pre
        rcases List.mem_append.mp hm with hm | hm
        · exact hn2 hm
        · obtain ⟨_, q⟩ := f _ hm _ hd2
          cases q
    cases b with
    | true =>
      refine ⟨A5, ρ4, S5, _, n4.ext e5, s5, p5, fun y H6 A6 d6 S6 e6 s6 r6 p6 => ?_⟩
      refine ⟨A6, ρ4, S6, _, (n4.ext e5).ext e6, s6, p6, fun z H7 A7 d7 S7 e7 s7 r7 ⟨ky, hk, hl, p7⟩ => ?_⟩
      have e27 : Ext H2 A2 H7 A7 := (((e3.trans e4).trans e5).trans e6).trans e7
      obtain ⟨q1, q2⟩ := stay e27
      have mu : LdO (.dK us) := .inr (.inl ⟨_, rfl⟩)
      have kp := keep_upd (o' := .dK (putK us ky z)) q1 (.inl mu)
      have ex : Ext H' A' H7 A7 := e2.trans e27
      refine ⟨us, ky, keyD_rel r6 hk, q1, ?_, A7, S7, putD acc ky d7, putK us ky z, ex.out hDl, s7.out q2 q1 mu, q2, upd_same, ?_, p7⟩
      · rw [r2.len]
        exact lt_line hl
      · exact ((r2.ext e27).put ky r7).keep0 kp
    | false =>
      have e25 : Ext H2 A2 H5 A5 := (e3.trans e4).trans e5
      obtain ⟨q1, q2⟩ := stay e25
      exact ⟨A5, S5, acc, us, e2.trans e25, s5, q2, q1, r2.ext e25, p5⟩
  · have ei : i = xs.length := by omega
    subst ei
    refine .inl ⟨st, ?_⟩
    have ex := e.trans e2
    have hdn : FreeO H Dl := e.free (.of hDl)
    obtain ⟨B, eB, fB⟩ := ex.pre
    have ex2 : Ext H A H2 (A2 ++ [Dl]) := ⟨⟨B ++ [Dl], by rw [eB, List.append_assoc], fun b hb => by
      rcases List.mem_append.mp hb with hb | hb
      · exact fB b hb
      · rw [List.mem_singleton.mp hb]
        exact hdn⟩, ex.keep⟩
    refine k (.ref Dl) H2 (A2 ++ [Dl]) (.lr S2.length) (S2 ++ [.dct acc]) ex2 (s2.push (en := .dct acc) hn2 (r2.keepB.ent hd2)) ⟨Dl, rfl, ?_⟩ (done acc S2 p2)
    rw [s2.len, List.getElem?_append_right (Nat.le_refl _), Nat.sub_self]
    rfl
theorem de_dc {X : Cx} {kx vx tg iter : Expr} {ifs : List Expr} {scope : Scope} {own : List (Str × Nat)} {pos : Pos} {w : DIt} {g : DG} {tt : DT} {tk tv : DE} {ws : List Nat} (hws : ∀ i ∈ ws, i ∈ own.map (·.2)) (hc : X.calm = true) (hN : X.N.Nodup) (hi : PI X tg iter (liftI X.K w)) (ok : BlkOk X.N X.env.scope scope own)
    (hg : ∀ (s : Shared) (H : Hp) (C : Addr) (cl : List (Str × Addr)) (fp : List Addr), PG (X.blk s H scope (compEnvC scope cl C X.env) fp) tg (liftW X.K ws g)) (ht : ∀ (s : Shared) (H : Hp) (C : Addr) (cl : List (Str × Addr)) (fp : List Addr), PTs (X.blk s H scope (compEnvC scope cl C X.env) fp) ifs (liftT X.K tt))
    (hk : ∀ (s : Shared) (H : Hp) (C : Addr) (cl : List (Str × Addr)) (fp : List Addr), PE (X.blk s H scope (compEnvC scope cl C X.env) fp) kx (liftE X.K tk))
    (he : ∀ (s : Shared) (H : Hp) (C : Addr) (cl : List (Str × Addr)) (fp : List Addr), PE (X.blk s H scope (compEnvC scope cl C X.env) fp) vx (liftE X.K tv)) (hs : ∀ x, foldedSetIterable iter X.env x = pure x := by intro _; rfl) :
    PE X (.DictComp kx vx [⟨tg, iter, ifs, 0⟩] scope pos) (liftE X.K (dDc w g tt tk tv (own.map (·.2)))) :=
  pe_mono (pe_dc hc hN hi ok hg ht hk he hs) fun _ _ _ => lift_dc hws
/-! ### sorted(xs), sorted(d) -/
def cSorted : DC := fun ds S post => (∃ (x : D) (ns : List Int), ds = [x] ∧ seqOf S x (ns.map .int) ∧ (∀ ys, x ≠ .tup ys) ∧ ∀ ms : List Int, ms.Perm ns → ms.Pairwise (· ≤ ·) → post (.lr S.length) (S ++ [.lst (ms.map .int)])) ∨
  ∃ (n : Nat) (kvs : List (Key × D)) (ks : List Int), ds = [.lr n] ∧ S[n]? = some (.dct kvs) ∧ kvs.map (·.1) = ks.map Sum.inl ∧ ks.length < 64 ∧ ∀ ms : List Int, ms.Perm ks → ms.Pairwise (· ≤ ·) → post (.lr S.length) (S ++ [.lst (ms.map .int)])
def rSortedDI : List V → Hp → VK → Prop := fun xs H Q => ∃ (a : Addr) (kvs : List (Key × V)) (ks : List Int), xs = [.ref a] ∧ Rd H a (.dK kvs) ∧ kvs.map (·.1) = ks.map Sum.inl ∧ ks.length < 64 ∧ ∀ (ys : List Int) (p : Addr), ys.Perm ks → ys.Pairwise (· ≤ ·) → H p = none → Q (.ref p) (upd H p (.lst (ys.map V.int)))
theorem call_sortedA {X : Cx} (hc : X.calm = true) : CallR X (.builtin "sorted") (fun xs H Q => rSortedI X.K xs H Q ∨ rSortedDI xs H Q) := CallR.or cr_sortedI (call_sortedDI hc)
theorem rels_int {K : PySem.W.Frag} {H : Hp} {A : List Addr} : ∀ {ns : List Int} {vs : List V}, RelDs K H A (ns.map D.int) vs → vs = ns.map V.int
  | [], _, h => h
  | b :: bs, _, ⟨v, r, rfl, h1, h2⟩ => by
    rw [rels_int h2, show v = .int b from h1]
    rfl
theorem int_rels {K : PySem.W.Frag} {H : Hp} {A : List Addr} : ∀ {ns : List Int}, RelDs K H A (ns.map D.int) (ns.map V.int)
  | [] => rfl
  | b :: bs => ⟨.int b, bs.map V.int, rfl, rfl, int_rels⟩
theorem seq_list {K : PySem.W.Frag} {H : Hp} {A : List Addr} {S : Store} {x : D} {xs : List D} {v : V} (s : RelS K H A S) (hq : seqOf S x xs) (hx : ∀ ys, x ≠ .tup ys) (r : RelD K H A x v) : ∃ a us, v = .ref a ∧ SqL K H a us ∧ RelDs K H A xs us := by
  rcases hq with rfl | rfl | ⟨n, rfl, hn⟩
  · exact absurd rfl (hx _)
  · obtain ⟨a, us, e, h2, h3⟩ := r
    exact ⟨a, us, e, h2.sq, h3⟩
  · obtain ⟨a, e, ha⟩ := r
    obtain ⟨us, h1, h2⟩ := s.get hn ha
    exact ⟨a, us, e, .inl (.inl h1), h2⟩
theorem rul_sorted {K : PySem.W.Frag} : RulC K cSorted (fun xs H Q => rSortedI K xs H Q ∨ rSortedDI xs H Q) := by
  intro H A S ds vs post Q s r hh k
  rcases hh with ⟨x, ns, rfl, hq, hx, h⟩ | ⟨n, kvs, ks, rfl, hn, hks, hl, h⟩
  · obtain ⟨v, rfl, rv⟩ := rels1 r
    obtain ⟨a, us, rfl, hs, w⟩ := seq_list s hq hx rv
    have e := rels_int w
    subst e
    exact .inl ⟨a, ns, rfl, hs, fun ms p h1 h2 hp => fin_list s k hp int_rels (h ms h1 h2)⟩
  · obtain ⟨v, rfl, rv⟩ := rels1 r
    obtain ⟨a, ws, rfl, _, hw, rp⟩ := s.dct hn rv
    exact .inr ⟨a, ws, ks, rfl, .inl hw, by rw [rp.keys]; exact hks, hl, fun ms p h1 h2 hp => fin_list s k hp int_rels (h ms h1 h2)⟩
end DL
namespace DL
open PySem PySem.Spec PyProof.Rows L2
variable [HasT]
/-! ### dict(pairs) -/
def keyToD : Key → D
  | .inl i => .int i
  | .inr x => .str x
def pairD (kv : Key × D) : D := .tup [keyToD kv.1, kv.2]
def mergeD (acc kvs : List (Key × D)) : List (Key × D) := kvs.foldl (fun acc kv => putD acc kv.1 kv.2) acc
def cDict : DC := fun ds S post => ∃ (x : D) (kvs : List (Key × D)), ds = [x] ∧ seqOf S x (kvs.map pairD) ∧ kvs.length ≤ 100000 ∧ post (.lr S.length) (S ++ [.dct (mergeD [] kvs)])
theorem keyToD_rel {K : PySem.W.Frag} {H : Hp} {A : List Addr} {k : Key} {v : V} (r : RelD K H A (keyToD k) v) : v = kV k := by
  cases k <;> exact r
def rDictP (K : PySem.W.Frag) : List V → Hp → VK → Prop := fun xs H Q => ∃ (a : Addr) (ps : List Addr) (kvs : List (Key × V)), xs = [.ref a] ∧ (SqL K H a (ps.map V.ref) ∨ PTup K H a (ps.map V.ref)) ∧ Paired (fun p kv => SqT K H p [kV kv.1, kv.2]) ps kvs ∧
  ∀ p, H p = none → Q (.ref p) (upd H p (.dK (mergeK [] kvs)))
theorem trip_of {X : Cx} {pins : List (Addr × Obj)} {σ : L2.St} {H : Hp} {s : Shared} (I : Inv X pins σ H s) : ∀ {ps : List Addr} {kvs : List (Key × V)}, Paired (fun p kv => SqT X.K H p [kV kv.1, kv.2]) ps kvs →
    ∃ ts : List (Addr × Key × Value × Value), ts.map (·.1) = ps ∧ KV kvs (ts.map fun t => (t.2.1, t.2.2.2)) ∧ ∀ t ∈ ts, IsTup s.heap t.1 #[t.2.2.1, t.2.2.2] ∧ keyIs t.2.1 t.2.2.1 = true
  | _, _, .nil => ⟨[], rfl, .nil, fun t h => nomatch h⟩
  | _, _, .cons (a := p) (b := kv) h t => by
    obtain ⟨ts, e1, e2, e3⟩ := trip_of I t
    obtain ⟨its, rv, ht, _⟩ := I.tuple h
    obtain ⟨u, y, rfl, ru, ry⟩ := vals2 rv
    refine ⟨(p, kv.1, u, y) :: ts, by rw [List.map_cons, e1], .cons ⟨rfl, ry⟩ e2, fun t ht2 => ?_⟩
    rcases List.mem_cons.mp ht2 with rfl | ht2
    · exact ⟨ht, kV_is (P := X.prog) (w := X.w) ru⟩
    · exact e3 t ht2
theorem call_dictA {X : Cx} (hcalm : X.calm = true) : CallR X (.type "dict") (rDictP X.K) := by
  intro pins s σ H xs us Q I r ⟨a, ps, kvs, ex, hq, hp, q⟩
  rcases hq with hq | hq
  · exact call_dictP hcalm pins s σ H xs us Q I r ⟨a, ps, kvs, ex, hq, hp, q⟩
  · subst ex
    obtain ⟨u, rfl, rx⟩ := vals1 r
    obtain rfl : u = Value.ref a := rx
    obtain ⟨its, rv, _, hz⟩ := I.tuple hq.sq
    have ei := refs_at rv
    subst ei
    have pl : PySem.PlainSeq "tuple" s.heap a (ps.map Value.ref).toArray := by
      rcases hq with ⟨o, ho, hd⟩ | ⟨o, itk, n, hl, hc, hd, hs, hz2, hv⟩
      · obtain ⟨e, _, its2, r2, o2, e2, hc, n, hdat⟩ := (show ObjOk X.prog X.w H s.heap a (.frz o (.tup (ps.map V.ref))) from I.hok a _ ho)
        rw [e] at e2
        cases e2
        have ei2 := refs_at r2
        subst ei2
        exact ⟨o, n, e, hc, hd, hdat⟩
      · have e2 := refs_at hv
        exact ⟨o, n, I.kIn a o hl, hc, hd, by rw [hs, ← e2]⟩
    obtain ⟨ts, t1, t2, t3⟩ := trip_of I hp
    have lts : ts.length = ps.length := by rw [← t1, List.length_map]
    have lkv : kvs.length = ts.length := by
      have := Paired.length t2
      rwa [List.length_map] at this
    let pv : List (Value × Value) := ts.map fun t => (t.2.2.1, t.2.2.2)
    have hitems : PySem.PairItems s.heap (ps.map Value.ref).toArray (fun j => (ps[j]?).getD 0) pv := by
      refine ⟨by simp [pv, lts], fun j k v hj => ?_⟩
      have hj' : ∃ t, ts[j]? = some t ∧ (t.2.2.1, t.2.2.2) = (k, v) := by
        rw [List.getElem?_map] at hj
        cases q : ts[j]? with
        | none =>
          rw [q] at hj
          cases hj
        | some t =>
          rw [q] at hj
          exact ⟨t, rfl, Option.some.inj hj⟩
      obtain ⟨t, ht, et⟩ := hj'
      injection et with et1 et2
      have hpj : ps[j]? = some t.1 := by rw [← t1, List.getElem?_map, ht]; rfl
      obtain ⟨h1, _⟩ := t3 t (List.mem_iff_getElem?.mpr ⟨j, ht⟩)
      refine ⟨by simp [hpj], .inl ?_⟩
      show s.heap.IsTuple ((ps[j]?).getD 0) #[k, v]
      rw [hpj, ← et1, ← et2]
      exact h1
    refine PySem.call_dict_pairs (knd := mixKind X.prog X.w) (kvs := ts.map fun t => (t.2.1, t.2.2.2)) (PySem.PairArg.tuple a (ps.map Value.ref).toArray (fun j => (ps[j]?).getD 0) pv) (I.ok.hd hcalm) ⟨pl, hitems⟩ ⟨by simp [pv], fun i key v hrel => ?_⟩ (by
      simp only [pv, List.length_map]
      rw [List.length_map] at hz
      omega) fun h' tk hd' kp => ?_
    · have hj : ∃ t, ts[i]? = some t ∧ (t.2.2.1, t.2.2.2) = (key, v) := by
        have hrel' : pv[i]? = some (key, v) := hrel
        rw [List.getElem?_map] at hrel'
        cases q : ts[i]? with
        | none =>
          rw [q] at hrel'
          cases hrel'
        | some t =>
          rw [q] at hrel'
          exact ⟨t, rfl, Option.some.inj hrel'⟩
      obtain ⟨t, ht, et⟩ := hj
      injection et with et1 et2
      refine ⟨t.2.1, by rw [List.getElem?_map, ht, ← et2]; rfl, ?_⟩
      rw [← et1]
      exact (t3 t (List.mem_iff_getElem?.mpr ⟨i, ht⟩)).2
    · have hm : (s.heap.objs.size == sysModules) = false := beq_eq_false_iff_ne.mpr (Nat.ne_of_gt I.big)
      have hlen : (mergeK [] kvs).length ≤ sizeLine := by
        refine Nat.le_trans (length_mergeK kvs []) ?_
        rw [List.length_nil, Nat.zero_add, lkv, lts]
        rw [List.length_map] at hz
        exact hz
      exact ⟨.ref s.heap.objs.size, upd H s.heap.objs.size (.dK (mergeK [] kvs)), I.laid (t' := tk) (fun b o e => kp b o (fun z => nomatch z) e) (Nat.le_refl _) (show ObjOk X.prog X.w _ _ _ (.dK (mergeK [] kvs)) from ⟨hlen, hm, merged [] (ts.map fun t => (t.2.1, t.2.2.2)), KV.merge t2 .nil, hd'⟩), rfl, q _ (I.hok.fresh (Nat.le_refl _))⟩
theorem rels_pairs {K : PySem.W.Frag} {H : Hp} {A : List Addr} : ∀ {kvs : List (Key × D)} {us : List V}, RelDs K H A (kvs.map pairD) us → ∃ (ps : List Addr) (ws : List (Key × V)), us = ps.map V.ref ∧ Paired (fun p kv => SqT K H p [kV kv.1, kv.2]) ps ws ∧ RelP K H A kvs ws
  | [], _, h => ⟨[], [], h, .nil, .nil⟩
  | (k, d) :: kvs, _, ⟨v, r, rfl, h1, h2⟩ => by
    obtain ⟨ps, ws, rfl, g1, g2⟩ := rels_pairs h2
    obtain ⟨a, vs, rfl, ht, hv⟩ := h1
    obtain ⟨x, y, rfl, r1, r2⟩ := rels2 hv
    have e := keyToD_rel r1
    subst e
    exact ⟨a :: ps, (k, y) :: ws, rfl, .cons ht.sq g1, .cons r2 g2⟩
theorem RelP.merge {K : PySem.W.Frag} {H : Hp} {A : List Addr} {kvs : List (Key × D)} {ws : List (Key × V)} {acc : List (Key × D)} {bcc : List (Key × V)} (h : RelP K H A acc bcc) (t : RelP K H A kvs ws) : RelP K H A (mergeD acc kvs) (mergeK bcc ws) := by
  induction t generalizing acc bcc with
  | nil => exact h
  | @cons k d v ds vs hd t ih => exact ih (h.put k hd)
theorem fin_dct {K : PySem.W.Frag} {H : Hp} {A : List Addr} {S : Store} {post : DK} {Q : VK} {p : Addr} {kvs : List (Key × D)} {ws : List (Key × V)} (s : RelS K H A S) (k : KontE K H A post Q) (hp : H p = none) (r : RelP K H A kvs ws) (h : post (.lr S.length) (S ++ [.dct kvs])) : Q (.ref p) (upd H p (.dK ws)) := by
  have e : Ext H A (upd H p (.dK ws)) (A ++ [p]) := ext_new s hp
  exact k (.ref p) _ (A ++ [p]) (.lr S.length) (S ++ [.dct kvs]) e (s.new (o := .dK ws) (en := .dct kvs) hp ((r.ext e).ent upd_same)) (relD_last s) h
theorem rul_dict {K : PySem.W.Frag} : RulC K cDict (rDictP K) := by
  intro H A S ds vs post Q s r hh k
  obtain ⟨x, kvs, rfl, hq, hl, h⟩ := hh
  obtain ⟨v, rfl, rv⟩ := rels1 r
  have fin : ∀ {a : Addr} {us : List V}, (SqL K H a us ∨ PTup K H a us) → RelDs K H A (kvs.map pairD) us → v = .ref a → rDictP K [v] H Q := fun {a us} hs w e => by
    obtain ⟨ps, ws, rfl, g1, g2⟩ := rels_pairs w
    subst e
    exact ⟨a, ps, ws, rfl, hs, g1, fun p hp => fin_dct s k hp (RelP.merge .nil g2) h⟩
  by_cases ht : ∃ ys, x = .tup ys
  · obtain ⟨ys, rfl⟩ := ht
    have e : ys = kvs.map pairD := by simpa [seqOf] using hq
    subst e
    obtain ⟨a, us, e, hs, w⟩ := rv
    exact fin (.inr hs) w e
  · obtain ⟨a, us, e, hs, w⟩ := seq_list s hq (fun ys z => ht ⟨ys, z⟩) rv
    exact fin (.inl hs) w e
end DL
/-! DY: sorted(d.items()) of ints by ints. -/
namespace DL
open PySem PySem.Spec PyProof.Rows L2
variable [HasT]

/-- new tuples are tracked one behind another -/
theorem track_all {X : Cx} {pins : List (Addr × Obj)} {σ : L2.St} {H0 : Hp} {s0 : Shared} (I0 : Inv X pins σ H0 s0) : ∀ (ts : List (Addr × List Value × List V)) {H : Hp} {s : Shared}, Inv X pins σ H s → (∀ t ∈ ts, s0.heap.objs.size ≤ t.1 ∧ H t.1 = none ∧ s.heap.get? t.1 = some (obT t.2.1) ∧ Vals t.2.2 t.2.1 ∧ t.2.2.length ≤ sizeLine) → (ts.map (·.1)).Nodup →
    ∃ H' : Hp, Inv X pins σ H' s ∧ (∀ b o, H b = some o → H' b = some o) ∧ (∀ b, b ∉ ts.map (·.1) → H' b = H b) ∧ ∀ t ∈ ts, H' t.1 = some (.frz (obT t.2.1) (.tup t.2.2))
  | [], H, s, I, _, _ => ⟨H, I, fun _ _ h => h, fun _ _ => rfl, fun t h => nomatch h⟩
  | (a, us, vs) :: ts, H, s, I, h, hn => by
    obtain ⟨h1, h2, h3, h4, h5⟩ := h _ List.mem_cons_self
    rw [List.map_cons, List.nodup_cons] at hn
    have I1 : Inv X pins σ (upd H a (.frz (obT us) (.tup vs))) s := inv_track I (I0.fpOk h1 h2) ⟨h3, h5, us, h4, ⟨_, h3, rfl, _, rfl⟩⟩
    obtain ⟨H', I', k1, k2, k3⟩ := track_all I0 ts I1 (fun t ht => by
      obtain ⟨g1, g2, g3, g4, g5⟩ := h t (List.mem_cons_of_mem _ ht)
      refine ⟨g1, ?_, g3, g4, g5⟩
      rw [upd_ne (fun z => hn.1 (by rw [← z]; exact List.mem_map.mpr ⟨t, ht, rfl⟩))]
      exact g2) hn.2
    refine ⟨H', I', fun b o q => k1 b o ?_, fun b hb => ?_, fun t ht => ?_⟩
    · rw [upd_ne (ne_of_none q h2)]
      exact q
    · rw [List.map_cons, List.mem_cons, not_or] at hb
      rw [k2 b hb.2, upd_ne hb.1]
    · rcases List.mem_cons.mp ht with rfl | ht
      · exact k1 _ _ upd_same
      · exact k3 t ht
open Classical in
/-- the two ints of a pair -/
noncomputable def pairAt (h : Heap) (v : Value) : Int × Int := if x : ∃ p : Int × Int, Srt.IsPair h v p.1 p.2 then x.choose else (0, 0)
theorem pairAt_ok {h : Heap} {v : Value} {i j : Int} (p : Srt.IsPair h v i j) : Srt.IsPair h v (pairAt h v).1 (pairAt h v).2 := by
  unfold pairAt
  have x : ∃ p : Int × Int, Srt.IsPair h v p.1 p.2 := ⟨(i, j), p⟩
  rw [dif_pos x]
  exact x.choose_spec
theorem pair_uniq {h : Heap} {v : Value} {i j i' j' : Int} (p : Srt.IsPair h v i j) (q : Srt.IsPair h v i' j') : i = i' ∧ j = j' := by
  obtain ⟨a, o, t, u, n, e, ho, hc, hd⟩ := p
  obtain ⟨a', o', t', u', n', e', ho', hc', hd'⟩ := q
  subst e
  cases e'
  rw [ho] at ho'
  cases ho'
  rw [hd] at hd'
  cases hd'
  exact ⟨rfl, rfl⟩
section
variable {prog : Program} {w : World} {A : Around} {E : Value → Shared → Prop} {s : Shared} {r d : Addr} {ep : Nat} {kvs : List (Key × Value)}
/-- sorted(view): a new list of new pairs -/
theorem sorted_items {Q : Value → Shared → Prop} (hh : A.handled = none) (hv : s.heap.IsItemsView r d) (hm : s.heap.DictAt (mixKind prog w) d kvs ep) (hn : kvs.length ≤ sizeLine)
    (hi : ∀ (h' : Heap) (key : Value) (k : Key) (x : Value), (k, x) ∈ kvs → keyIs k key = true → ∃ i t j u, key = .int i t ∧ x = .int j u)
    (hQ : ∀ (h' : Heap) (tk : Nat) (as : List Addr) (l : Addr) (out : List Value) (n : Nat), (∀ b o, s.heap.get? b = some o → h'.get? b = some o) → as.length = kvs.length → PySem.W.KdxG (mixKind prog w) kvs s.heap.objs.size h' as → s.heap.get? l = none → l ∉ as → h'.get? l = some (seqObj "list" out.toArray n) →
      out.Perm (as.map Value.ref) → out.Pairwise (fun v u => SrtO.lexB (pairAt h' u) (pairAt h' v) = false) → Q (.ref l) { s with heap := h', toks := tk }) :
    wpAny (model prog w) A (call (.builtin "sorted") [.ref r]) Q E s := by
  refine Calls.call_function_entry kind_sorted plain_sorted entry_sorted (args_sorted1 _) ?_
  unfold Builtin.«sorted»
  refine wpAny_bind (m := checkCount "sorted" 1 1 _) (wpAny_pure ?_)
  refine wpAny_bind (PySem.W.kdx_collect (A := A.in1) hh hv hm hn fun h1 tk as hk hl hG => ?_)
  have hz : (as.map Value.ref).length ≤ sizeLine := by
    rw [List.length_map, hl]
    exact hn
  refine wpAny_bind (wpAny_newList ?_ hz)
  show wpAny _ _ _ _ _ { s with heap := h1.push (seqObj "list" (as.map Value.ref).toArray 0), toks := tk }
  have hoL : (h1.push (seqObj "list" (as.map Value.ref).toArray 0)).get? h1.objs.size = some (seqObj "list" (as.map Value.ref).toArray 0) := Heap.get?_push_size _ rfl
  have pr : ∀ v ∈ as.map Value.ref, ∃ i j, Srt.IsPair h1 v i j := fun v hm' => by
    obtain ⟨a, ha, rfl⟩ := List.mem_map.mp hm'
    obtain ⟨j, hj⟩ := List.mem_iff_getElem?.mp ha
    obtain ⟨key, k, x, e1, e2, e3⟩ := hG.pairs j a hj
    obtain ⟨i, t, m, u, rfl, rfl⟩ := hi h1 key k x (List.mem_iff_getElem?.mpr ⟨j, e1⟩) e2
    exact ⟨i, m, a, _, t, u, 0, rfl, e3, rfl, rfl⟩
  have pk : ∀ v ∈ as.map Value.ref, Srt.IsPair (h1.push (seqObj "list" (as.map Value.ref).toArray 0)) v (pairAt h1 v).1 (pairAt h1 v).2 := fun v hm' => by
    obtain ⟨i, j, p⟩ := pr v hm'
    exact (pairAt_ok p).keeps fun b o e _ => Heap.get?_push_of_some _ e
  have lt1 : ∀ a ∈ as, a < h1.objs.size := fun a ha => hG.there ha
  have old : ∀ b o, h1.get? b = some o → ∀ out : Array Value, (sortedHeap (h1.push (seqObj "list" (as.map Value.ref).toArray 0)) h1.objs.size (as.map Value.ref) out).get? b = some o := fun b o e out => by
    have hb : b ≠ h1.objs.size := Nat.ne_of_lt (Heap.lt_size e)
    unfold sortedHeap
    rw [Heap.get?_update_ne _ _ _ _ hb]
    exact Heap.get?_push_of_some _ (Heap.get?_push_of_some _ ((Heap.get?_update_ne _ _ _ _ hb).trans (Heap.get?_push_of_some _ e)))
  refine wpAny_bind (wpAny_holding (wpAny_call_entry slot_list_sort ⟨_, hoL, rfl⟩ entry_list_sort (SrtO.list_sort_ord (SrtO.swo_lex (pairAt h1)) hoL hz (fun h2 => SrtO.pairs_sortableO (by omega) pk fun o e => ?_) fun out hs hb => ⟨_, rfl, ?_⟩) (args_list_sort _)))
  · rw [hoL] at e
    cases e
    intro c
    exact absurd (Value.type.inj c) (by decide)
  · obtain ⟨n, hnn⟩ : ∃ n, (sortedHeap (h1.push (seqObj "list" (as.map Value.ref).toArray 0)) h1.objs.size (as.map Value.ref) out.toArray).get? h1.objs.size = some (seqObj "list" out.toArray n) := by
      unfold sortedHeap
      have h0 := get?_update_seq hoL fun _ => #[]
      exact ⟨_, get?_update_seq (Heap.get?_push_of_some _ (Heap.get?_push_of_some _ h0)) fun _ => out.toArray⟩
    have lnone : s.heap.get? h1.objs.size = none := by
      cases q : s.heap.get? h1.objs.size with
      | none => rfl
      | some o => exact absurd (Heap.lt_size (hk _ _ q)) (Nat.lt_irrefl _)
    refine wpAny_pure ⟨_, rfl, hQ _ tk as h1.objs.size out n (fun b o e => old b o (hk b o e) _) hl ⟨hG.rise, hG.above, fun j a hj => ?_⟩ lnone (fun hm' => Nat.lt_irrefl _ (lt1 _ hm')) hnn hb.perm ?_⟩
    · obtain ⟨key, k, x, e1, e2, e3⟩ := hG.pairs j a hj
      exact ⟨key, k, x, e1, e2, old _ _ e3 _⟩
    · have same : ∀ v ∈ as.map Value.ref, pairAt (sortedHeap (h1.push (seqObj "list" (as.map Value.ref).toArray 0)) h1.objs.size (as.map Value.ref) out.toArray) v = pairAt h1 v := fun v hm' => by
        obtain ⟨i, j, p⟩ := pr v hm'
        have p2 : Srt.IsPair (sortedHeap (h1.push (seqObj "list" (as.map Value.ref).toArray 0)) h1.objs.size (as.map Value.ref) out.toArray) v i j := p.keeps fun b o e _ => old b o e _
        obtain ⟨a1, a2⟩ := pair_uniq (pairAt_ok p2) p2
        obtain ⟨b1, b2⟩ := pair_uniq (pairAt_ok p) p
        exact Prod.ext (a1.trans b1.symm) (a2.trans b2.symm)
      refine List.Pairwise.imp_of_mem (fun {v u} hv' hu' hvu => ?_) hs
      rw [same v (hb.perm.mem_iff.mp hv'), same u (hb.perm.mem_iff.mp hu')]
      exact hvu
end
/-- sorted(e.items()): ints by ints, the keys each once -/
def rSortedItems : V → Hp → VK → Prop := fun x H Q => ∃ (d : Addr) (es : List (Int × Int)), x = .ref d ∧ H d = some (.dK (es.map fun p => (Sum.inl p.1, V.int p.2))) ∧
  ∀ (H' : Hp) (l : Addr) (ts : List Addr) (ms : List (Int × Int)), (∀ b o, H b = some o → H' b = some o) → H l = none → H' l = some (.lst (ts.map V.ref)) → ms.Perm es → ms.Pairwise (fun p q => p.1 ≤ q.1) →
    Paired (fun (t : Addr) (p : Int × Int) => ∃ o : Obj, o.dict = none ∧ H' t = some (.frz o (.tup [.int p.1, .int p.2]))) ts ms → Q (.ref l) H'
theorem int_of_kv : ∀ {es : List (Int × Int)} {vs : List (Key × Value)}, KV (es.map fun p => (Sum.inl p.1, V.int p.2)) vs → vs.length = es.length ∧ (∀ k x, (k, x) ∈ vs → ∃ i j u, k = Sum.inl i ∧ x = Value.int j u) ∧ ∀ (j : Nat) (k : Key) (x : Value), vs[j]? = some (k, x) → ∃ p u, es[j]? = some p ∧ k = Sum.inl p.1 ∧ x = Value.int p.2 u
  | [], _, .nil => ⟨rfl, (fun _ _ h => by cases h), (fun j k x h => by simp at h)⟩
  | p :: es, (k, x) :: vs, .cons ⟨e, r⟩ t => by
    obtain ⟨h1, h2, h3⟩ := int_of_kv t
    have e' : Sum.inl p.1 = k := e
    obtain ⟨u, hx⟩ := (show RelV (.int p.2) x from r)
    subst e' hx
    refine ⟨by rw [List.length_cons, List.length_cons, h1], fun k x h => ?_, fun j k x h => ?_⟩
    · rcases List.mem_cons.mp h with q | q
      · cases q
        exact ⟨_, _, _, rfl, rfl⟩
      · exact h2 k x q
    · cases j with
      | zero =>
        simp at h
        obtain ⟨rfl, rfl⟩ := h
        exact ⟨p, u, rfl, rfl, rfl⟩
      | succ j => exact h3 j k x (by simpa using h)
theorem key_int {i : Int} {key : Value} (h : keyIs (Sum.inl i) key = true) : ∃ t, key = .int i t := by
  have r := relV_key h
  exact r
theorem perm_refs {as : List Addr} : ∀ {out : List Value}, (∀ v ∈ out, ∃ a ∈ as, v = Value.ref a) → ∃ ts : List Addr, out = ts.map Value.ref
  | [], _ => ⟨[], rfl⟩
  | v :: out, h => by
    obtain ⟨a, _, rfl⟩ := h v List.mem_cons_self
    obtain ⟨ts, rfl⟩ := perm_refs (as := as) (out := out) fun u hu => h u (List.mem_cons_of_mem _ hu)
    exact ⟨a :: ts, rfl⟩
theorem refs_inj {as bs : List Addr} (h : (as.map Value.ref).Perm (bs.map Value.ref)) : as.Perm bs := by
  have e : ∀ cs : List Addr, (cs.map Value.ref).map (fun v => match v with | .ref a => a | _ => 0) = cs := fun cs => by
    rw [List.map_map]
    exact List.map_id' cs
  have p := h.map (fun v => match v with | .ref a => a | _ => 0)
  rwa [e, e] at p
theorem build_pairs {h : Heap} : ∀ {as : List Addr} {es : List (Int × Int)}, as.length = es.length → (∀ (j : Nat) (a : Addr) (p : Int × Int), as[j]? = some a → es[j]? = some p → ∃ us, h.get? a = some (obT us) ∧ Vals [V.int p.1, V.int p.2] us) →
    ∃ tl : List (Addr × List Value × List V), tl.map (·.1) = as ∧ (∀ t ∈ tl, h.get? t.1 = some (obT t.2.1) ∧ Vals t.2.2 t.2.1 ∧ t.2.2.length = 2) ∧ ∀ (j : Nat) (a : Addr) (p : Int × Int), as[j]? = some a → es[j]? = some p → ∃ us, (a, us, [V.int p.1, V.int p.2]) ∈ tl
  | [], [], _, _ => ⟨[], rfl, (fun _ h => by cases h), (fun j a p h => by simp at h)⟩
  | [], _ :: _, hl, _ => by cases hl
  | _ :: _, [], hl, _ => by cases hl
  | a :: as, p :: es, hl, hh => by
    obtain ⟨tl, t1, t2, t3⟩ := build_pairs (as := as) (es := es) (Nat.succ.inj hl) fun j a p h1 h2 => hh (j + 1) a p (by simpa using h1) (by simpa using h2)
    obtain ⟨us, u1, u2⟩ := hh 0 a p rfl rfl
    refine ⟨(a, us, [V.int p.1, V.int p.2]) :: tl, by rw [List.map_cons, t1], fun t ht => ?_, fun j b q h1 h2 => ?_⟩
    · rcases List.mem_cons.mp ht with rfl | ht
      · exact ⟨u1, u2, rfl⟩
      · exact t2 t ht
    · cases j with
      | zero =>
        simp at h1 h2
        subst h1 h2
        exact ⟨us, List.mem_cons_self⟩
      | succ j =>
        obtain ⟨us', hm⟩ := t3 j b q (by simpa using h1) (by simpa using h2)
        exact ⟨us', List.mem_cons_of_mem _ hm⟩
theorem paired_self {α β : Type} {F : α → β → Prop} (f : α → β) : ∀ {l : List α}, (∀ a ∈ l, F a (f a)) → Paired F l (l.map f)
  | [], _ => .nil
  | a :: l, h => .cons (h a List.mem_cons_self) (paired_self f fun b hb => h b (List.mem_cons_of_mem _ hb))
section
variable {X : Cx} {e : Expr} {te : TE} {p apos cpos pos : Pos}
theorem pe_sortedItems (hc : X.calm = true) (he : PE X e te) (hg : Gl X "sorted") (hm : X.mg "sorted" = none) (hbase : attributeBase e "items" X.env (eval e X.env) = eval e X.env := by rfl) (hline : (apos.endLine == cpos.line) = true := by rfl)
    (hs : starEach [.Call (.Attribute e "items" apos) [] [] cpos] X.env = (false, eval (.Call (.Attribute e "items" apos) [] [] cpos) X.env) :: starEach [] X.env := by rfl) :
    PE X (.Call (.Name "sorted" p) [.Call (.Attribute e "items" apos) [] [] cpos] [] pos) (fun σ H Q => te σ H fun x H1 => rSortedItems x H1 Q) := by
  refine ⟨fun pins s σ H Q I hq => ?_⟩
  refine wpAny_Call_Name_kw (ld_blt I hg hm PyProof.Rows.boot_sorted ?_)
  refine PyProof.Rows.callWith_builtin1 ?_ hs rfl
  rw [hs]
  refine Calls.spliced_cons ?_
  refine wpAny_Call_method (T := "dict") (id := "dict.items") hbase rfl hline PySem.F.plainAttrs_dict PySem.F.slot_dict_items PySem.F.type_dict_items (thn (he.run pins s σ H _ I hq) fun u s1 ⟨x, H1, I1, rx, d, es, ex, hd, q⟩ => ?_)
  subst ex
  obtain rfl : u = Value.ref d := rx
  obtain ⟨hz, hs0, vs, kv, hdo⟩ := I1.hok d _ hd
  obtain ⟨ep, hat⟩ := hdo.dictAt
  obtain ⟨lk, hint, at_⟩ := int_of_kv kv
  rw [List.length_map] at hz
  have I2 : Inv X pins σ H1 { s1 with heap := s1.heap.push { cls := .type "dict_items", data := .fields #[.ref d] } } := I1.kept (t' := s1.toks) fun b ob q => Heap.get?_push_of_some _ q
  refine ⟨hdo.typeIs, hdo.mapOf.noDict, ?_⟩
  show wpAny _ _ (callWith cpos (.builtin "dict.items") [.ref d] [] []) _ X.xe s1
  refine method_meetsIn PySem.F.slot_dict_items PySem.F.entry_dict_items rfl (PySem.evalArgs_none ⟨rfl, hdo.typeIs, PySem.F.args_dict_items_1 _, _, meets_dict_items (mixKind X.prog X.w) d hs0, ⟨vs, hdo⟩, ?_⟩)
  refine Calls.spliced_nil ?_
  refine sorted_items (kvs := vs) (ep := ep) (I1.ok.hd hc) ⟨_, Heap.get?_push_size _ rfl, rfl, rfl⟩ (hat.push _) (by omega) (fun h' key k x hkx hk => ?_) fun h' tk as l out n hk hl hG hln hlas hS hp hw => ?_
  · obtain ⟨i, j, u, rfl, rfl⟩ := hint k x hkx
    obtain ⟨t, rfl⟩ := key_int hk
    exact ⟨i, t, j, u, rfl, rfl⟩
  · have hk1 : ∀ b o, s1.heap.get? b = some o → h'.get? b = some o := fun b o e => hk b o (Heap.get?_push_of_some _ e)
    have hlk : s1.heap.get? l = none := by
      cases z : s1.heap.get? l with
      | none => rfl
      | some o =>
        rw [Heap.get?_push_of_some _ z] at hln
        cases hln
    have hln1 : H1 l = none := HOk.gone I1.hok hlk
    have las : as.length = es.length := by omega
    have facts : ∀ (j : Nat) (a : Addr) (p : Int × Int), as[j]? = some a → es[j]? = some p → ∃ us, h'.get? a = some (obT us) ∧ Vals [V.int p.1, V.int p.2] us := fun j a p h1 h2 => by
      obtain ⟨key, k, x, e1, e2, e3⟩ := hG.pairs j a h1
      obtain ⟨p', u, g1, rfl, rfl⟩ := at_ j k x e1
      rw [h2] at g1
      cases g1
      obtain ⟨t, rfl⟩ := key_int e2
      exact ⟨[.int p.1 t, .int p.2 u], e3, .cons ⟨t, rfl⟩ (.cons ⟨u, rfl⟩ .nil)⟩
    obtain ⟨tl, t1, t2, t3⟩ := build_pairs las facts
    obtain ⟨ts, rfl⟩ := perm_refs (as := as) (out := out) fun v hv => by
      obtain ⟨a, ha, e⟩ := List.mem_map.mp (hp.mem_iff.mp hv)
      exact ⟨a, ha, e.symm⟩
    have pts : ts.Perm as := refs_inj hp
    have hzl : (ts.map V.ref).length ≤ sizeLine := by
      rw [List.length_map, pts.length_eq, las]
      exact hz
    have I3 : Inv X pins σ (upd H1 l (.lst (ts.map V.ref))) { s1 with heap := h', toks := tk } := Inv.laidN I1 hk1 hlk hln1 ⟨hzl, ts.map Value.ref, n, LiI.vals_refs ts, hS⟩
    have nd : as.Nodup := List.Pairwise.imp (fun {a b} (h : a < b) => Nat.ne_of_lt h) hG.rise
    obtain ⟨H', I4, k1, k2, k3⟩ := track_all I1 tl I3 (fun t ht => by
      have hta : t.1 ∈ as := by rw [← t1]; exact List.mem_map.mpr ⟨t, ht, rfl⟩
      obtain ⟨g1, g2, g3⟩ := t2 t ht
      have hge : s1.heap.objs.size ≤ t.1 := by
        have := hG.above t.1 hta
        have z : (s1.heap.push { cls := .type "dict_items", data := .fields #[.ref d] }).objs.size = s1.heap.objs.size + 1 := Heap.size_push ..
        have this' : (s1.heap.push { cls := .type "dict_items", data := .fields #[.ref d] }).objs.size < t.1 := this
        rw [z] at this'
        exact Nat.le_of_lt (Nat.lt_of_succ_lt this')
      refine ⟨hge, ?_, g1, g2, by rw [g3]; decide⟩
      rw [upd_ne (fun z => hlas (by rw [← z]; exact hta))]
      exact I1.hok.fresh hge) (by rw [t1]; exact nd)
    let f : Addr → Int × Int := fun a => pairAt h' (.ref a)
    have ispair : ∀ (j : Nat) (a : Addr) (p : Int × Int), as[j]? = some a → es[j]? = some p → f a = p := fun j a p h1 h2 => by
      obtain ⟨us, u1, u2⟩ := facts j a p h1 h2
      obtain ⟨v1, v2, rfl, r1, r2⟩ := vals2 u2
      obtain ⟨t, rfl⟩ := r1
      obtain ⟨u, rfl⟩ := r2
      have ip : Srt.IsPair h' (.ref a) p.1 p.2 := ⟨a, _, t, u, 0, rfl, u1, rfl, rfl⟩
      obtain ⟨a1, a2⟩ := pair_uniq (pairAt_ok ip) ip
      exact Prod.ext a1 a2
    have fas : as.map f = es := by
      refine List.ext_getElem? fun j => ?_
      rw [List.getElem?_map]
      cases h1 : as[j]? with
      | none =>
        rw [List.getElem?_eq_none (by rw [← las]; exact List.getElem?_eq_none_iff.mp h1)]
        rfl
      | some a =>
        have hj := (List.getElem?_eq_some_iff.mp h1).1
        have h2 : es[j]? = some es[j] := List.getElem?_eq_getElem (by omega)
        rw [h2, Option.map_some, ispair j a _ h1 h2]
    refine ⟨.ref l, H', I4, rfl, q H' l ts (ts.map f) (fun b o e => k1 b o (by rw [upd_ne (ne_of_none e hln1)]; exact e)) hln1 (k1 _ _ upd_same) (by rw [← fas]; exact pts.map f) ?_ (paired_self f fun t ht => ?_)⟩
    · rw [List.pairwise_map] at hw ⊢
      refine hw.imp fun {a b} h => ?_
      have := SrtO.lexB_no.mp h
      show (pairAt h' (.ref a)).1 ≤ (pairAt h' (.ref b)).1
      omega
    · have hta := pts.mem_iff.mp ht
      obtain ⟨j, hj⟩ := List.mem_iff_getElem?.mp hta
      have hjl := (List.getElem?_eq_some_iff.mp hj).1
      have h2 : es[j]? = some es[j] := List.getElem?_eq_getElem (by omega)
      obtain ⟨us, hm⟩ := t3 j t _ hj h2
      rw [ispair j t _ hj h2]
      exact ⟨obT us, rfl, k3 _ hm⟩
end
/-! ### over data -/
def cItems (x : D) (S : Store) (post : DK) : Prop := ∃ (n : Nat) (es : List (Int × Int)), x = .lr n ∧ S[n]? = some (.dct (es.map fun p => (Sum.inl p.1, .int p.2))) ∧ ∀ ms : List (Int × Int), ms.Perm es → ms.Pairwise (fun p q => p.1 ≤ q.1) → post (.lr S.length) (S ++ [.lst (ms.map fun p => .tup [.int p.1, .int p.2])])
def dSItems (te : DE) : DE := fun ρ S post => te ρ S fun x S1 => cItems x S1 post
theorem pairs_rel {K : PySem.W.Frag} {H : Hp} {A : List Addr} : ∀ {ts : List Addr} {ms : List (Int × Int)}, Paired (fun (t : Addr) (p : Int × Int) => ∃ o : Obj, o.dict = none ∧ H t = some (.frz o (.tup [.int p.1, .int p.2]))) ts ms → RelDs K H A (ms.map fun p => .tup [.int p.1, .int p.2]) (ts.map V.ref)
  | _, _, .nil => rfl
  | _, _, .cons (a := t) (b := p) ⟨o, h1, h2⟩ r => ⟨.ref t, _, rfl, ⟨t, [.int p.1, .int p.2], rfl, .inl ⟨o, h2, h1⟩, ⟨_, _, rfl, rfl, ⟨_, _, rfl, rfl, rfl⟩⟩⟩, pairs_rel r⟩
theorem relP_ints {K : PySem.W.Frag} {H : Hp} {A : List Addr} : ∀ {es : List (Int × Int)} {ws : List (Key × V)}, RelP K H A (es.map fun p => (Sum.inl p.1, D.int p.2)) ws → ws = es.map fun p => (Sum.inl p.1, V.int p.2)
  | [], _, h => by
    rw [List.map_nil] at h
    cases h
    rfl
  | p :: es, _, h => by
    rw [List.map_cons] at h
    cases h with
    | cons hd t =>
      rw [relP_ints t, show _ = V.int p.2 from hd]
      rfl
theorem de_sortedItems {X : Cx} {e : Expr} {te : DE} {p apos cpos pos : Pos} (hc : X.calm = true) (he : PE X e (liftE X.K te)) (hg : Gl X "sorted") (hm : X.mg "sorted" = none) (hbase : attributeBase e "items" X.env (eval e X.env) = eval e X.env := by rfl) (hline : (apos.endLine == cpos.line) = true := by rfl)
    (hs : starEach [.Call (.Attribute e "items" apos) [] [] cpos] X.env = (false, eval (.Call (.Attribute e "items" apos) [] [] cpos) X.env) :: starEach [] X.env := by rfl) :
    PE X (.Call (.Name "sorted" p) [.Call (.Attribute e "items" apos) [] [] cpos] [] pos) (liftE X.K (dSItems te)) := by
  refine pe_mono (pe_sortedItems hc he hg hm hbase hline hs) ?_
  rintro σ H Q ⟨A, ρ, S, post, n, s, h, k⟩
  refine ⟨A, ρ, S, _, n, s, h, fun v1 H1 A1 d1 S1 e1 s1 r1 ⟨m, es, eq, hm, hp⟩ => ?_⟩
  subst eq
  obtain ⟨a, ws, rfl, ha, hw, rp⟩ := s1.dct hm r1
  have ew := relP_ints rp
  subst ew
  refine ⟨a, es, rfl, hw, fun H' l ts ms keep hl hL pm sd pr => ?_⟩
  have e2 : Ext H1 A1 H' A1 := Ext.same keep
  have e3 : Ext H1 A1 H' (A1 ++ [l]) := ⟨⟨[l], rfl, fun b hb => by rw [List.mem_singleton.mp hb]; exact .of hl⟩, fun b o q => .inl (keep b o q)⟩
  refine k (.ref l) H' (A1 ++ [l]) (.lr S1.length) (S1 ++ [.lst (ms.map fun p => .tup [.int p.1, .int p.2])]) (e1.trans e3) ((s1.same keep).push (en := .lst _) (s1.notin hl) ⟨ts.map V.ref, hL, pairs_rel pr⟩) ⟨l, rfl, ?_⟩ (hp ms pm sd)
  rw [s1.len, List.getElem?_append_right (Nat.le_refl _), Nat.sub_self]
  rfl
end DL
/-! ZI: tuple(enumerate(xs)). -/
namespace DL
open PySem
variable [HasT]
open Sem (wp)

theorem get_snoc' {α : Type} {xs : List α} {a b : α} {i : Nat} (h : (xs ++ [a])[i]? = some b) : (i < xs.length ∧ xs[i]? = some b) ∨ (i = xs.length ∧ a = b) := by
  by_cases hi : i < xs.length
  · rw [List.getElem?_append_left hi] at h
    exact .inl ⟨hi, h⟩
  · rw [List.getElem?_append_right (by omega)] at h
    have h0 : i - xs.length = 0 := by
      have := (List.getElem?_eq_some_iff.mp h).1
      simp at this
      exact this
    rw [h0] at h
    simp at h
    exact .inr ⟨by omega, h⟩
abbrev ERec (h : Heap) (e it : Addr) (c : Int) (f0 : Value) (f1 : Bool) (old : Value) : Prop :=
  h.get? e = some { cls := .type "enumerate", dict := none, data := .fields #[f0, .bool f1, .ref it, rawInt c, .none, old], slots := #[] }
section
variable {prog : Program} {w : World} {A : Around} {E : Value → Shared → Prop} {s : Shared} {e it : Addr} {fp : List Addr} {n i : Nat} {P : Nat → Value → Prop} {St : Nat → Heap → Prop} {f0 : Value} {f1 : Bool} {c : Int} {old : Value}
theorem efree {Q : Bool → Shared → Prop} (hz : ERec s.heap e it c f0 f1 old) (hf : ZF f0) (h1 : Q true s) (h2 : ∀ h', ERec h' e it c f0 true old → Heap.SameBut e s.heap h' → Q false { s with heap := h' }) :
    wpAny (model prog w) A (Builtin.SmallTypes.ownedTupleIsFree (.ref e)) Q E s := by
  unfold Builtin.SmallTypes.ownedTupleIsFree
  rcases hf with rfl | ⟨T, rfl⟩
  · exact wpAny_bind (wpAny_field hz rfl (x := .none) rfl (wpAny_pure h1))
  · refine wpAny_bind (wpAny_field hz rfl (x := rawInt T) rfl ?_)
    show wpAny _ _ (loadIfAlive ((T : Int).toNat) >>= _) _ _ _
    have la : ∀ (a : Addr) (Q : Option Obj → Shared → Prop), Q (s.heap.get? a) s → wpAny (model prog w) A (loadIfAlive a) Q E s := fun a Q q _ _ _ => q
    refine wpAny_bind (la _ _ ?_)
    cases hq : s.heap.get? ((T : Int).toNat) with
    | none =>
      simp only [Option.isNone_none, if_true]
      exact wpAny_pure h1
    | some o =>
      simp only [Option.isNone_some, Bool.false_eq_true, if_false]
      refine wpAny_bind (wpAny_field hz rfl (x := .bool f1) rfl ?_)
      cases f1 with
      | true =>
        rw [if_neg (by decide)]
        exact wpAny_pure (h2 s.heap hz (Heap.SameBut.refl _ _))
      | false =>
        rw [if_pos (by decide)]
        exact wpAny_bind (wpAny_setField_rec hz (by simp) fun g' zg' sg' => wpAny_pure (h2 g' zg' sg'))
theorem enx {Q : Value → Shared → Prop} (D : Draws prog w A it fp n P St) (he : ERec s.heap e it c f0 f1 old) (hf : ZF f0) (hst : St i s.heap) (hlt : i < n) (hne : e ≠ it) (hef : e ∉ fp)
    (hQ : ∀ x h' tk t g0 g1 y, P i x → ZF g0 → ERec h' e it (c + 1) g0 g1 y → St (i + 1) h' → IsTupOf2 h' s.heap.objs.size (.int c t) x → h'.objs.size = s.heap.objs.size + 1 →
      (∀ b o, b ≠ e → b ≠ it → s.heap.get? b = some o → h'.get? b = some o) → Q (.ref s.heap.objs.size) { s with heap := h', toks := tk }) :
    wpAny (model prog w) A (Builtin.«enumerate.__next__» ⟨[.ref e], []⟩) (fun fin s' => ∃ v, fin = .done (.ret v) ∧ Q v s') E s := by
  obtain ⟨hp, gs, dr, tk0, os⟩ := s
  show wpAny _ _ (field (.ref e) 2 >>= _) _ _ _
  refine wpAny_bind (wpAny_field he rfl (x := .ref it) rfl ?_)
  refine wpAny_bind (D.item i _ _ _ hlt hst fun x ha tka hPx sta sa => ?_)
  replace sa : Heap.SameBut it hp ha := sa
  have ea : ERec ha e it c f0 f1 old := (sa.2 e hne).trans he
  show wpAny _ _ (field (.ref e) 3 >>= _) _ _ ⟨ha, gs, dr, tka, os⟩
  refine wpAny_bind (wpAny_field ea rfl (x := rawInt c) rfl ?_)
  show wpAny _ _ (field (.ref e) 4 >>= _) _ _ ⟨ha, gs, dr, tka, os⟩
  refine wpAny_bind (wpAny_field ea rfl (x := .none) rfl ?_)
  show wpAny _ _ (mkInt c >>= _) _ _ ⟨ha, gs, dr, tka, os⟩
  refine wpAny_bind (wpAny_mkInt ?_)
  show wpAny _ _ (setField (.ref e) 3 (rawInt (c + 1)) >>= _) _ _ ⟨ha, gs, dr, tka + 1, os⟩
  refine wpAny_bind (wpAny_setField_rec ea (by simp) fun hb eb sb => ?_)
  replace sb : Heap.SameBut e ha hb := sb
  replace eb : ERec hb e it (c + 1) f0 f1 old := eb
  show wpAny _ _ (setField (.ref e) 4 .none >>= _) _ _ ⟨hb, gs, dr, tka + 1, os⟩
  refine wpAny_bind (wpAny_setField_rec eb (by simp) fun hc ec sc => ?_)
  replace sc : Heap.SameBut e hb hc := sc
  replace ec : ERec hc e it (c + 1) f0 f1 old := ec
  show wpAny _ _ (newTuple [.int c tka, x] >>= _) _ _ ⟨hc, gs, dr, tka + 1, os⟩
  refine wpAny_bind (wpAny_newTuple ?_)
  have szc : hc.objs.size = hp.objs.size := by rw [sc.1, sb.1, sa.1]
  have elt : e < hp.objs.size := Heap.lt_size he
  have ed : ERec (hc.push { cls := .type "tuple", data := .seq #[.int c tka, x] }) e it (c + 1) f0 f1 old := Heap.get?_push_of_some _ ec
  have td : IsTupOf2 (hc.push { cls := .type "tuple", data := .seq #[.int c tka, x] }) hp.objs.size (.int c tka) x := by
    rw [← szc]
    exact Heap.get?_push_size _ rfl
  have kd : ∀ b o, b ≠ e → b ≠ it → hp.get? b = some o → (hc.push { cls := .type "tuple", data := .seq #[.int c tka, x] }).get? b = some o := fun b o q q2 y => Heap.get?_push_of_some _ (sc.extBut _ _ q (sb.extBut _ _ q (sa.extBut _ _ q2 y)))
  have sd : St (i + 1) (hc.push { cls := .type "tuple", data := .seq #[.int c tka, x] }) := D.frame _ _ _ sta fun b hb o y => by
    have hbe : b ≠ e := fun q => hef (q ▸ hb)
    exact Heap.get?_push_of_some _ (sc.extBut _ _ hbe (sb.extBut _ _ hbe y))
  have szd : (hc.push { cls := .type "tuple", data := .seq #[.int c tka, x] }).objs.size = hp.objs.size + 1 := by rw [Heap.size_push, szc]
  generalize hhd : hc.push { cls := .type "tuple", data := .seq #[.int c tka, x] } = hd at ed td kd sd szd
  rw [szc]
  have fin : ∀ (h' : Heap) (g0 : Value) (g1 : Bool) (y : Value), ZF g0 → ERec h' e it (c + 1) g0 g1 y → Heap.SameBut e hd h' → Q (.ref hp.objs.size) ⟨h', gs, dr, tka + 1, os⟩ := fun h' g0 g1 y zg eg sg =>
    hQ x h' (tka + 1) tka g0 g1 y hPx zg eg (D.frame _ _ _ sd fun b hb o z => sg.extBut _ _ (fun q => hef (q ▸ hb)) z) (sg.extBut _ _ (Nat.ne_of_gt elt) td) (by rw [sg.1, szd]) fun b o q q2 z => sg.extBut _ _ q (kd b o q q2 z)
  show wpAny _ _ (Builtin.SmallTypes.ownedTupleIsFree (.ref e) >>= _) _ _ ⟨hd, gs, dr, tka + 1, os⟩
  refine wpAny_bind (efree (s := ⟨hd, gs, dr, tka + 1, os⟩) ed hf ?_ fun h' eh sh => ?_)
  · simp only [if_true]
    refine wpAny_bind (wpAny_rule (wpAny_bind (wpAny_field ed rfl (x := old) rfl ?_)))
    refine wpAny_bind (wpAny_setField_rec ed (by simp) fun hf' ef' sf' => ?_)
    replace sf' : Heap.SameBut e hd hf' := sf'
    replace ef' : ERec hf' e it (c + 1) f0 f1 x := ef'
    show wpAny _ _ (Builtin.SmallTypes.ownedTupleHandOut (.ref e) (.ref hp.objs.size) >>= _) _ _ ⟨hf', gs, dr, tka + 1, os⟩
    refine wpAny_bind ?_
    unfold Builtin.SmallTypes.ownedTupleHandOut
    refine wpAny_bind (wpAny_setField_rec ef' (by simp) fun hg' eg' sg' => ?_)
    replace sg' : Heap.SameBut e hf' hg' := sg'
    replace eg' : ERec hg' e it (c + 1) (rawInt hp.objs.size) f1 x := eg'
    refine wpAny_setField_rec eg' (by simp) fun hh' eh' sh' => ?_
    replace sh' : Heap.SameBut e hg' hh' := sh'
    replace eh' : ERec hh' e it (c + 1) (rawInt hp.objs.size) false x := eh'
    refine wpAny_bind (wpAny_letGo (wpAny_pure ⟨_, rfl, ?_⟩))
    exact fin hh' _ _ _ (.inr ⟨_, rfl⟩) eh' ((sf'.trans sg').trans sh')
  · simp only [Bool.false_eq_true, if_false]
    exact wpAny_pure ⟨_, rfl, fin h' _ _ _ hf eh sh⟩
theorem pyNext_en {Q : Option Value → Shared → Prop} (D : Draws prog w A.in1 it fp n P St) (he : ERec s.heap e it c f0 f1 old) (hf : ZF f0) (hst : St i s.heap) (hlt : i < n) (hne : e ≠ it) (hef : e ∉ fp)
    (hQ : ∀ x h' tk t g0 g1 y, P i x → ZF g0 → ERec h' e it (c + 1) g0 g1 y → St (i + 1) h' → IsTupOf2 h' s.heap.objs.size (.int c t) x → h'.objs.size = s.heap.objs.size + 1 →
      (∀ b o, b ≠ e → b ≠ it → s.heap.get? b = some o → h'.get? b = some o) → Q (some (.ref s.heap.objs.size)) { s with heap := h', toks := tk }) : wpAny (model prog w) A (pyNext (.ref e)) Q E s := by
  have ty : s.TypeIs (.ref e) "enumerate" := ⟨_, he, rfl⟩
  unfold pyNext
  exact wpAny_bind (wpAny_attempt (wpAny_callSpecial?_slot (name := Str.ofString "__next__") ty F.slot_enumerate_next (wpAny_call_entry F.slot_enumerate_next ty F.entry_enumerate_next
    (enx D he hf hst hlt hne hef fun x h' tk t g0 g1 y q1 q2 q3 q4 q5 q6 q7 => wpAny_pure (hQ x h' tk t g0 g1 y q1 q2 q3 q4 q5 q6 q7)) (F.args_enumerate_next_1 _))))
theorem pyNext_en_end {Q : Option Value → Shared → Prop} (D : Draws prog w A.in1 it fp n P St) (he : ERec s.heap e it c f0 f1 old) (hst : St n s.heap)
    (hQ : ∀ h' tk, (∀ b o, b ≠ e → b ≠ it → s.heap.get? b = some o → h'.get? b = some o) → Q none { s with heap := h', toks := tk }) : wpAny (model prog w) A (pyNext (.ref e)) Q E s := by
  have ty : s.TypeIs (.ref e) "enumerate" := ⟨_, he, rfl⟩
  unfold pyNext
  refine wpAny_bind (wpAny_attempt (wpAny_callSpecial?_slot (name := Str.ofString "__next__") ty F.slot_enumerate_next (wpAny_call_entry F.slot_enumerate_next ty F.entry_enumerate_next ?_ (F.args_enumerate_next_1 _))))
  show wpAny _ _ (field (.ref e) 2 >>= _) _ _ _
  refine wpAny_bind (wpAny_field he rfl (x := .ref it) rfl ?_)
  refine wpAny_bind (D.done _ _ _ hst fun h' x kp hx => ?_)
  obtain ⟨o, ho, hc⟩ := hx
  refine wpAny_bind (wpAny_isInstance (T := "StopIteration") (b := true) ⟨o, ho, hc⟩ isSubtype_stop ?_)
  exact wpAny_pure (hQ _ s.toks fun b ob _ q y => kp b ob q y)
/-- what was made so far -/
structure Made (P : Nat → Value → Prop) (lo : Addr) (h : Heap) (as : List Addr) : Prop where
  rise : as.Pairwise (· < ·)
  above : ∀ a ∈ as, lo ≤ a
  there : ∀ a ∈ as, a < h.objs.size
  at_ : ∀ (j : Nat) (a : Addr), as[j]? = some a → ∃ t x, P j x ∧ IsTupOf2 h a (.int (j : Int) t) x
theorem Made.keep {P : Nat → Value → Prop} {lo : Addr} {h h' : Heap} {as : List Addr} (m : Made P lo h as) (k : ∀ a ∈ as, ∀ o, h.get? a = some o → h'.get? a = some o) : Made P lo h' as :=
  ⟨m.rise, m.above, fun a ha => by
    obtain ⟨j, hj⟩ := List.mem_iff_getElem?.mp ha
    obtain ⟨t, x, _, q⟩ := m.at_ j a hj
    exact Heap.lt_size (k a ha _ q), fun j a hj => by
    obtain ⟨t, x, p, q⟩ := m.at_ j a hj
    exact ⟨t, x, p, k a (List.mem_iff_getElem?.mpr ⟨j, hj⟩) _ q⟩⟩
theorem en_loop {R : Result → Shared → Prop} {S : Addr} {gs : Array GenState} {res : Value} {h0 : Heap} (D : Draws prog w A.in1.in1 it fp n P St) (hne : e ≠ it) (hef : e ∉ fp) (hSe : S ≠ e) (hSi : S ≠ it) (hSf : S ∉ fp) (hn : n ≤ sizeLine)
    (lo : Addr) (heS : e < lo ∧ it < lo ∧ S < lo)
    (hR : ∀ h' tk acc c as, (∀ b o, b ≠ S → b ≠ e → b ≠ it → h0.get? b = some o → h'.get? b = some o) → h'.get? S = some { cls := .type "list", dict := none, data := .seq acc c, slots := #[] } → as.length = n → Made P lo h' as → acc.toList = as.map Value.ref → R (.ok (.ret res)) { s with heap := h', toks := tk }) :
    ∀ (k i : Nat) (h : Heap) (tk c : Nat) (acc : Array Value) (as : List Addr) (g0 : Value) (g1 : Bool) (y : Value), n - i = k → i ≤ n → ZF g0 → ERec h e it (i : Int) g0 g1 y → St i h → (∀ b o, b ≠ S → b ≠ e → b ≠ it → h0.get? b = some o → h.get? b = some o) → lo ≤ h.objs.size →
      h.get? S = some { cls := .type "list", dict := none, data := .seq acc c, slots := #[] } → acc.toList = as.map Value.ref → as.length = i → Made P lo h as →
      codeAny (model prog w) A (.builtin "list.extend.loop" ⟨[.ref S, .ref e, res], []⟩) R { s with heap := h, toks := tk } := by
  intro k
  induction k with
  | zero =>
    intro i h tk c acc as g0 g1 y hk hi zg eg st kp hlo hS hacc hal hm
    have hin : i = n := by omega
    subst hin
    refine codeAny_builtin PySem.F.entry_extend_loop ?_
    rw [Around.under_plainId PySem.F.plain_extend_loop _]
    show wpAny _ A.in1 (pyNext (.ref e) >>= _) _ _ _
    refine wpAny_bind (pyNext_en_end (s := { s with heap := h, toks := tk }) (A := A.in1) D eg st fun h' tk' kp' => ?_)
    refine wpAny_pure (hR h' tk' acc c as (fun b o h1 h2 h3 q => kp' b o h2 h3 (kp b o h1 h2 h3 q)) (kp' S _ hSe hSi hS) hal (hm.keep fun a ha o q => ?_) hacc)
    exact kp' a o (Nat.ne_of_gt (Nat.lt_of_lt_of_le heS.1 (hm.above a ha))) (Nat.ne_of_gt (Nat.lt_of_lt_of_le heS.2.1 (hm.above a ha))) q
  | succ k ih =>
    intro i h tk c acc as g0 g1 y hk hi zg eg st kp hlo hS hacc hal hm
    have hlt : i < n := by omega
    have hsz : acc.size = i := by rw [← Array.length_toList, hacc, List.length_map, hal]
    refine codeAny_builtin PySem.F.entry_extend_loop ?_
    rw [Around.under_plainId PySem.F.plain_extend_loop _]
    show wpAny _ A.in1 (pyNext (.ref e) >>= _) _ _ _
    refine wpAny_bind (pyNext_en (s := { s with heap := h, toks := tk }) (A := A.in1) D eg zg st hlt hne hef fun x h' tk' t g0' g1' y' hP zg' eg' st' ht hz kp' => ?_)
    dsimp only at ht hz kp' ⊢
    have hS' := kp' S _ hSe hSi hS
    have up : ∀ b o, b ≠ S → h'.get? b = some o → (h'.update S (Obj.mapSeq (·.push (Value.ref h.objs.size)))).get? b = some o := fun b o hb q => (Heap.get?_update_other _ _ (Ne.symm hb)).trans q
    have hSl : S < h.objs.size := Heap.lt_size hS
    have szu : (h'.update S (Obj.mapSeq (·.push (Value.ref h.objs.size)))).objs.size = h.objs.size + 1 := by rw [Heap.size_update, hz]
    show wpAny _ A.in1 (updateSeq S (·.push (Value.ref h.objs.size)) >>= _) _ _ _
    refine wpAny_bind ?_
    refine wpAny_updateSeq hS' rfl (wpAny_pure ⟨plainId_quiet PySem.F.plain_extend_loop _, ih (i + 1) _ tk' _ (acc.push (Value.ref h.objs.size)) (as ++ [h.objs.size]) g0' g1' y' (by omega) hlt zg' ?_ (D.frame _ _ _ st' fun b hb o q => up b o (fun z => hSf (z ▸ hb)) q)
      (fun b o h1 h2 h3 q => up b o h1 (kp' b o h2 h3 (kp b o h1 h2 h3 q))) (by rw [szu]; exact Nat.le_succ_of_le hlo) (Heap.get?_update_self _ hS' rfl) (by rw [Array.toList_push, hacc, List.map_append]; rfl) (by rw [List.length_append, hal]; rfl) ?_⟩) (by rw [hsz]; omega) (by show (acc.push (Value.ref h.objs.size)).size ≤ sizeLine + 1; rw [Array.size_push, hsz]; omega)
    · have q := up e _ (Ne.symm hSe) eg'
      have z : (((i + 1 : Nat) : Int)) = (i : Int) + 1 := by omega
      rw [z]
      exact q
    · have mk := hm.keep (h' := h'.update S (Obj.mapSeq (·.push (Value.ref h.objs.size)))) fun a ha o q => by
        exact up a o (Nat.ne_of_gt (Nat.lt_of_lt_of_le heS.2.2 (hm.above a ha))) (kp' a o (Nat.ne_of_gt (Nat.lt_of_lt_of_le heS.1 (hm.above a ha))) (Nat.ne_of_gt (Nat.lt_of_lt_of_le heS.2.1 (hm.above a ha))) q)
      refine ⟨List.pairwise_append.mpr ⟨mk.rise, List.pairwise_singleton _ _, fun a ha b hb => ?_⟩, fun a ha => ?_, fun a ha => ?_, fun j a hj => ?_⟩
      · rw [List.mem_singleton.mp hb]
        exact hm.there a ha
      · rcases List.mem_append.mp ha with ha | ha
        · exact mk.above a ha
        · rw [List.mem_singleton.mp ha]
          exact hlo
      · rcases List.mem_append.mp ha with ha | ha
        · exact mk.there a ha
        · rw [List.mem_singleton.mp ha, szu]
          exact Nat.lt_succ_self _
      · rcases get_snoc' hj with ⟨_, hj⟩ | ⟨rfl, rfl⟩
        · exact mk.at_ j a hj
        · rw [hal]
          exact ⟨t, x, hP, up _ _ (Nat.ne_of_gt hSl) ht⟩
theorem nolen_en : typeLookup (.type "enumerate") "__len__" = pure none := by rw [typeLookup_type, builtinLookup_eq_fast]; kernel_rfl
theorem nohint_en : typeLookup (.type "enumerate") "__length_hint__" = pure none := by rw [typeLookup_type, builtinLookup_eq_fast]; kernel_rfl
theorem en_collect {R : List Value → Shared → Prop} {y0 : Value} (D : Draws prog w A.in1.in1 it fp n P St) (hne : e ≠ it) (hef : e ∉ fp) (hfp : ∀ b ∈ fp, b < s.heap.objs.size) (hn : n ≤ sizeLine) (he : IsEnum s.heap e it 0 y0) (hit : it < s.heap.objs.size) (st : St 0 s.heap)
    (h : ∀ (h' : Heap) (tk : Nat) (as : List Addr), (∀ b o, b ≠ e → b ≠ it → s.heap.get? b = some o → h'.get? b = some o) → as.length = n → Made P s.heap.objs.size h' as → R (as.map Value.ref) { s with heap := h', toks := tk }) :
    wpAny (model prog w) A (collect (.ref e)) R E s := by
  have hel : e < s.heap.objs.size := Heap.lt_size he
  have hSe : s.heap.objs.size ≠ e := Nat.ne_of_gt hel
  have hSi : s.heap.objs.size ≠ it := Nat.ne_of_gt hit
  have hSf : s.heap.objs.size ∉ fp := fun hm => Nat.lt_irrefl _ (hfp _ hm)
  unfold collect
  refine wpAny_bind (wpAny_runValue (codeAny_builtin F.entry_proto_collect ?_))
  rw [Around.under_plainId F.plain_proto_collect _]
  show wpAny _ A.in1 (newList [] >>= fun l => again (.builtin "list.__iadd__" ⟨[l, .ref e], []⟩)) _ _ s
  refine wpAny_bind (wpAny_newObj_type ?_)
  refine wpAny_pure ⟨plainId_quiet F.plain_list_iadd _, codeAny_builtin F.entry_list_iadd ?_⟩
  rw [Around.under_plainId F.plain_list_iadd _]
  have kp1 : ∀ b o, s.heap.get? b = some o → (s.heap.push { cls := .type "list", data := .seq ([] : List Value).toArray }).get? b = some o := fun b o q => Heap.get?_push_of_some _ q
  have he1 : IsEnum (s.heap.push { cls := .type "list", data := .seq ([] : List Value).toArray }) e it 0 y0 := kp1 _ _ he
  have st1 : St 0 (s.heap.push { cls := .type "list", data := .seq ([] : List Value).toArray }) := D.frame _ _ _ st fun b _ o q => kp1 b o q
  have hS1 : (s.heap.push { cls := .type "list", data := .seq ([] : List Value).toArray }).get? s.heap.objs.size = some { cls := .type "list", data := .seq #[] } := Heap.get?_push_size _ rfl
  have sz1 : (s.heap.push { cls := .type "list", data := .seq ([] : List Value).toArray }).objs.size = s.heap.objs.size + 1 := Heap.size_push ..
  show wpAny _ A.in1 (Builtin.List.listExtendWith (.ref s.heap.objs.size) (.ref e) (.ref s.heap.objs.size)) _ _ _
  generalize hh1 : s.heap.push { cls := .type "list", data := .seq ([] : List Value).toArray } = g1 at kp1 he1 st1 hS1 sz1
  have ty : (⟨g1, s.gens, s.drawn, s.toks, s.os⟩ : Shared).TypeIs (.ref e) "enumerate" := ⟨_, he1, rfl⟩
  unfold Builtin.List.listExtendWith
  refine wpAny_bind (wpAny_typeOf ty ?_)
  have q1 : Builtin.List.listSameRef (.ref s.heap.objs.size) (.ref e) = false := by simp [Builtin.List.listSameRef, hSe]
  have q2 : (Value.type "enumerate" == Value.type "list") = false := by decide
  have q3 : (Value.type "enumerate" == Value.type "tuple") = false := by decide
  simp only [q1, q2, q3, Bool.or_false, Bool.false_eq_true, if_false]
  refine wpAny_bind (wpAny_pyIter_enum he1 ?_)
  refine wpAny_bind (wpAny_holding ?_)
  unfold Builtin.List.listLengthHint
  refine wpAny_bind (wpAny_specialOf ty nolen_en ?_)
  show wpAny _ A.in1 (specialOf (Value.ref e) (Str.ofString "__length_hint__") >>= _) _ _ _
  refine wpAny_bind (wpAny_specialOf ty nohint_en ?_)
  refine wpAny_pure ?_
  show wpAny _ A.in1 (rule "list.extend.makes-room" >>= fun _ => Builtin.List.listTouch (.ref s.heap.objs.size) >>= fun _ =>
    again (.builtin "list.extend.loop" ⟨[.ref s.heap.objs.size, .ref e, .ref s.heap.objs.size], []⟩)) _ _ _
  refine wpAny_bind (wpAny_rule (wpAny_bind ?_))
  show wpAny _ A.in1 (updateSeq s.heap.objs.size (·.push .none) >>= fun _ => updateSeq s.heap.objs.size (·.pop)) _ _ _
  refine wpAny_bind (wpAny_updateSeq hS1 rfl ?_)
  have hS2 := Heap.get?_update_self (Obj.mapSeq (·.push Value.none)) hS1 rfl
  refine wpAny_updateSeq (hz := by seq_fits) hS2 rfl ?_
  have hS3 := Heap.get?_update_self (Obj.mapSeq (·.pop)) hS2 rfl
  have oth : ∀ b o, b ≠ s.heap.objs.size → g1.get? b = some o → ((g1.update s.heap.objs.size (Obj.mapSeq (·.push Value.none))).update s.heap.objs.size (Obj.mapSeq (·.pop))).get? b = some o := fun b o hb q => (Heap.get?_update_other _ _ (Ne.symm hb)).trans ((Heap.get?_update_other _ _ (Ne.symm hb)).trans q)
  refine wpAny_pure ⟨plainId_quiet F.plain_extend_loop _, en_loop (A := A) (gs := s.gens) (h0 := s.heap) (s := s) D hne hef hSe hSi hSf hn (s.heap.objs.size + 1) ⟨Nat.lt_succ_of_lt hel, Nat.lt_succ_of_lt hit, Nat.lt_succ_self _⟩ (fun h' tk acc c as kp hS hl hm hacc => ?_) n 0 _ s.toks _ #[] [] .none false y0 (Nat.sub_zero _) (Nat.zero_le _) (.inl rfl) (oth e _ (Ne.symm hSe) he1) (D.frame _ _ _ st1 fun b hb o q => oth b o (fun z => hSf (z ▸ hb)) q) (fun b o h1 h2 h3 q => oth b o h1 (kp1 b o q)) ?_ hS3 rfl rfl ⟨List.Pairwise.nil, fun a ha => (nomatch ha), fun a ha => (nomatch ha), fun j a hj => by simp at hj⟩⟩
  · show wpAny _ A (load s.heap.objs.size >>= _) _ _ _
    refine wpAny_bind (wpAny_load hS (wpAny_pure ?_))
    show R acc.toList _
    rw [hacc]
    exact h h' tk as (fun b o h1 h2 q => kp b o (Nat.ne_of_lt (Heap.lt_size q)) h1 h2 q) hl ⟨hm.rise, fun a ha => Nat.le_of_succ_le (hm.above a ha), hm.there, hm.at_⟩
  · rw [Heap.size_update, Heap.size_update, sz1]
    exact Nat.le_refl _
/-- tuple(e), e an enumerate -/
theorem code_tuple_en {Q₁ : Value → Shared → Prop} {y0 : Value} (D : Draws prog w A.in1.in1.in1 it fp n P St) (hne : e ≠ it) (hef : e ∉ fp) (hfp : ∀ b ∈ fp, b < s.heap.objs.size) (hn : n ≤ sizeLine) (he : IsEnum s.heap e it 0 y0) (hit : it < s.heap.objs.size) (st : St 0 s.heap)
    (h : ∀ (h' : Heap) (tk : Nat) (as : List Addr), (∀ b o, b ≠ e → b ≠ it → s.heap.get? b = some o → h'.get? b = some o) → as.length = n → Made P s.heap.objs.size h' as → Q₁ (.ref h'.objs.size) { s with heap := h'.push { cls := .type "tuple", data := .seq (as.map Value.ref).toArray }, toks := tk }) :
    codeAny (model prog w) A (.call (.builtin "tuple.__new__") ⟨[.type "tuple", .ref e], []⟩) (wants Q₁ E) s := by
  refine codeAny_of_tree ?_
  show wpAny _ A.in1 (do checkBuiltinCall "tuple.__new__" ⟨[.type "tuple", .ref e], []⟩; again (.builtin "tuple.__new__" ⟨[.type "tuple", .ref e], []⟩)) _ _ s
  refine wpAny_bind (wpAny_of_eq (F.newCall_tuple_1 _) (wpAny_pure ⟨plainId_quiet F.plain_tuple_new _, codeAny_builtin F.entry_tuple_new ?_⟩))
  rw [Around.under_plainId F.plain_tuple_new _]
  have hsub := sub_tuple_self
  have hinit := init_tuple_lookup
  have hmh := madeHere_tuple
  have hTI : s.TypeIs (.ref e) "enumerate" := ⟨_, he, rfl⟩
  have col : ∀ {R : List Value → Shared → Prop} {E : Value → Shared → Prop}, (∀ (h' : Heap) (tk : Nat) (as : List Addr), (∀ b o, b ≠ e → b ≠ it → s.heap.get? b = some o → h'.get? b = some o) → as.length = n → Made P s.heap.objs.size h' as → R (as.map Value.ref) { s with heap := h', toks := tk }) → wpAny (model prog w) A.in1 (collect (.ref e)) R E s :=
    fun q => en_collect (A := A.in1) D hne hef hfp hn he hit st q
  wp_walk using wpAny_typeOf hTI, col
  intro h' tk as hk hl hm
  show wpAny _ _ (Builtin.Tuple.tupleExact (as.map Value.ref).toArray >>= fun v => ret v) _ _ _
  unfold Builtin.Tuple.tupleExact
  refine wpAny_bind (wpAny_newObj_type ?_ (by show (as.map Value.ref).toArray.size ≤ sizeLine; rw [List.size_toArray, List.length_map, hl]; exact hn))
  exact wpAny_pure (h h' tk as hk hl hm)
theorem call_tuple_en {Q : Value → Shared → Prop} {y0 : Value} (D : Draws prog w A.in1.in1.in1.in1 it fp n P St) (hne : e ≠ it) (hef : e ∉ fp) (hfp : ∀ b ∈ fp, b < s.heap.objs.size) (hn : n ≤ sizeLine) (he : IsEnum s.heap e it 0 y0) (hit : it < s.heap.objs.size) (st : St 0 s.heap)
    (h : ∀ (h' : Heap) (tk : Nat) (as : List Addr), (∀ b o, b ≠ e → b ≠ it → s.heap.get? b = some o → h'.get? b = some o) → as.length = n → Made P s.heap.objs.size h' as → Q (.ref h'.objs.size) { s with heap := h'.push { cls := .type "tuple", data := .seq (as.map Value.ref).toArray }, toks := tk }) :
    wpAny (model prog w) A (call (.type "tuple") [.ref e]) Q E s := by
  refine callType_codes (Q₁ := fun obj s₁ => s₁.TypeIs obj "tuple" ∧ Q obj s₁) F.called_tuple (F.typeCall_tuple_1 _) F.entry_object_init
    (code_tuple_en (A := A.in1) D hne hef hfp hn he hit st fun h' tk as hk hl hm => ⟨⟨_, Heap.get?_push_size _ rfl, rfl⟩, h h' tk as hk hl hm⟩) fun obj s₁ h₁ => ?_
  exact ⟨h₁.1, F.args_object_init_2 obj _, object_init_meets F.called_tuple.init.lookup F.called_tuple.made (by decide) prog w A.in1 _ s₁ ⟨h₁.1, rfl, h₁.2⟩⟩
end
end DL
namespace DL
open PySem PySem.Spec PyProof.Rows L2
variable [HasT]
theorem meets_enum1 {v : Value} {o : Obj} {Hb : Heap → Prop} (B : Begins v o Hb) :
    Meets (Builtin.«enumerate.__new__» ⟨[.type "enumerate", v], []⟩) (fun _ R s => Hb s.heap ∧
      R (.ok (.ret (.ref (s.heap.push o).objs.size))) { s with heap := (s.heap.push o).push { cls := .type "enumerate", data := .fields #[.none, .bool false, .ref s.heap.objs.size, rawInt 0, .none, .none] } }) :=
  .of_wp fun prog w A R s h => by
    obtain ⟨hp, gs, dr, tk, os⟩ := s
    obtain ⟨h1, h⟩ := h
    have hsub := sub_enumerate
    have q1 : ∀ {A' : Around} {E : Value → Shared → Prop} {Q : Value → Shared → Prop}, Q (.ref hp.objs.size) ⟨hp.push o, gs, dr, tk, os⟩ → wpAny (model prog w) A' (pyIter v) Q E ⟨hp, gs, dr, tk, os⟩ :=
      fun q => B.iter prog w _ _ ⟨hp, gs, dr, tk, os⟩ _ h1 q
    wp_walk using q1
    refine wpAny_stack_any fun st => wpAny_pure ?_
    split
    · rename_i c _ _ _ _ _
      cases (c == Value.type "enumerate")
      · wp_walk using q1
        exact ⟨_, rfl, h⟩
      · wp_walk using q1
        exact ⟨_, rfl, h⟩
    · wp_walk using q1
      exact ⟨_, rfl, h⟩
theorem build_all {h : Heap} {G : Nat → List V → Prop} : ∀ (as : List Addr) (k : Nat), (∀ (j : Nat) (a : Addr), as[j]? = some a → ∃ us vs, h.get? a = some (obT us) ∧ Vals vs us ∧ G (k + j) vs) →
    ∃ tl : List (Addr × List Value × List V), tl.map (·.1) = as ∧ (∀ t ∈ tl, h.get? t.1 = some (obT t.2.1) ∧ Vals t.2.2 t.2.1) ∧ ∀ (j : Nat) (a : Addr), as[j]? = some a → ∃ us vs, (a, us, vs) ∈ tl ∧ G (k + j) vs
  | [], _, _ => ⟨[], rfl, (fun t ht => by cases ht), (fun j a ha => by simp at ha)⟩
  | a :: as, k, hh => by
    obtain ⟨tl, t1, t2, t3⟩ := build_all as (k + 1) fun j b hb => by
      obtain ⟨us, vs, h1, h2, h3⟩ := hh (j + 1) b (by simpa using hb)
      exact ⟨us, vs, h1, h2, by rw [show k + 1 + j = k + (j + 1) by omega]; exact h3⟩
    obtain ⟨us, vs, u1, u2, u3⟩ := hh 0 a rfl
    refine ⟨(a, us, vs) :: tl, by rw [List.map_cons, t1], fun t ht => ?_, fun j b hb => ?_⟩
    · rcases List.mem_cons.mp ht with rfl | ht
      · exact ⟨u1, u2⟩
      · exact t2 t ht
    · cases j with
      | zero =>
        simp at hb
        subst hb
        exact ⟨us, vs, List.mem_cons_self, u3⟩
      | succ j =>
        obtain ⟨us', vs', m1, m2⟩ := t3 j b (by simpa using hb)
        exact ⟨us', vs', List.mem_cons_of_mem _ m1, by rw [show k + (j + 1) = k + 1 + j by omega]; exact m2⟩
theorem relDs_ix {K : PySem.W.Frag} {H : Hp} {A : List Addr} : ∀ {ds : List D} {vs : List V}, ds.length = vs.length → (∀ (j : Nat) (d : D) (v : V), ds[j]? = some d → vs[j]? = some v → RelD K H A d v) → RelDs K H A ds vs
  | [], [], _, _ => rfl
  | [], _ :: _, h, _ => by cases h
  | _ :: _, [], h, _ => by cases h
  | d :: ds, v :: vs, h, hh => ⟨v, vs, rfl, hh 0 d v rfl rfl, relDs_ix (Nat.succ.inj h) fun j d' v' h1 h2 => hh (j + 1) d' v' (by simpa using h1) (by simpa using h2)⟩
def enumD (xs : List D) : List D := (List.range xs.length).map fun (i : Nat) => D.tup [.int (i : Int), xs.getD i .non]
def dTEnum (t : DA) : DE := fun ρ S post => t ρ S fun ds S1 => ∃ x xs, ds = [x] ∧ seqOf S1 x xs ∧ xs.length ≤ 100000 ∧ post (.tup (enumD xs)) S1
theorem de_tupEnum {X : Cx} {e1 : Expr} {t : DA} {p p2 pos pos2 : Pos} (hc : X.calm = true) (hg : Gl X "tuple") (hm : X.mg "tuple" = none) (hge : Gl X "enumerate") (hme : X.mg "enumerate" = none) (ha : PA X [e1] (liftA X.K t))
    (hs : starEach [e1] X.env = (false, eval e1 X.env) :: starEach [] X.env := by rfl)
    (hs2 : starEach [.Call (.Name "enumerate" p2) [e1] [] pos2] X.env = (false, eval (.Call (.Name "enumerate" p2) [e1] [] pos2) X.env) :: starEach [] X.env := by rfl) :
    PE X (.Call (.Name "tuple" p) [.Call (.Name "enumerate" p2) [e1] [] pos2] [] pos) (liftE X.K (dTEnum t)) := by
  refine ⟨fun pins s σ H Q I ⟨A, ρ, S, post, n, rs, h, k⟩ => ?_⟩
  refine Call_ (ld_blt I hg hm PyProof.Rows.boot_tuple ?_)
  refine PyProof.Rows.callWith_type1 (PyProof.Rows.args_cons ?_ hs2) hs2 rfl
  refine Call_ (ld_blt I hge hme PyProof.Rows.boot_enumerate (PyProof.Rows.callWith_type1 (thn (ha.run pos2 pins s σ H (fun vs H1 => ∃ a A1 S1 x xs, vs = [.ref a] ∧ Ext H A H1 A1 ∧ Src X.K x a xs H1 A1 S1 ∧ xs.length ≤ 100000 ∧ post (.tup (enumD xs)) S1) I
    ⟨A, ρ, S, _, n, rs, h, fun vs H1 A1 ds S1 e s1 r hh => ?_⟩) fun us s1 ⟨vs, H1, I1, r1, q1⟩ => ?_) hs rfl))
  · obtain ⟨x, xs, rfl, q1, hl, hp⟩ := hh
    obtain ⟨v1, rfl, r1⟩ := rels1 r
    obtain ⟨a, rfl⟩ := seq_ref s1 q1 r1
    exact ⟨a, A1, S1, x, xs, rfl, e, ⟨s1, r1, q1⟩, hl, hp⟩
  · obtain ⟨a, A1, S1, x, xs, rfl, e, c1, hl, hp⟩ := q1
    cases r1 with
    | cons w1 r1 =>
      cases r1
      cases w1
      obtain ⟨t1, vs1, rv1, rd1, p1, m1⟩ := src_inv I1 c1
      have la := c1.lt I1
      refine callType_new F.called_enumerate (by decide) (F.typeCall_enumerate_1 _) (F.newCall_enumerate_1 _) (fun obj => F.args_object_init_2 obj _) F.entry_enumerate_new (meets_enum1 (sbegins (kindD x) a t1.toArray)) ⟨p1, ?_⟩
      have sz1 : (s1.heap.push (sobj (kindD x) a)).objs.size = s1.heap.objs.size + 1 := Heap.size_push ..
      have kp1 : ∀ c o, s1.heap.get? c = some o → ((s1.heap.push (sobj (kindD x) a)).push { cls := .type "enumerate", data := .fields #[.none, .bool false, .ref s1.heap.objs.size, rawInt 0, .none, .none] }).get? c = some o := fun c o q => Heap.get?_push_of_some _ (Heap.get?_push_of_some _ q)
      have hE : IsEnum ((s1.heap.push (sobj (kindD x) a)).push { cls := .type "enumerate", data := .fields #[.none, .bool false, .ref s1.heap.objs.size, rawInt 0, .none, .none] }) (s1.heap.push (sobj (kindD x) a)).objs.size s1.heap.objs.size 0 .none := Heap.get?_push_size _ rfl
      have hI : ((s1.heap.push (sobj (kindD x) a)).push { cls := .type "enumerate", data := .fields #[.none, .bool false, .ref s1.heap.objs.size, rawInt 0, .none, .none] }).get? s1.heap.objs.size = some (sobj (kindD x) a) := Heap.get?_push_of_some _ (Heap.get?_push_size _ (by unfold sobj Obj.isFreed; cases kindD x <;> rfl))
      have sz2 : ((s1.heap.push (sobj (kindD x) a)).push { cls := .type "enumerate", data := .fields #[.none, .bool false, .ref s1.heap.objs.size, rawInt 0, .none, .none] }).objs.size = s1.heap.objs.size + 1 + 1 := by rw [Heap.size_push, sz1]
      generalize (s1.heap.push (sobj (kindD x) a)).push { cls := .type "enumerate", data := .fields #[.none, .bool false, .ref s1.heap.objs.size, rawInt 0, .none, .none] } = h2 at kp1 hE hI sz2 ⊢
      rw [sz1] at hE ⊢
      refine ⟨⟨_, hE, rfl⟩, PyProof.Rows.args_nil ?_⟩
      have I2 : Inv X pins σ H1 { s1 with heap := h2 } := I1.kept (t' := s1.toks) kp1
      obtain ⟨_, _, _, _, p2, _⟩ := src_inv I2 c1
      have hne : s1.heap.objs.size + 1 ≠ s1.heap.objs.size := Nat.succ_ne_self _
      have hef : (s1.heap.objs.size + 1 : Addr) ∉ [s1.heap.objs.size, a] := fun hm => by
        have hm' : (s1.heap.objs.size + 1 : Addr) = s1.heap.objs.size ∨ (s1.heap.objs.size + 1 : Addr) = a := by simpa using hm
        rcases hm' with q | q
        · exact hne q
        · rw [← q] at la
          exact absurd la (Nat.not_lt.mpr (Nat.le_succ _))
      have hfp : ∀ b ∈ [s1.heap.objs.size, a], b < h2.objs.size := fun b hb => by
        have hb' : b = s1.heap.objs.size ∨ b = a := by simpa using hb
        rw [sz2]
        rcases hb' with rfl | rfl
        · exact Nat.lt_succ_of_lt (Nat.lt_succ_self _)
        · exact Nat.lt_succ_of_lt (Nat.lt_succ_of_lt la)
      have hsob : SOb (kindD x) h2 a t1.toArray := (sbegins (kindD x) a t1.toArray).keeps _ _ p1 kp1
      have hnl : t1.toArray.size ≤ sizeLine := by
        rw [List.size_toArray, m1]
        exact le_line hl
      have Dw := sdraws (prog := X.prog) (w := X.w) (A := X.A.in1.in1.in1.in1) (kindD x) (I.ok.hd hc) s1.heap.objs.size a (Nat.ne_of_lt la) t1.toArray
      refine call_tuple_en (s := { s1 with heap := h2 }) (A := X.A) Dw hne hef hfp hnl hE (by show s1.heap.objs.size < h2.objs.size; rw [sz2]; exact Nat.lt_succ_of_lt (Nat.lt_succ_self _)) ⟨sit_start hI, hsob⟩ fun h' tk as kp las hm => ?_
      have nlt : ∀ b o, s1.heap.get? b = some o → h'.get? b = some o := fun b o q => kp b o (Nat.ne_of_lt (Nat.lt_succ_of_lt (Heap.lt_size q))) (Nat.ne_of_lt (Heap.lt_size q)) (kp1 b o q)
      have nltP : ∀ b o, s1.heap.get? b = some o → (h'.push { cls := .type "tuple", data := .seq (as.map Value.ref).toArray }).get? b = some o := fun b o q => Heap.get?_push_of_some _ (nlt b o q)
      have tn : s1.heap.get? h'.objs.size = none := by
        cases z : s1.heap.get? h'.objs.size with
        | none => rfl
        | some o => exact absurd (Heap.lt_size (nlt _ _ z)) (Nat.lt_irrefl _)
      have tn1 : H1 h'.objs.size = none := HOk.gone I1.hok tn
      have hT : (h'.push { cls := .type "tuple", data := .seq (as.map Value.ref).toArray }).get? h'.objs.size = some (obT (as.map Value.ref)) := Heap.get?_push_size _ rfl
      have zT : (as.map V.ref).length ≤ sizeLine := by rw [List.length_map, las]; exact hnl
      have I3 : Inv X pins σ (upd H1 h'.objs.size (.frz (obT (as.map Value.ref)) (.tup (as.map V.ref)))) { s1 with heap := h'.push { cls := .type "tuple", data := .seq (as.map Value.ref).toArray }, toks := tk } :=
        Inv.laidN I1 nltP tn tn1 ⟨hT, zT, as.map Value.ref, LiI.vals_refs as, ⟨_, hT, rfl, _, rfl⟩⟩
      have nd : as.Nodup := List.Pairwise.imp (fun {a b} (h : a < b) => Nat.ne_of_lt h) hm.rise
      have tna : h'.objs.size ∉ as := fun z => Nat.lt_irrefl _ (hm.there _ z)
      have vl : vs1.length = t1.length := rv1.length
      -- the pairs
      have facts : ∀ (j : Nat) (b : Addr), as[j]? = some b → ∃ us v d, h'.get? b = some (obT us) ∧ Vals [V.int (j : Int), v] us ∧ xs[j]? = some d ∧ RelD X.K H1 A1 d v := fun j b hj => by
        obtain ⟨t, y, hy, q⟩ := hm.at_ j b hj
        have hy' : t1[j]? = some y := by simpa using hy
        obtain ⟨v, d, ru, hd, rd⟩ := src_item rv1 rd1 (by simpa using hy)
        exact ⟨[.int (j : Int) t, y], v, d, q, .cons ⟨t, rfl⟩ (.cons ru .nil), hd, rd⟩
      obtain ⟨tl, l1, l2, l3⟩ := build_all (h := h'.push { cls := .type "tuple", data := .seq (as.map Value.ref).toArray }) (G := fun j vs => ∃ v d, vs = [V.int (j : Int), v] ∧ xs[j]? = some d ∧ RelD X.K H1 A1 d v) as 0 fun j b hj => by
        obtain ⟨us, v, d, g1, g2, g3, g4⟩ := facts j b hj
        exact ⟨us, _, Heap.get?_push_of_some _ g1, g2, v, d, by rw [Nat.zero_add], by rw [Nat.zero_add]; exact g3, g4⟩
      have two : ∀ t ∈ tl, t.2.2.length = 2 := fun t ht => by
        have hta : t.1 ∈ as := by rw [← l1]; exact List.mem_map.mpr ⟨t, ht, rfl⟩
        obtain ⟨j, hj⟩ := List.mem_iff_getElem?.mp hta
        obtain ⟨us, v, d, g1, g2, _⟩ := facts j _ hj
        obtain ⟨h1, h2⟩ := l2 t ht
        rw [Heap.get?_push_of_some _ g1] at h1
        have e2 : us = t.2.1 := by
          have := Option.some.inj h1
          have q : (obT us).data = (obT t.2.1).data := by rw [this]
          have q2 : us.toArray = t.2.1.toArray := by
            injection q
          exact List.toArray_inj q2
        rw [h2.length, ← e2, ← g2.length]
        rfl
      obtain ⟨H', I4, k1, k2, k3⟩ := track_all I1 tl I3 (fun t ht => by
        have hta : t.1 ∈ as := by rw [← l1]; exact List.mem_map.mpr ⟨t, ht, rfl⟩
        obtain ⟨g1, g2⟩ := l2 t ht
        have hge : s1.heap.objs.size ≤ t.1 := by
          have := hm.above t.1 hta
          have this' : h2.objs.size ≤ t.1 := this
          rw [sz2] at this'
          exact Nat.le_of_succ_le (Nat.le_of_succ_le this')
        refine ⟨hge, ?_, g1, g2, by rw [two t ht]; decide⟩
        rw [upd_ne (fun z => tna (by rw [← z]; exact hta))]
        exact I1.hok.fresh hge) (by rw [l1]; exact nd)
      have keep : ∀ b o, H1 b = some o → H' b = some o := fun b o q => k1 b o (by rw [upd_ne (ne_of_none q tn1)]; exact q)
      have e2 : Ext H1 A1 H' A1 := Ext.same keep
      have rds : RelDs X.K H' A1 (enumD xs) (as.map V.ref) := by
        refine relDs_ix (by simp [enumD, las, m1]) fun j d v h1 h2 => ?_
        have hj : j < xs.length := by
          have := (List.getElem?_eq_some_iff.mp h1).1
          simpa [enumD] using this
        have hd : d = .tup [.int (j : Int), xs.getD j .non] := by
          unfold enumD at h1
          rw [List.getElem?_map, List.getElem?_range hj] at h1
          exact (Option.some.inj h1).symm
        have hja : j < as.length := by rw [las, List.size_toArray, m1]; exact hj
        have hjs : as[j]? = some as[j] := List.getElem?_eq_getElem hja
        rw [List.getElem?_map, hjs] at h2
        have hv : v = V.ref as[j] := (Option.some.inj h2).symm
        obtain ⟨us, vs, hmem, w, d', q1, q2, q3⟩ := l3 j _ hjs
        rw [Nat.zero_add] at q1 q2
        subst hd hv q1
        have hx : xs.getD j .non = d' := by rw [List.getD_eq_getElem?_getD, q2]; rfl
        rw [hx]
        exact ⟨as[j], _, rfl, .inl ⟨obT us, k3 _ hmem, rfl⟩, ⟨_, _, rfl, rfl, ⟨_, _, rfl, q3.ext e2, rfl⟩⟩⟩
      exact ⟨.ref h'.objs.size, H', I4, rfl, k (.ref h'.objs.size) H' A1 (.tup (enumD xs)) S1 (e.trans e2) (c1.rs.same keep) ⟨h'.objs.size, as.map V.ref, rfl, .inl ⟨_, k1 _ _ upd_same, rfl⟩, rds⟩ hp⟩
end DL
namespace DL
open PySem PySem.Spec PyProof.Rows L2
variable [HasT]
theorem units65 {k : Nat} {A : Around} (r : Room k A) : A.units + 65 < cLine := by
  have := r.un
  omega
end DL
/-! ZJ: a name set to a comprehension. -/
namespace DL
open PySem PySem.Spec PyProof.Rows L2
variable [HasT]
section
variable {X : Cx} {i : Nat} {y : Str} {py pos spos : Pos} {tg iter kx vx elt : Expr} {ifs : List Expr} {scope : Scope} {own : List (Str × Nat)}
theorem ps_setDc {wi : TI} {g : TG} {tt : TT} {tk tv : TE} (hc : X.calm = true) (hN : X.N.Nodup) (hy : X.N[i]? = some y) (hyl : X.env.scope.names.lookup y = some .local)
    (hsw : swapsWith (.DictComp kx vx [⟨tg, iter, ifs, 0⟩] scope pos) (some (.Name y py)) spos.line X.env = pure true) (hi : PI X tg iter wi) (ok : BlkOk X.N X.env.scope scope own)
    (hg : ∀ (s : Shared) (H : Hp) (C : Addr) (cl : List (Str × Addr)) (fp : List Addr), PG (X.blk s H scope (compEnvC scope cl C X.env) fp) tg g) (ht : ∀ (s : Shared) (H : Hp) (C : Addr) (cl : List (Str × Addr)) (fp : List Addr), PTs (X.blk s H scope (compEnvC scope cl C X.env) fp) ifs tt)
    (hk : ∀ (s : Shared) (H : Hp) (C : Addr) (cl : List (Str × Addr)) (fp : List Addr), PE (X.blk s H scope (compEnvC scope cl C X.env) fp) kx tk) (he : ∀ (s : Shared) (H : Hp) (C : Addr) (cl : List (Str × Addr)) (fp : List Addr), PE (X.blk s H scope (compEnvC scope cl C X.env) fp) vx tv)
    (hs : ∀ x, foldedSetIterable iter X.env x = pure x) : PS X (.Assign [.Name y py] (.DictComp kx vx [⟨tg, iter, ifs, 0⟩] scope pos) spos) (tAsg (tDc wi g tt tk tv (own.map (·.2))) (L2.gName i)) := by
  refine ⟨fun pins s σ H Dn I w => ?_⟩
  rw [exec_Assign_Name_used _ _ _ _ hsw]
  refine wpAny_bind (wpAny_standAt (wpAny_bind ?_))
  show wpAny _ X.A (do let _ ← comprehension (.DictComp kx vx [⟨tg, iter, ifs, 0⟩] scope pos) scope X.env (firstIterPos [⟨tg, iter, ifs, 0⟩] pos) newDict false (eval iter X.env) (some (assign (.Name y py) X.env))) _ _ s
  have w' : tDc wi g tt tk tv (own.map (·.2)) σ H (fun x H1 => L2.gName i x σ H1 Dn.nx) := w
  refine wpAny_bind (thn (dc_core (Qf := fun _ s' => SP X pins Dn .next s') hc hN I hi ok hg ht hk he hs w' fun L C s' m H' I' q hn f => ?_) fun _ s' hq => wpAny_pure (wpAny_pure hq))
  show wpAny _ _ (assign (.Name y py) X.env (.ref L)) _ _ _
  refine wpAny_assign_Name (store_ok2 (v := V.ref L) I' hN hy (.inl hyl) rfl (fun s2 I2 ⟨a, sb, ha⟩ => ?_) (.inr hyl))
  obtain ⟨f0, f1, f2, f3, f4, f5⟩ := f
  have neq : C ≠ a := by
    rcases ha with z | z
    · exact z ▸ f1
    · exact fun e => f4 y a z e.symm
  exact ⟨m, hn.sameBut sb neq, fun h3 sb3 => ⟨_, H', I2.turned (t' := s2.toks) (fun b o hb e => (sb3.2 b hb).trans e) f0 f1 f3 f4 f5, q⟩⟩
theorem lift_asgN {W : WX} {K : PySem.W.Frag} {te : DE} {Dn : Ends} {σ : L2.St} {H : Hp} : liftS K W (dAsg te (DL.gName i)) Dn σ H → liftE K te σ H (fun x H1 => L2.gName i x σ H1 Dn.nx) := by
  rintro ⟨A, ρ, S, E, n, s, h, k1, k2, k3, k4⟩
  exact ⟨A, ρ, S, _, n, s, h, fun v H' A' d S' e s' r p => k1 _ H' A' _ S' e ((n.ext e).set i r) s' p⟩
theorem ds_setDc {W : WX} (i : Nat) {w : DIt} {g : DG} {tt : DT} {tk tv : DE} {ws : List Nat} (hws : ∀ j ∈ ws, j ∈ own.map (·.2)) (hc : X.calm = true) (hN : X.N.Nodup) (hi : PI X tg iter (liftI X.K w)) (ok : BlkOk X.N X.env.scope scope own)
    (hg : ∀ (s : Shared) (H : Hp) (C : Addr) (cl : List (Str × Addr)) (fp : List Addr), PG (X.blk s H scope (compEnvC scope cl C X.env) fp) tg (liftW X.K ws g)) (ht : ∀ (s : Shared) (H : Hp) (C : Addr) (cl : List (Str × Addr)) (fp : List Addr), PTs (X.blk s H scope (compEnvC scope cl C X.env) fp) ifs (liftT X.K tt))
    (hk : ∀ (s : Shared) (H : Hp) (C : Addr) (cl : List (Str × Addr)) (fp : List Addr), PE (X.blk s H scope (compEnvC scope cl C X.env) fp) kx (liftE X.K tk)) (he : ∀ (s : Shared) (H : Hp) (C : Addr) (cl : List (Str × Addr)) (fp : List Addr), PE (X.blk s H scope (compEnvC scope cl C X.env) fp) vx (liftE X.K tv))
    (hy : X.N[i]? = some y := by rfl) (hyl : X.env.scope.names.lookup y = some .local := by rfl)
    (hsw : swapsWith (.DictComp kx vx [⟨tg, iter, ifs, 0⟩] scope pos) (some (.Name y py)) spos.line X.env = pure true := by rfl) (hs : ∀ x, foldedSetIterable iter X.env x = pure x := by intro _; rfl) :
    PS X (.Assign [.Name y py] (.DictComp kx vx [⟨tg, iter, ifs, 0⟩] scope pos) spos) (liftS X.K W (dAsg (dDc w g tt tk tv (own.map (·.2))) (DL.gName i))) :=
  ps_mono (ps_setDc hc hN hy hyl hsw hi ok hg ht hk he hs) fun Dn σ H h => lift_dc hws (Q := fun x H1 => L2.gName i x σ H1 Dn.nx) (lift_asgN h)
theorem ds_setLc {W : WX} (i : Nat) {w : DIt} {g : DG} {tt : DT} {te : DE} {ws : List Nat} (hws : ∀ j ∈ ws, j ∈ own.map (·.2)) (hc : X.calm = true) (hN : X.N.Nodup) (hi : PI X tg iter (liftI X.K w)) (ok : BlkOk X.N X.env.scope scope own)
    (hg : ∀ (s : Shared) (H : Hp) (C : Addr) (cl : List (Str × Addr)) (fp : List Addr), PG (X.blk s H scope (compEnvC scope cl C X.env) fp) tg (liftW X.K ws g)) (ht : ∀ (s : Shared) (H : Hp) (C : Addr) (cl : List (Str × Addr)) (fp : List Addr), PTs (X.blk s H scope (compEnvC scope cl C X.env) fp) ifs (liftT X.K tt))
    (he : ∀ (s : Shared) (H : Hp) (C : Addr) (cl : List (Str × Addr)) (fp : List Addr), PE (X.blk s H scope (compEnvC scope cl C X.env) fp) elt (liftE X.K te))
    (hy : X.N[i]? = some y := by rfl) (hyl : X.env.scope.names.lookup y = some .local := by rfl)
    (hsw : swapsWith (.ListComp elt [⟨tg, iter, ifs, 0⟩] scope pos) (some (.Name y py)) spos.line X.env = pure true := by rfl) (hs : ∀ x, foldedSetIterable iter X.env x = pure x := by intro _; rfl) :
    PS X (.Assign [.Name y py] (.ListComp elt [⟨tg, iter, ifs, 0⟩] scope pos) spos) (liftS X.K W (dAsg (dLc w g tt te (own.map (·.2))) (DL.gName i))) :=
  ps_mono (ps_setLc hc hN hy hyl hsw hi ok hg ht he hs) fun Dn σ H h => lift_lc hws (Q := fun x H1 => L2.gName i x σ H1 Dn.nx) (lift_asgN h)
end
end DL
/-! ZK: exceptions over data: own classes whose __init__ keeps `what`, raise, calls that may raise, try. -/
namespace DL
open PySem PySem.Spec PyProof.Rows L2
variable [HasT]

/-! ### self.what = what -/
def spInit (K : PySem.W.Frag) : Sp := fun vs H Q _ => ∃ (a C : Addr) (y : V), vs = [.ref a, y] ∧ OexC K C ∧ PySem.W.findIn K (.ref C) "what" = some none ∧ H a = some (exo a C none) ∧
  ∀ dx, H dx = none → dx ≠ a → Q .non (upd (upd H dx (exd dx [(("what" : Str), y)])) a (exo a C (some dx)))
theorem ok_init {P : Program} {w : World} {K : PySem.W.Frag} {mg : Str → Option Value} {base : Heap} {qual x : Str} {st : Stmt} {f : Addr} {fd : FuncData} (F : Fun K x qual st f fd) (Sc : FnScope ["self", "what"] ["self", "what"] (defScope st))
    (hb : ∀ (cdv : Value) (A : Around) (outer : List Env) (s : Shared) (H : Hp) (E : XK), PSs (cxOf CX0 P w K mg base ["self", "what"] qual (defScope st) f cdv A outer s H E).nox (defBody st) (tOst K "what" (tVar 0) (tVar 1))) : FnOk P w K mg base CX0 1 f fd ["self", "what"] (spInit K) := by
  refine F.ok Sc (fun vs H Q E ⟨a, C, y, h, _⟩ => by rw [h]; rfl) (fun cdv A outer s H vs Q E hr ⟨a, C, y, h, T, hno, ha, k⟩ => ⟨_, hb cdv A outer s H E, ?_⟩)
  subst h
  refine ⟨_, rfl, _, rfl, a, C, rfl, T, hno, .inl ⟨ha, fun dx h1 h2 => k dx h1 h2⟩⟩
/-- raise C(e) over data -/
def dRaise (C : Addr) (te : DE) : DS := fun E ρ S => te ρ S fun w S' => E.ex (.ref C) w ρ S'
theorem ds_raise {X : Cx} {W : WX} {CX : CXT} {C fI : Addr} {fd : FuncData} {x : Str} {e : Expr} {te : DE} {p pos pos2 : Pos} (hc : X.calm = true) (T : OexC X.K C) (hno : PySem.W.findIn X.K (.ref C) "what" = some none)
    (iC : PySem.W.findIn X.K (.ref C) "__init__" = some (some (.ref fI))) (tI : PySem.W.typeIn X.K (.ref fI) = some (.type "function")) (F1 : FnOk X.prog X.w X.K X.mg X.base CX0 1 fI fd ["self", "what"] (spInit X.K)) (hr : Room 2 X.A)
    (hb : L2.Binds X.K fd ["self", "what"] []) (tk : Takes X W) (hg : Gl X x) (hm : X.mg x = some (.ref C)) (he : PE X e (liftE X.K te)) (hdb : (x == ("__debug__" : Str)) = false := by decide)
    (hs : starEach (e :: []) X.env = (false, eval e X.env) :: starEach [] X.env := by rfl) (hpl : (backTo pos (starEach [] X.env)).any (·.1) = false := by rfl) :
    PS X (.Raise (some (.Call (.Name x p) [e] [] pos)) none pos2) (liftS X.K W (dRaise C te)) := by
  refine ps_mono (ps_raise hc tk (pmk_oex T iC tI F1 hr hb .nil pass0 hg hm (pa_cons he pa_nil hs) hdb hs hpl)) fun Dn σ H ⟨A, ρ, S, E, n, s, h, k1, k2, k3, k4⟩ => ?_
  refine ⟨A, ρ, S, _, n, s, h, fun v H1 A1 d S1 e1 s1 r1 p1 => ⟨(by show 1 ≤ 1000; omega), fun a ha => ⟨a, C, v, rfl, T, hno, upd_same, fun dx h1 h2 => ⟨rfl, dx, [(("what" : Str), v)], upd_same, ?_, ?_, ?_⟩⟩⟩⟩
  · rw [upd_ne h2, upd_same]
  · rwa [upd_ne h2] at h1
  · have hd : H1 dx = none := by rwa [upd_ne h2] at h1
    have same : ∀ b o, H1 b = some o → upd (del (upd (upd (upd H1 a (exo a C none)) dx (exd dx [(("what" : Str), v)])) a (exo a C (some dx))) a) dx (.xd [(("what" : Str), v)]) b = some o := fun b o q => by
      have nb : b ≠ dx := ne_of_none q hd
      have na : b ≠ a := ne_of_none q ha
      rw [upd_ne nb, del_ne na, upd_ne na, upd_ne nb, upd_ne na]
      exact q
    have e2 : Ext H1 A1 _ A1 := Ext.same same
    exact k4.ex (.ref C) dx σ _ A1 d v ρ S1 (e1.trans e2) ((n.ext e1).ext e2) (s1.same same) upd_same (r1.ext e2) p1

/-! ### readings that may raise -/
abbrev DEX := DEnv → Store → DK → DX → Prop
abbrev DAX := DEnv → Store → (List D → Store → Prop) → DX → Prop
def liftEX (K : PySem.W.Frag) (W : WX) (t : DEX) : TE := fun σ H Q => ∃ A ρ S post ex, RelN K H A ρ σ ∧ RelS K H A S ∧ t ρ S post ex ∧ KontE K H A post Q ∧ KontX K W H A ex
def liftAX (K : PySem.W.Frag) (W : WX) (t : DAX) : TA := fun σ H Q => ∃ A ρ S post ex, RelN K H A ρ σ ∧ RelS K H A S ∧ t ρ S post ex ∧ (∀ vs H' A' ds S', Ext H A H' A' → RelS K H' A' S' → RelDs K H' A' ds vs → post ds S' → Q vs H') ∧ KontX K W H A ex
/-- a def's promise, where it may raise -/
abbrev DSpX := List D → Store → DK → (Value → D → Store → Prop) → Prop
def XQ (E : XK) (c : Value) : VK := fun u H' => ∀ d, H' d = some (.xd [(("what" : Str), u)]) → E c (some d) H'
def spLX (K : PySem.W.Frag) (sp : DSpX) : Sp := fun vs H Q E => ∃ A ds S post ex, RelS K H A S ∧ RelDs K H A ds vs ∧ sp ds S post ex ∧ KontE K H A post Q ∧ ∀ c, KontE K H A (ex c) (XQ E c)
def callDX (sp : DSpX) (ds : List D) (S : Store) (post : DK) (ex : Value → D → Store → Prop) : Prop := ∃ (m : List Nat) (ds' : List D) (Sc : Store), m.Nodup ∧ rens (rn m S.length) ds' = ds ∧ Sc.length = m.length ∧
  (∀ (i n : Nat) (e : Ent), m[i]? = some n → Sc[i]? = some e → S[n]? = some (renE (rn m S.length) e)) ∧
  sp ds' Sc (fun d S' => post (ren (rn m S.length) d) (setAll m ((S'.take m.length).map (renE (rn m S.length))) S ++ (S'.drop m.length).map (renE (rn m S.length))))
    fun c d S' => ex c (ren (rn m S.length) d) (setAll m ((S'.take m.length).map (renE (rn m S.length))) S ++ (S'.drop m.length).map (renE (rn m S.length)))
theorem lift_callDX {K : PySem.W.Frag} {sp : DSpX} {H : Hp} {A : List Addr} {S : Store} {ds : List D} {vs : List V} {post : DK} {ex : Value → D → Store → Prop} {Q : VK} {E : XK} (s : RelS K H A S) (r : RelDs K H A ds vs) (h : callDX sp ds S post ex) (k : KontE K H A post Q)
    (kx : ∀ c, KontE K H A (ex c) (XQ E c)) : spLX K sp vs H Q E := by
  obtain ⟨m, ds', Sc, hm, hds, hl, hsub, hsp⟩ := h
  obtain ⟨Ac, sC, rC, kk⟩ := callD_inv s r hm hds hl hsub
  exact ⟨Ac, ds', Sc, _, _, sC, rC, hsp, kk _ _ k, fun c => kk _ _ (kx c)⟩
def dCallX (sp : DSpX) (t : DAX) : DEX := fun ρ S post ex => t ρ S (fun ds S1 => callDX sp ds S1 post fun c w S' => ex c w ρ S') ex
section
variable {X : Cx} {W : WX} {k : Nat} {fa : Addr} {fd : FuncData} {ps : List Str} {sp : DSpX} {x : Str} {p pos : Pos} {e : Expr} {es : List Expr} {t : DAX}
theorem runGS {CX : CXT} {sp : Sp} {E : L2.St → XK} {pins : List (Addr × Obj)} {σ : L2.St} {H : Hp} {s : Shared} {Q : VK} {us : List Value} {vs : List V} (F : FnG X.prog X.w X.K X.mg X.base CX k fa fd ps sp) (hg : X.A.guards = some []) (hr : Room k X.A) (hb : L2.Binds X.K fd ps [])
    (hx : ∀ σ, PassesAt CX X σ (E σ)) (I : Inv X pins σ H s) (rv : Vals vs us) (h : sp vs H Q (E σ)) : wpAny (model X.prog X.w) X.A (call (.ref fa) us) (EP X pins σ Q) X.xe s := by
  have hl : (us ++ []).length = ps.length := by
    rw [List.append_nil, ← rv.length]
    exact F.len _ _ _ _ h
  have bt := hb s us I.kIn hl
  rw [List.append_nil] at bt
  refine wpAny_call (codeAny_mono (F.run X.A X.stack s H ⟨us, []⟩ us vs Q (E σ) hg hr I.env0 bt rv h) fun r s' hq => ?_)
  cases r with
  | error ex => exact hx σ pins H s ex s' I hq
  | ok fl =>
    cases fl with
    | ret u => exact I.after hq
    | next => exact hq.elim
    | brk => exact hq.elim
    | cont => exact hq.elim
/-- a call of a def that may raise -/
theorem de_callX (F : FnG X.prog X.w X.K X.mg X.base (L2.CX X.prog X.w) k fa fd ps (spLX X.K sp)) (hgd : X.A.guards = some []) (hr : Room k X.A) (hg : Gl X x) (hm : X.mg x = some (.ref fa)) (hk : PySem.W.keepIn X.K (.ref fa) = true) (hb : L2.Binds X.K fd ps []) (tk : Takes X W)
    (ha : PA X (e :: es) (liftAX X.K W t)) (hdb : (x == ("__debug__" : Str)) = false := by decide) (he : starEach (e :: es) X.env = (false, eval e X.env) :: starEach es X.env := by rfl) (hpl : (backTo pos (starEach es X.env)).any (·.1) = false := by rfl) :
    PE X (.Call (.Name x p) (e :: es) [] pos) (liftEX X.K W (dCallX sp t)) := by
  refine ⟨fun pins s σ H Q I ⟨A, ρ, S, post, ex, n, sS, h, kk, kx⟩ => wpAny_Call_Name_kw (ld_glob I hg hm ?_ hdb)⟩
  refine PySem.W.callWith_K (h₀ := X.base) I.ok.mod.kin hk (thn (ha.run pos pins s σ H (fun vs H1 => spLX X.K sp vs H1 Q (WE W σ)) I ⟨A, ρ, S, _, ex, n, sS, h, fun vs H' A' ds S' e' s' r p1 => ?_, kx⟩) fun us s1 ⟨vs, H1, I1, r, q⟩ => ⟨I1.kIn, ?_⟩) he hpl
  · exact lift_callDX s' r p1 (kk.go e') fun c u H2 A2 w S2 e2 s2 r2 p2 d hd => kx c d σ H2 A2 w u ρ S2 (e'.trans e2) ((n.ext e').ext e2) s2 hd r2 p2
  · exact runGS (E := fun σ => WE W σ) F hgd hr hb (fun σ => passAt tk σ) I1 r q
/-- the same, where it is known not to raise -/
theorem passesE0 {P : Program} {w : World} {σ : L2.St} : PassesAt (L2.CX X.prog X.w) X σ E0 := fun _ _ _ _ _ _ ⟨_, _, _, _, _, _, _, _, _, _, _, _, h⟩ => h.elim
def noX (sp : DSpX) : DSp := fun ds S post => sp ds S post fun _ _ _ => False
theorem de_call0 {t : DA} (F : FnG X.prog X.w X.K X.mg X.base (L2.CX X.prog X.w) k fa fd ps (spLX X.K sp)) (hgd : X.A.guards = some []) (hr : Room k X.A) (hg : Gl X x) (hm : X.mg x = some (.ref fa)) (hk : PySem.W.keepIn X.K (.ref fa) = true) (hb : L2.Binds X.K fd ps [])
    (ha : PA X (e :: es) (liftA X.K t)) (hdb : (x == ("__debug__" : Str)) = false := by decide) (he : starEach (e :: es) X.env = (false, eval e X.env) :: starEach es X.env := by rfl) (hpl : (backTo pos (starEach es X.env)).any (·.1) = false := by rfl) :
    PE X (.Call (.Name x p) (e :: es) [] pos) (liftE X.K (dCall (noX sp) t)) := by
  refine ⟨fun pins s σ H Q I ⟨A, ρ, S, post, n, sS, h, kk⟩ => wpAny_Call_Name_kw (ld_glob I hg hm ?_ hdb)⟩
  refine PySem.W.callWith_K (h₀ := X.base) I.ok.mod.kin hk (thn (ha.run pos pins s σ H (fun vs H1 => spLX X.K sp vs H1 Q E0) I ⟨A, ρ, S, _, n, sS, h, fun vs H' A' ds S' e' s' r p1 => ?_⟩) fun us s1 ⟨vs, H1, I1, r, q⟩ => ⟨I1.kIn, ?_⟩) he hpl
  · obtain ⟨m, ds', Sc, hm, hds, hl, hsub, hsp⟩ := p1
    obtain ⟨Ac, sC, rC, k2⟩ := callD_inv s' r hm hds hl hsub
    exact ⟨Ac, ds', Sc, _, _, sC, rC, hsp, k2 _ _ (kk.go e'), fun c u H2 A2 w S2 e2 s2 r2 p2 => p2.elim⟩
  · exact runGS (E := fun _ => E0) F hgd hr hb (fun σ => passesE0 (P := X.prog) (w := X.w)) I1 r q
end

/-! ### what cannot raise, within what may -/
def dToX (t : DE) : DEX := fun ρ S post _ => t ρ S post
def dToXs (t : DA) : DAX := fun ρ S post _ => t ρ S post
def dConsX (te : DEX) (t : DAX) : DAX := fun ρ S post ex => te ρ S (fun d S1 => t ρ S1 (fun ds S2 => post (d :: ds) S2) ex) ex
def dRetX (te : DEX) : DS := fun E ρ S => te ρ S E.rt E.ex
def dDropX (te : DEX) : DS := fun E ρ S => te ρ S (fun _ S1 => E.nx ρ S1) E.ex
def dAsgX (te : DEX) (g : DG) : DS := fun E ρ S => te ρ S (fun d S1 => g d ρ S1 E.nx) E.ex
section
variable {X : Cx} {W : WX} {e : Expr} {es : List Expr} {te : DEX} {t : DAX} {pos : Pos}
theorem de_toX {u : DE} (h : PE X e (liftE X.K u)) : PE X e (liftEX X.K W (dToX u)) := pe_mono h fun σ H Q ⟨A, ρ, S, post, ex, n, s, p, k, kx⟩ => ⟨A, ρ, S, post, n, s, p, k⟩
theorem da_toX {u : DA} (h : PA X es (liftA X.K u)) : PA X es (liftAX X.K W (dToXs u)) := pa_mono h fun σ H Q ⟨A, ρ, S, post, ex, n, s, p, k, kx⟩ => ⟨A, ρ, S, post, n, s, p, k⟩
theorem da_consX (ha : PE X e (liftEX X.K W te)) (hr : PA X es (liftAX X.K W t)) (hs : starEach (e :: es) X.env = (false, eval e X.env) :: starEach es X.env := by rfl) : PA X (e :: es) (liftAX X.K W (dConsX te t)) :=
  pa_mono (pa_cons ha hr hs) fun σ H Q ⟨A, ρ, S, post, ex, n, s, p, k, kx⟩ => ⟨A, ρ, S, _, ex, n, s, p, fun v1 H1 A1 d1 S1 e1 s1 r1 p1 =>
    ⟨A1, ρ, S1, _, ex, n.ext e1, s1, p1, fun vs H2 A2 ds S2 e2 s2 r2 p2 => k (v1 :: vs) H2 A2 (d1 :: ds) S2 (e1.trans e2) s2 ⟨v1, vs, rfl, r1.ext e2, r2⟩ p2, kx.go e1⟩, kx⟩
theorem ds_retX (he : PE X e (liftEX X.K W te)) : PS X (.Return (some e) pos) (liftS X.K W (dRetX te)) :=
  ps_mono (ps_ret he) fun Dn σ H ⟨A, ρ, S, E, n, s, h, k1, k2, k3, k4⟩ => ⟨A, ρ, S, E.rt, E.ex, n, s, h, k2, k4.ex⟩
theorem ds_exprX (he : PE X e (liftEX X.K W te)) (hs : swapsWith e none pos.line X.env = pure false := by rfl) : PS X (.Expr e pos) (liftS X.K W (dDropX te)) :=
  ps_mono (ps_expr he hs) fun Dn σ H ⟨A, ρ, S, E, n, s, h, k1, k2, k3, k4⟩ => ⟨A, ρ, S, _, E.ex, n, s, h, fun v H' A' d S' e s' r p => k1 σ H' A' ρ S' e (n.ext e) s' p, k4.ex⟩
theorem lift_asgX {K : PySem.W.Frag} {g : DG} {ws : List Nat} {Dn : Ends} {σ : L2.St} {H : Hp} : liftS K W (dAsgX te g) Dn σ H → tAsg (liftEX K W te) (liftW K ws g) Dn σ H := by
  rintro ⟨A, ρ, S, E, n, s, h, k1, k2, k3, k4⟩
  exact ⟨A, ρ, S, _, E.ex, n, s, h, fun v H' A' d S' e s' r p => ⟨A', ρ, S', d, E.nx, n.ext e, s', r, p, fun σ2 H2 A2 ρ2 S2 e2 n2 s2 _ p2 => k1 σ2 H2 A2 ρ2 S2 (e.trans e2) n2 s2 p2⟩, k4.ex⟩
theorem ds_asgX {tg : Expr} {g : DG} {ws : List Nat} (he : PE X e (liftEX X.K W te)) (hg : PG X tg (liftW X.K ws g)) (hs : swapsWithSole [tg] e pos.line X.env = pure false := by rfl) (hw : swappedStores [tg] e X.env = pure none := by rfl)
    (h1 : (assignEach [tg] X.env).map (·.2) = [assign tg X.env] := by rfl) : PS X (.Assign [tg] e pos) (liftS X.K W (dAsgX te g)) :=
  ps_mono (ps_asg he hg hs hw h1) fun _ _ _ h => lift_asgX h
theorem ds_setX (i : Nat) {x : Str} {pos' : Pos} (hN : X.N.Nodup) (he : PE X e (liftEX X.K W te)) (hi : X.N[i]? = some x := by rfl) (hx : Loc X.env.scope x := by first | exact Or.inl rfl | exact Or.inr rfl) (hs : swapsWith e (some (.Name x pos')) pos.line X.env = pure false := by rfl)
    (hf : X.fn x = true ∨ X.env.scope.names.lookup x = some .local := by first | exact .inl rfl | exact .inr rfl) : PS X (.Assign [.Name x pos'] e pos) (liftS X.K W (dAsgX te (gName i))) :=
  ps_mono (ps_set hN hi hx he hs hf) fun Dn σ H ⟨A, ρ, S, E, n, s, h, k1, k2, k3, k4⟩ =>
    ⟨A, ρ, S, _, E.ex, n, s, h, fun v H' A' d S' e s' r p => k1 _ H' A' _ S' e ((n.ext e).set i r) s' p, k4.ex⟩
end

/-! ### a def that may raise -/
def endsX (S : Store) (post : DK) (ex : Value → D → Store → Prop) : DEnds := ⟨fun _ S' => fnEnd S post .non S', fnEnd S post, fun _ _ => False, fun _ _ => False, fun c w _ S' => fnEnd S (ex c) w S'⟩
theorem fn_okX {P : Program} {w : World} {K : PySem.W.Frag} {mg : Str → Option Value} {base : Heap} {x qual : Str} {st : Stmt} {f : Addr} {fd : FuncData} {N ps : List Str} {k : Nat} {sp : DSpX} {tb : DS} (F : Fun K x qual st f fd) (Sc : FnScope N ps (defScope st))
    (hl : ∀ ds S post ex, sp ds S post ex → ds.length = ps.length)
    (hb : ∀ (cdv : Value) (A : Around) (outer : List Env) (s : Shared) (H : Hp) (E : XK), (A.deeper (envOfC qual (defScope st) s.heap.objs.size f cdv)).guards = some [] → Room k (A.deeper (envOfC qual (defScope st) s.heap.objs.size f cdv)) →
      PSs (cxOf (L2.CX P w) P w K mg base N qual (defScope st) f cdv A outer s H E) (defBody st) (liftS K (fun cls d _ H' => E cls d H') tb))
    (hd : ∀ ds S post ex, sp ds S post ex → tb (endsX S post ex) (startD N ds) S) : FnG P w K mg base (L2.CX P w) (k + 1) f fd ps (spLX K sp) := by
  refine fnG_of F Sc (fun vs H Q E ⟨A, ds, S, post, ex, s, r, h, kk, kx⟩ => by rw [r.len]; exact hl ds S post ex h) (fun cdv A0 outer s0 H vs Q E hgd hr ⟨A, ds, S, post, ex, s, r, h, kk, kx⟩ => ⟨_, hb cdv A0 outer s0 H E hgd hr, ?_⟩)
  have fin := fnFin s kk
  exact ⟨A, startD N ds, S, endsX S post ex, RelN.start r, s, hd ds S post ex h, fun σ' H' A' ρ' S' e n' s' p => fin .non H' A' .non S' e s' rfl p, fin, fun _ _ _ _ _ _ _ _ p => p.elim,
    ⟨fun _ _ _ _ _ _ _ _ p => p.elim, fun c d σ' H' A' w u ρ' S' e n' s' hd' r' p => fnFin s (kx c) u H' A' w S' e s' r' p d hd'⟩⟩

/-! ### try -/
/-- try: tb; except C: sd -/
def dTryOnly (exm : Value → Option Bool) (tb : DS) (sd : Addr → Value → Option Addr → DS) : DS := fun E ρ S =>
  tb { E with ex := fun cls w ρ' S' => ∃ b, exm cls = some b ∧ (b = true → ∀ a d, sd a cls d E ρ' S') ∧ (b = false → E.ex cls w ρ' S') } ρ S
/-- try: tb; except C as x: sd (x in slot i) -/
def dTryAs (exm : Value → Option Bool) (i : Nat) (tb : DS) (sd : Addr → Value → Option Addr → DS) : DS := fun E ρ S =>
  tb { E with ex := fun cls w ρ' S' => ∃ b, exm cls = some b ∧ (b = true → ∀ a d, sd a cls (some d) { E with nx := fun ρ S => E.nx (ρ.set i none) S, bk := fun ρ S => E.bk (ρ.set i none) S, ct := fun ρ S => E.ct (ρ.set i none) S } (ρ'.set i (some (.exc a d cls w))) S') ∧
    (b = false → E.ex cls w ρ' S') } ρ S
theorem RelN.unset {K : PySem.W.Frag} {H : Hp} {A : List Addr} {ρ : DEnv} {σ : L2.St} (i : Nat) (n : RelN K H A ρ σ) : RelN K H A (ρ.set i none) (σ.set i none) := by
  refine ⟨by rw [List.length_set, List.length_set]; exact n.len, fun j d' h => ?_⟩
  by_cases hij : i = j
  · subst hij
    have hl : i < ρ.length := by
      have q := (List.getElem?_eq_some_iff.mp h).1
      rwa [List.length_set] at q
    rw [List.getElem?_set_self hl] at h
    cases h
  · rw [List.getElem?_set_ne hij] at h
    obtain ⟨u, h1, h2⟩ := n.at_ j d' h
    exact ⟨u, by rw [List.getElem?_set_ne hij]; exact h1, h2⟩
section
variable {X : Cx} {W : WX} {x n : Str} {c : Value} {i : Nat} {body suite : List Stmt} {b₀ : Stmt} {np pos pos' : Pos} {tb : DS} {sd : Addr → Value → Option Addr → DS}
theorem ds_tryOnly (hs : X.stack = X.env :: X.outer) (hf : X.env.frame = some X.env.locals) (hc : Names X x c) (tk : Takes X W)
    (hb : ∀ (W : WX) (pn : List (Addr × Obj)) (xe : Value → Shared → Prop), Takes (X.tr pn xe) W → PassesOwn (model X.prog X.w) X.A X.env xe → PSs (X.tr pn xe) body (liftS X.K W tb))
    (hsu : ∀ (a : Addr) (oe : Obj) (cls : Value) (d : Option Addr) (pn : List (Addr × Obj)), Zc cls d oe → (∃ vs, oe.data = .fields vs) → PSs (X.suite a ((a, oe) :: pn)) (b₀ :: suite) (liftS X.K W (sd a cls d))) :
    PS X (.Try body [.ExceptHandler (some (.Name x np)) none (b₀ :: suite) pos'] [] [] pos) (liftS X.K W (dTryOnly (fun cls => PySem.W.exmOne X.K cls c) tb sd)) := by
  refine ps_mono (ps_try_only hs hf hc tk hb hsu) fun Dn σ H ⟨A, ρ, S, E, n, s, h, k1, k2, k3, k4⟩ => ?_
  refine ⟨A, ρ, S, _, n, s, h, k1, k2, k3, ⟨k4.ct, fun cls d σ' H' A' w u ρ' S' e n' s' hd r' ⟨b, hb, ht, hf⟩ => ⟨b, hb, fun q a ha => ?_, fun q => k4.ex cls d σ' H' A' w u ρ' S' e n' s' hd r' (hf q)⟩⟩⟩
  exact ⟨A', ρ', S', E, n', s', ht q a (some d), k1.go e, k2.go e, k3.go e, k4.go e⟩
theorem ds_tryAs (hs : X.stack = X.env :: X.outer) (hf : X.env.frame = some X.env.locals) (hN : X.N.Nodup) (hi : X.N[i]? = some n) (hln : X.env.kindOf n = some .local) (hc : Names X x c) (tk : Takes X W)
    (hb : ∀ (W : WX) (pn : List (Addr × Obj)) (xe : Value → Shared → Prop), Takes (X.tr pn xe) W → PassesOwn (model X.prog X.w) X.A X.env xe → PSs (X.tr pn xe) body (liftS X.K W tb))
    (hsu : ∀ (a : Addr) (oe : Obj) (cls : Value) (d : Option Addr) (pn : List (Addr × Obj)), Zc cls d oe → (∃ vs, oe.data = .fields vs) → PSs (X.suite a ((a, oe) :: pn)) (b₀ :: suite) (liftS X.K W (sd a cls d))) :
    PS X (.Try body [.ExceptHandler (some (.Name x np)) (some n) (b₀ :: suite) pos'] [] [] pos) (liftS X.K W (dTryAs (fun cls => PySem.W.exmOne X.K cls c) i tb sd)) := by
  refine ps_mono (ps_try_as hs hf hN hi hln hc tk hb hsu) fun Dn σ H ⟨A, ρ, S, E, n, s, h, k1, k2, k3, k4⟩ => ?_
  refine ⟨A, ρ, S, _, n, s, h, k1, k2, k3, ⟨k4.ct, fun cls d σ' H' A' w u ρ' S' e n' s' hd r' ⟨b, hb, ht, hf⟩ => ⟨b, hb, fun q a ha => ?_, fun q => k4.ex cls d σ' H' A' w u ρ' S' e n' s' hd r' (hf q)⟩⟩⟩
  refine ⟨A', _, S', _, n'.set i (show RelD X.K H' A' (.exc a d cls w) (.ref a) from ⟨rfl, u, hd, r'⟩), s', ht q a d, fun σ2 H2 A2 ρ2 S2 e2 n2 s2 p2 => k1 _ H2 A2 _ S2 (e.trans e2) (n2.unset i) s2 p2, k2.go e, fun σ2 H2 A2 ρ2 S2 e2 n2 s2 p2 => k3 _ H2 A2 _ S2 (e.trans e2) (n2.unset i) s2 p2,
    ⟨fun σ2 H2 A2 ρ2 S2 e2 n2 s2 p2 => k4.ct _ H2 A2 _ S2 (e.trans e2) (n2.unset i) s2 p2, k4.ex.go e⟩⟩
/-- x.what of the exception that the suite holds, of any class that is ok -/
theorem pe_ex {X : Cx} {e : Expr} {ι : Type} {p : ι → Prop} {t : ι → TE} (h : ∀ j, p j → PE X e (t j)) : PE X e (fun σ H Q => ∃ j, p j ∧ t j σ H Q) := ⟨fun pins s σ H Q I ⟨j, hp, w⟩ => (h j hp).run pins s σ H Q I w⟩
def dWhat (okC : Addr → Prop) (a : Addr) (cls : Value) (d : Option Addr) (te : DE) : DE := fun ρ S post => te ρ S fun o S1 => ∃ (dd : Addr) (w : D), o = .exc a dd cls w ∧ d = some dd ∧ post w S1
theorem de_what {okC : Addr → Prop} {a : Addr} {oe : Obj} {cls : Value} {d : Option Addr} {pn : List (Addr × Obj)} {e : Expr} {te : DE} (T : ∀ C, okC C → XfC X.K C ∧ PySem.W.findIn X.K (.ref C) "what" = some none) (hz : Zc cls d oe) (hf : ∃ vs, oe.data = .fields vs)
    (he : PE (X.suite a ((a, oe) :: pn)) e (liftE X.K te)) (hb : attributeBase e "what" X.env (eval e X.env) = eval e X.env := by rfl) :
    PE (X.suite a ((a, oe) :: pn)) (.Attribute e "what" pos) (liftE X.K fun ρ S post => (∃ C, cls = .ref C ∧ okC C) ∧ dWhat okC a cls d te ρ S post) := by
  refine pe_mono (pe_ex (p := okC) (t := fun C => tXf a cls d C "what" (liftE X.K te)) fun C hC => pe_xf (T C hC).1 (T C hC).2 hz hf he hb) fun σ H Q ⟨A, ρ, S, post, n, s, ⟨⟨C, hc, hC⟩, h⟩, k⟩ =>
    ⟨C, hC, A, ρ, S, _, n, s, h, fun v H1 A1 o S1 e1 s1 r1 ⟨dd, w, ho, hd, p⟩ => ?_⟩
  subst ho
  obtain ⟨hv, u, hu, ru⟩ := r1
  exact ⟨hv, hc, dd, _, u, hd, hu, by simp [List.lookup], k u H1 A1 w S1 e1 s1 ru p⟩
end
end DL
/-! ZL: try with several handlers, with names or without. -/
namespace DL
open PySem PySem.Spec PyProof.Rows L2
variable [HasT]

/-- a handler: its class, the slot of its name, its suite -/
structure Hdl where
  c : Value
  i : Option Nat
  ts : Addr → Value → Option Addr → TS
def offSlot (i : Option Nat) (σ : L2.St) : L2.St := match i with | none => σ | some i => σ.set i none
def onSlot (i : Option Nat) (a : Addr) (σ : L2.St) : L2.St := match i with | none => σ | some i => σ.set i (some (.ref a))
def offEnds (i : Option Nat) (Dn : Ends) : Ends := { nx := fun σ H => Dn.nx (offSlot i σ) H, rt := Dn.rt, bk := fun σ H => Dn.bk (offSlot i σ) H, ct := fun σ H => Dn.ct (offSlot i σ) H }
def wHdl (K : PySem.W.Frag) (Wout : WX) (Dn : Ends) : List Hdl → WX
  | [] => Wout
  | h :: r => fun cls d σ H => ∃ b, PySem.W.exmOne K cls h.c = some b ∧ (b = true → ∀ a, H a = none → h.ts a cls d (offEnds h.i Dn) (onSlot h.i a σ) H) ∧ (b = false → wHdl K Wout Dn r cls d σ H)
inductive NamedOk (X : Cx) : Option Str → Option Nat → Prop
  | no : NamedOk X none none
  | yes {n : Str} {i : Nat} (hN : X.N.Nodup) (hi : X.N[i]? = some n) (hln : X.env.kindOf n = some .local) : NamedOk X (some n) (some i)
inductive HdlsOk (X : Cx) : List ExceptHandler → List Hdl → Prop
  | nil : HdlsOk X [] []
  | cons {x : Str} {n : Option Str} {h : Hdl} {b₀ : Stmt} {suite : List Stmt} {np pos' : Pos} {hds : List ExceptHandler} {l : List Hdl} (hc : Names X x h.c) (hn : NamedOk X n h.i)
      (hsu : ∀ (a : Addr) (oe : Obj) (cls : Value) (d : Option Addr) (pn : List (Addr × Obj)), Zc cls d oe → (∃ vs, oe.data = .fields vs) → PSs (X.suite a ((a, oe) :: pn)) (b₀ :: suite) (h.ts a cls d)) (r : HdlsOk X hds l) :
      HdlsOk X (.ExceptHandler (some (.Name x np)) n (b₀ :: suite) pos' :: hds) (h :: l)
section
variable {X : Cx} {body : List Stmt} {h₀ : ExceptHandler} {hds : List ExceptHandler} {l : List Hdl} {pos : Pos} {tb : WX → TS} {Wout : WX}
theorem ps_try_hdls (hs : X.stack = X.env :: X.outer) (hf : X.env.frame = some X.env.locals) (tk : Takes X Wout)
    (hb : ∀ (W : WX) (pn : List (Addr × Obj)) (xe : Value → Shared → Prop), Takes (X.tr pn xe) W → PassesOwn (model X.prog X.w) X.A X.env xe → PSs (X.tr pn xe) body (tb W))
    (hh : HdlsOk X (h₀ :: hds) l) : PS X (.Try body (h₀ :: hds) [] [] pos) (fun Dn σ H => tb (wHdl X.K Wout Dn l) Dn σ H) := by
  refine ⟨fun pins s σ H Dn I h => ?_⟩
  have ok := I.ok
  have hfr : X.A.frames = some (X.env :: X.outer) := by rw [ok.frames, hs]
  refine wpAny_Try_except ?_
  refine wpAny_mono ((hb (wHdl X.K Wout Dn l) (X.pn ++ pins) (fun e s₁ => wpAny (model X.prog X.w) X.A (noteFrame e X.env) (fun _ s₂ => wpAny (model X.prog X.w) X.A (setFlight e none) (fun _ s₃ =>
    wpAny (model X.prog X.w) X.A (handleBy e X.env (h₀ :: hds)) (SP X pins Dn) X.xe s₃) X.xe s₂) X.xe s₁) (fun u s' xx => ?_) PassesOwn.looking).run [] s σ H Dn (I.toTry _) h) (fun f s1 hsp => ?_) (fun e s1 he => he)
  · obtain ⟨a, B, sI, pins', σ', H', cls, d, rfl, J', nb, up, sky, na, os, ag, w⟩ := xx
    have J : Inv X pins σ' H' sI := J'.ofTry ok
    rw [hs] at sky
    refine Sky.land Zc.steady hfr hf sky fun h3 fl3 up3 => ?_
    have lnd : ∀ {h4 : Heap}, HandSPX.FlyingZ B (X.env :: X.outer) a (Zc cls d) h4 → s'.heap.UpToSlots h4 → Inv X pins σ' H' { s' with heap := h4 } := fun fl4 up4 => J.landed nb fl4.1 (up.trans up4) os ag
    obtain ⟨oe3, vs3, he3, hz3, hd3⟩ := fl3.there
    have nfr : a ∉ frs (X.env :: X.outer) := fun hm => by
      obtain ⟨_, o', e', hnf⟩ := fl3.2.2.1.mem hm
      rw [he3] at e'
      cases e'
      exact hnf _ hd3
    have nL : a ≠ X.env.locals := fun z => nfr (List.mem_filterMap.mpr ⟨X.env, List.mem_cons_self, by rw [hf, z]⟩)
    have nF : a ∉ X.fs := fun hm => by
      obtain ⟨e, he, q⟩ := List.mem_filterMap.mp hm
      exact nfr (List.mem_filterMap.mpr ⟨e, List.mem_cons_of_mem _ he, q⟩)
    have S3 := (lnd fl3 up3).suite he3 hd3 na nL nF
    have go : ∀ {hds' : List ExceptHandler} {l' : List Hdl}, HdlsOk X hds' l' → wHdl X.K Wout Dn l' cls d σ' H' → wpAny (model X.prog X.w) X.A (handleBy (.ref a) X.env hds') (SP X pins Dn) X.xe { s' with heap := h3 } := by
      intro hds' l' hk
      induction hk with
      | nil =>
        exact fun w => PySem.PX.no_clauseZ hf fl3 fun h4 hh4 up4 => tk _ _ ⟨a, B, sI, pins, σ', H', cls, d, rfl, J, nb, (up.trans up3).trans up4, .inr (.inr (by rw [hs]; exact hh4)), na, os, ag, w⟩
      | @cons x n h b₀ suite np pos' hds2 l2 hc hn hsu r ih =>
        intro ⟨b, hb1, hyes, hno⟩
        have test : ∀ {Q : Value → Shared → Prop} {E : Value → Shared → Prop}, Q h.c { s' with heap := h3 } → wpAny (model X.prog X.w) (X.A.mark (some (.ref a))) (eval (.Name x np) X.env) Q E { s' with heap := h3 } := fun {Q E} q => by
          obtain ⟨hg, hdbg, hm | ⟨hm, hv, hnn⟩⟩ := hc
          · exact ld_glob (X := X.suite a ((a, oe3) :: (X.pn ++ pins))) S3 hg hm q hdbg
          · exact ld_blt (X := X.suite a ((a, oe3) :: (X.pn ++ pins))) S3 hg hm hv q hnn hdbg
        cases b with
        | false => exact PySem.PX.clause_passZ (lnd fl3 up3).kIn (fun o z => z.1) fl3 hb1 test (ih (hno rfl))
        | true =>
          obtain ⟨c, i, ts⟩ := h
          cases hn with
          | no =>
            refine PySem.PX.clause_onlyZ (lnd fl3 up3).kIn (fun o z => z.1) fl3 hb1 test fun h4 fl4 up4 => ?_
            obtain ⟨oe4, vs4, he4, hz4, hd4⟩ := HandSPX.FlyingZ.there fl4
            have S4 := (lnd fl4 (up3.trans up4)).suite he4 hd4 na nL nF
            refine wpAny_mono ((hsu a oe4 cls d (X.pn ++ pins) hz4 ⟨_, hd4⟩).run [] _ _ H' _ S4 (hyes rfl a na)) (fun f s6 hsp => ?_) (fun _ _ z => False.elim z)
            cases f with
            | next => obtain ⟨σ6, H6, S6, q6⟩ := hsp; exact ⟨_, _, S6.unsuite ok, q6⟩
            | brk => obtain ⟨σ6, H6, S6, q6⟩ := hsp; exact ⟨_, _, S6.unsuite ok, q6⟩
            | cont => obtain ⟨σ6, H6, S6, q6⟩ := hsp; exact ⟨_, _, S6.unsuite ok, q6⟩
            | ret u => obtain ⟨v6, σ6, H6, S6, r6, q6⟩ := hsp; exact ⟨_, _, _, S6.unsuite ok, r6, q6⟩
          | @yes n i hN hi hln =>
            refine PySem.PX.clause_asZ (lnd fl3 up3).kIn (fun o z => z.1) fl3 hb1 test fun h4 fl4 up4 => ?_
            obtain ⟨oe4, vs4, he4, hz4, hd4⟩ := HandSPX.FlyingZ.there fl4
            have S4 := (lnd fl4 (up3.trans up4)).suite he4 hd4 na nL nF
            refine store_ok (X := X.suite a ((a, oe4) :: (X.pn ++ pins))) (v := .ref a) S4 hN hi (.inl hln) rfl (fun s5 S5 => ?_) (.inr hln)
            refine wpAny_mono ((hsu a oe4 cls d (X.pn ++ pins) hz4 ⟨_, hd4⟩).run [] s5 _ H' _ S5 (hyes rfl a na)) (fun f s6 hsp => ?_) (fun _ _ z => False.elim z)
            cases f with
            | next => obtain ⟨σ6, H6, S6, q6⟩ := hsp; exact gone_ok (S6.unsuite ok) hN hi hln fun s7 J7 => ⟨_, _, J7, q6⟩
            | brk => obtain ⟨σ6, H6, S6, q6⟩ := hsp; exact gone_ok (S6.unsuite ok) hN hi hln fun s7 J7 => ⟨_, _, J7, q6⟩
            | cont => obtain ⟨σ6, H6, S6, q6⟩ := hsp; exact gone_ok (S6.unsuite ok) hN hi hln fun s7 J7 => ⟨_, _, J7, q6⟩
            | ret u => obtain ⟨v6, σ6, H6, S6, r6, q6⟩ := hsp; exact gone_ok (S6.unsuite ok) hN hi hln fun s7 J7 => ⟨_, _, _, J7, r6, q6⟩
    exact go hh w
  · cases f with
    | next => obtain ⟨σ', H', J', q⟩ := hsp; exact wpAny_execs_nil ⟨σ', H', J'.ofTry ok, q⟩
    | brk => obtain ⟨σ', H', J', q⟩ := hsp; exact ⟨σ', H', J'.ofTry ok, q⟩
    | cont => obtain ⟨σ', H', J', q⟩ := hsp; exact ⟨σ', H', J'.ofTry ok, q⟩
    | ret u => obtain ⟨v, σ', H', J', r, q⟩ := hsp; exact ⟨v, σ', H', J'.ofTry ok, r, q⟩
end

/-! ### over data -/
structure DHdl where
  c : Value
  i : Option Nat
  sd : Addr → Value → Option Addr → DS
def offD (i : Option Nat) (ρ : DEnv) : DEnv := match i with | none => ρ | some i => ρ.set i none
def onD (i : Option Nat) (a d : Addr) (cls : Value) (w : D) (ρ : DEnv) : DEnv := match i with | none => ρ | some i => ρ.set i (some (.exc a d cls w))
def offE (i : Option Nat) (E : DEnds) : DEnds := { E with nx := fun ρ S => E.nx (offD i ρ) S, bk := fun ρ S => E.bk (offD i ρ) S, ct := fun ρ S => E.ct (offD i ρ) S }
def exHdl (exm : Value → Value → Option Bool) (E : DEnds) : List DHdl → DX
  | [] => E.ex
  | h :: r => fun cls w ρ S => ∃ b, exm cls h.c = some b ∧ (b = true → ∀ a d, h.sd a cls (some d) (offE h.i E) (onD h.i a d cls w ρ) S) ∧ (b = false → exHdl exm E r cls w ρ S)
def dTry (exm : Value → Value → Option Bool) (tb : DS) (hs : List DHdl) : DS := fun E ρ S => tb { E with ex := exHdl exm E hs } ρ S
def DHdl.up (K : PySem.W.Frag) (W : WX) (h : DHdl) : Hdl := ⟨h.c, h.i, fun a cls d => liftS K W (h.sd a cls d)⟩
section
variable {K : PySem.W.Frag} {W : WX} {H : Hp} {A : List Addr}
theorem KontN.off {post : DEnv → Store → Prop} {Q : L2.St → Hp → Prop} (i : Option Nat) (k : KontN K H A post Q) : KontN K H A (fun ρ S => post (offD i ρ) S) fun σ H' => Q (offSlot i σ) H' := fun σ' H' A' ρ' S' e n s p => by
  cases i with
  | none => exact k σ' H' A' ρ' S' e n s p
  | some i => exact k _ H' A' _ S' e (n.unset i) s p
theorem kontX_hdl {E : DEnds} {Dn : Ends} (k1 : KontN K H A E.nx Dn.nx) (k2 : KontE K H A E.rt Dn.rt) (k3 : KontN K H A E.bk Dn.bk) (k4 : KontC K W H A E Dn.ct) : ∀ l : List DHdl, KontX K W H A E.ex → KontX K (wHdl K W Dn (l.map (DHdl.up K W))) H A (exHdl (PySem.W.exmOne K) E l)
  | [], k => k
  | h :: r, k => fun cls d σ' H' A' w u ρ' S' e n s hd rw' ⟨b, hb, ht, hf⟩ => by
    refine ⟨b, hb, fun q a ha => ?_, fun q => kontX_hdl k1 k2 k3 k4 r k cls d σ' H' A' w u ρ' S' e n s hd rw' (hf q)⟩
    refine ⟨A', onD h.i a d cls w ρ', S', offE h.i E, ?_, s, ht q a d, (k1.go e).off h.i, k2.go e, (k3.go e).off h.i, ⟨(k4.ct.go e).off h.i, k4.ex.go e⟩⟩
    show RelN K H' A' (onD h.i a d cls w ρ') (onSlot h.i a σ')
    cases h.i with
    | none => exact n
    | some i => exact n.set i (show RelD K H' A' (.exc a d cls w) (.ref a) from ⟨rfl, u, hd, rw'⟩)
end
theorem ds_try {X : Cx} {W : WX} {body : List Stmt} {h₀ : ExceptHandler} {hds : List ExceptHandler} {l : List DHdl} {pos : Pos} {tb : DS} (hs : X.stack = X.env :: X.outer) (hf : X.env.frame = some X.env.locals) (tk : Takes X W)
    (hb : ∀ (W : WX) (pn : List (Addr × Obj)) (xe : Value → Shared → Prop), Takes (X.tr pn xe) W → PassesOwn (model X.prog X.w) X.A X.env xe → PSs (X.tr pn xe) body (liftS X.K W tb))
    (hh : HdlsOk X (h₀ :: hds) (l.map (DHdl.up X.K W))) : PS X (.Try body (h₀ :: hds) [] [] pos) (liftS X.K W (dTry (PySem.W.exmOne X.K) tb l)) :=
  ps_mono (ps_try_hdls hs hf tk hb hh) fun Dn σ H ⟨A, ρ, S, E, n, s, h, k1, k2, k3, k4⟩ => ⟨A, ρ, S, _, n, s, h, k1, k2, k3, ⟨k4.ct, kontX_hdl k1 k2 k3 k4 l k4.ex⟩⟩

/-! ### isinstance of the exception that the suite holds -/
def rIsX (K : PySem.W.Frag) (a : Addr) (cls : Value) (d : Option Addr) : List V → Hp → VK → Prop := fun xs H Q => ∃ (C dd : Addr) (c : V) (cv : Value) (b : Bool) (fs : List (Str × V)), xs = [.ref a, c] ∧ cls = .ref C ∧ ExcC K C ∧ d = some dd ∧ H dd = some (.xd fs) ∧
  (∀ u, RelV c u → u = cv) ∧ PySem.W.kitOne K (.ref C) cv = some b ∧ Q (.bl b) H
theorem call_isX {X : Cx} {a : Addr} {oe : Obj} {cls : Value} {d : Option Addr} {pn : List (Addr × Obj)} (hz : Zc cls d oe) (hf : ∃ vs, oe.data = .fields vs) : CallR (X.suite a ((a, oe) :: pn)) (.builtin "isinstance") (rIsX X.K a cls d) := by
  intro pins s σ H xs us Q I r h
  obtain ⟨C, dd, c, cv, b, fs, rfl, hcl, T, hd, hH, hcv, e, q⟩ := h
  cases r with
  | cons rx rr =>
    cases rr with
    | cons rt rr =>
      cases rr
      cases rx
      have ec := hcv _ rt
      subst ec hcl hd
      obtain ⟨hget, _⟩ := I.pin (a, oe) (List.mem_append.mpr (.inl List.mem_cons_self))
      obtain ⟨vs, hv⟩ := hf
      have hx : ObjOk X.prog X.w H s.heap dd (.xd fs) := I.hok dd _ hH
      obtain ⟨mA, hns, hr⟩ := hx
      obtain ⟨od, ho, hl⟩ := lookIn_ns hns
      have J : PySem.W.InstAt s.heap a oe C (some od) := ⟨hget, hz.1, by unfold PySem.W.notCls; rw [hv] <;> rfl, by rw [hz.2]; exact ho⟩
      have hcl : (PySem.W.clsIn X.K C).isSome = true := by
        obtain ⟨cd, hc, _⟩ := PySem.W.any_some T.hd
        rw [hc]
        rfl
      exact PySem.W.kia_one (PySem.W.kitx_exc hcl T.hg T.hk T.hs T.ha T.hn T.ht T.hm) I.kIn J e (fun z => nomatch z) fun tk => ⟨.bl b, H, I.kept (t' := tk) fun _ _ z => z, rfl, q⟩
def dIsX (K : PySem.W.Frag) (a : Addr) (cls : Value) (d : Option Addr) (cv : Value) (te : DE) : DE := fun ρ S post => te ρ S fun o S1 => ∃ (C dd : Addr) (w : D) (b : Bool), o = .exc a dd cls w ∧ cls = .ref C ∧ ExcC K C ∧ d = some dd ∧ PySem.W.kitOne K (.ref C) cv = some b ∧ post (.bl b) S1
theorem de_isX {X : Cx} {a : Addr} {oe : Obj} {cls : Value} {d : Option Addr} {pn : List (Addr × Obj)} {e cx : Expr} {te : DE} {vc : V} {cv : Value} {p pos : Pos} (hz : Zc cls d oe) (hf : ∃ vs, oe.data = .fields vs) (he : PE (X.suite a ((a, oe) :: pn)) e (liftE X.K te))
    (hc : PE (X.suite a ((a, oe) :: pn)) cx (tC vc)) (hv : ∀ u, RelV vc u → u = cv) (hg : Gl X "isinstance") (hm : X.mg "isinstance" = none)
    (h1 : starEach (e :: [cx]) X.env = (false, eval e X.env) :: starEach [cx] X.env := by rfl) (h2 : starEach (cx :: []) X.env = (false, eval cx X.env) :: starEach [] X.env := by rfl) (hpl : (backTo pos (starEach [cx] X.env)).any (·.1) = false := by rfl) :
    PE (X.suite a ((a, oe) :: pn)) (.Call (.Name "isinstance" p) (e :: [cx]) [] pos) (liftE X.K (dIsX X.K a cls d cv te)) := by
  refine pe_mono (pe_callB (X := X.suite a ((a, oe) :: pn)) (call_isX hz hf) hg hm (by rfl) (pa_cons he (pa_cons hc pa_nil h2) h1) (by decide) (by decide) h1 hpl) fun σ H Q ⟨A, ρ, S, post, n, s, h, k⟩ =>
    ⟨A, ρ, S, _, n, s, h, fun v H1 A1 o S1 e1 s1 r1 ⟨C, dd, w, b, ho, hcl, T, hd, hk, p⟩ => ?_⟩
  subst ho
  obtain ⟨hv1, u, hu, ru⟩ := r1
  subst hv1
  exact ⟨C, dd, vc, cv, b, _, rfl, hcl, T, hd, hu, hv, hk, k (.bl b) H1 A1 (.bl b) S1 e1 s1 rfl p⟩
end DL
/-! ZM: isinstance of data. -/
namespace DL
open PySem PySem.Spec PyProof.Rows L2
variable [HasT]

/-- the type of a piece of data, where it is told -/
def tyD (S : Store) : D → Option String
  | .non => some "NoneType"
  | .bl _ => some "bool"
  | .int _ => some "int"
  | .str _ => some "str"
  | .tup _ => some "tuple"
  | .ztup _ => some "tuple"
  | .lr n => match S[n]? with
    | some (.lst _) => some "list"
    | some (.dct _) => some "dict"
    | none => none
  | .rl _ => none
  | .exc _ _ _ _ => none
  | .opq _ => none
theorem tyD_ok {K : PySem.W.Frag} {H : Hp} {A : List Addr} {S : Store} {t : String} (s : RelS K H A S) : ∀ {d : D} {v : V}, RelD K H A d v → tyD S d = some t → TyX K H v (.type t)
  | .non, v, r, h => by cases h; cases (show v = .non from r); exact .base (by constructor)
  | .bl _, v, r, h => by cases h; cases (show v = .bl _ from r); exact .base (by constructor)
  | .int _, v, r, h => by cases h; cases (show v = .int _ from r); exact .base (by constructor)
  | .str _, v, r, h => by cases h; cases (show v = .str _ from r); exact .base (by constructor)
  | .tup _, v, ⟨a, vs, e, p, _⟩, h => by
    cases h
    subst e
    rcases p with ⟨o, p, _⟩ | ⟨o, its, n, h1, h2, _⟩
    · exact .fTuple p
    · exact .kTuple h1 h2
  | .ztup _, v, ⟨a, vs, e, p, _⟩, h => by
    cases h
    subst e
    rcases p with (p | ⟨o, p⟩) | ⟨o, its, n, h1, h2, _⟩
    · exact .base (by constructor; exact p)
    · exact .fTuple p
    · exact .kTuple h1 h2
  | .lr n, v, ⟨a, e, ha⟩, h => by
    subst e
    simp only [tyD] at h
    cases q : S[n]? with
    | none => rw [q] at h; cases h
    | some en =>
      rw [q] at h
      have r := s.get q ha
      cases en with
      | lst ds => cases h; obtain ⟨vs, h1, _⟩ := r; exact .base (by constructor; exact h1)
      | dct kvs => cases h; obtain ⟨vs, h1, _⟩ := r; exact .base (by constructor; exact h1)
  | .rl _, _, _, h => by cases h
  | .exc _ _ _ _, _, _, h => by cases h
  | .opq _, _, _, h => by cases h
def dIsTy (n : String) (te : DE) : DE := fun ρ S post => te ρ S fun d S1 => ∃ t b, tyD S1 d = some t ∧ kitB t n = some b ∧ post (.bl b) S1
theorem de_isTy {X : Cx} {e : Expr} {te : DE} {x : Str} {n : String} {p p2 pos : Pos} (he : PE X e (liftE X.K te)) (hg : Gl X "isinstance") (hm : X.mg "isinstance" = none) (hg2 : Gl X x) (hm2 : X.mg x = none) (hv : bootBuiltins x = some (.type n))
    (hn : x ≠ "__name__" := by decide) (hd : (x == ("__debug__" : Str)) = false := by decide)
    (h1 : starEach (e :: [.Name x p2]) X.env = (false, eval e X.env) :: starEach [.Name x p2] X.env := by rfl) (h2 : starEach (.Name x p2 :: []) X.env = (false, eval (.Name x p2) X.env) :: starEach [] X.env := by rfl) (hpl : (backTo pos (starEach [.Name x p2] X.env)).any (·.1) = false := by rfl) :
    PE X (.Call (.Name "isinstance" p) (e :: [.Name x p2]) [] pos) (liftE X.K (dIsTy n te)) := by
  refine pe_mono (pe_callB call_isi hg hm (by rfl) (pa_cons he (pa_cons (pe_bltn (v := .ty n) hg2 hm2 hv rfl hn hd) pa_nil h2) h1) (by decide) (by decide) h1 hpl) fun σ H Q ⟨A, ρ, S, post, nn, s, h, k⟩ =>
    ⟨A, ρ, S, _, nn, s, h, fun v H1 A1 d S1 e1 s1 r1 ⟨t, b, ht, hk, p⟩ => ⟨v, .ty n, _, _, b, rfl, .ty n, tyD_ok s1 r1 ht, kit_ty hk, k (.bl b) H1 A1 (.bl b) S1 e1 s1 rfl p⟩⟩

/-! ### a < b < c -/
def dChain (rd rd' : D2) (ta tb tc : DE) : DE := fun ρ S post => ta ρ S fun x S1 => tb ρ S1 fun y S2 => rd x y S2 fun z S3 => ∃ k, z = .bl k ∧ (if k = true then tc ρ S3 fun w S4 => rd' y w S4 post else post (.bl false) S3)
theorem lift_chain {K : PySem.W.Frag} {rd rd' : D2} {r r' : R2} {ta tb tc : DE} {σ : L2.St} {H : Hp} {Q : VK} (hr : Rul2 K rd r) (hr' : Rul2 K rd' r') : liftE K (dChain rd rd' ta tb tc) σ H Q → tChain r r' (liftE K ta) (liftE K tb) (liftE K tc) σ H Q := by
  rintro ⟨A, ρ, S, post, n, s, p, k⟩
  refine ⟨A, ρ, S, _, n, s, p, fun v1 H1 A1 d1 S1 e1 s1 r1 p1 => ⟨A1, ρ, S1, _, n.ext e1, s1, p1, fun v2 H2 A2 d2 S2 e2 s2 r2 p2 => hr H2 A2 S2 d1 d2 v1 v2 _ _ s2 (r1.ext e2) r2 p2 fun z H3 A3 d3 S3 e3 s3 r3 ⟨kb, hz, p3⟩ => ?_⟩⟩
  subst hz
  have e13 : Ext H A H3 A3 := (e1.trans e2).trans e3
  refine ⟨kb, r3, ?_⟩
  cases kb with
  | true => exact ⟨A3, ρ, S3, _, n.ext e13, s3, p3, fun w H4 A4 dw S4 e4 s4 r4 p4 => hr' H4 A4 S4 d2 dw v2 w _ _ s4 (r2.ext (e3.trans e4)) r4 p4 (k.go (e13.trans e4))⟩
  | false => exact k (.bl false) H3 A3 (.bl false) S3 e13 s3 rfl p3
section
variable {X : Cx} {a b c : Expr} {ta tb tc : DE} {op op' : CmpOp} {rd rd' : D2} {r r' : R2} {pos : Pos}
theorem de_chain (ho : OpR X (compareOp op) r) (hr : Rul2 X.K rd r) (ho' : OpR X (compareOp op') r') (hr' : Rul2 X.K rd' r') (ha : PE X a (liftE X.K ta)) (hb : PE X b (liftE X.K tb)) (hc : PE X c (liftE X.K tc)) (hm : lastMarks [op, op'] [b, c] = false := by with_unfolding_all rfl) : PE X (.Compare a [op, op'] [b, c] pos) (liftE X.K (dChain rd rd' ta tb tc)) :=
  pe_mono (pe_chain ho ho' ha hb hc hm) fun _ _ _ h => lift_chain hr hr' h
theorem dt_chain (ho : OpR X (compareOp op) r) (hr : Rul2 X.K rd r) (ho' : OpR X (compareOp op') r') (hr' : Rul2 X.K rd' r') (ha : PE X a (liftE X.K ta)) (hb : PE X b (liftE X.K tb)) (hc : PE X c (liftE X.K tc)) (hm : lastMarks [op, op'] [b, c] = false := by with_unfolding_all rfl) : PT X (.Compare a [op, op'] [b, c] pos) (liftT X.K (dTest (dChain rd rd' ta tb tc))) :=
  pt_mono (pt_chain ho ho' ha hb hc hm) fun _ _ _ h => lift_chain hr hr' (lift_test h)
end
end DL
/-! ZN: truth of data, slices, pop, extend, two names at once, unpacked lists. -/
namespace DL
open PySem PySem.Spec PyProof.Rows L2
variable [HasT]

/-! ### truth -/
def truD (S : Store) : D → Bool → Prop
  | .non, k => k = false
  | .bl b, k => k = b
  | .int i, k => k = (i != 0)
  | .str x, k => x.length ≤ 100000 ∧ k = ((x.length : Int) != 0)
  | .tup ds, k => k = !ds.isEmpty
  | .ztup ds, k => k = !ds.isEmpty
  | .rl ds, k => k = !ds.isEmpty
  | .lr n, k => (∃ ds, S[n]? = some (.lst ds) ∧ k = !ds.isEmpty) ∨ ∃ kvs, S[n]? = some (.dct kvs) ∧ k = !kvs.isEmpty
  | .exc _ _ _ _, _ => False
  | .opq _, _ => False
theorem empty_len {α β : Type} {xs : List α} {ys : List β} (h : xs.length = ys.length) : xs.isEmpty = ys.isEmpty := by
  cases xs <;> cases ys <;> simp_all
theorem truD_ok {K : PySem.W.Frag} {H : Hp} {A : List Addr} {S : Store} {k : Bool} (s : RelS K H A S) : ∀ {d : D} {v : V}, RelD K H A d v → truD S d k → TruV K v H k
  | .non, v, r, h => by cases (show v = .non from r); exact h
  | .bl _, v, r, h => by cases (show v = .bl _ from r); exact h
  | .int _, v, r, h => by cases (show v = .int _ from r); exact h
  | .str _, v, r, h => by cases (show v = .str _ from r); exact ⟨le_line h.1, h.2⟩
  | .tup ds, v, ⟨a, vs, e, p, q⟩, h => by
    subst e
    exact .inr (.inl ⟨vs, p.sq, by rw [empty_len q.len]; exact h⟩)
  | .ztup ds, v, ⟨a, vs, e, p, q⟩, h => by
    subst e
    exact .inr (.inl ⟨vs, p, by rw [empty_len q.len]; exact h⟩)
  | .rl ds, v, ⟨a, vs, e, p, q⟩, h => by
    subst e
    exact .inl ⟨vs, p.sq, by rw [empty_len q.len]; exact h⟩
  | .lr n, v, ⟨a, e, ha⟩, h => by
    subst e
    rcases h with ⟨ds, hn, h⟩ | ⟨kvs, hn, h⟩
    · obtain ⟨vs, h1, h2⟩ := s.get hn ha
      exact .inl ⟨vs, .inl (.inl h1), by rw [empty_len h2.len]; exact h⟩
    · obtain ⟨ws, h1, h2⟩ := (s.get hn ha).pairs
      exact .inr (.inr ⟨ws, h1, by rw [empty_len h2.len]; exact h⟩)
  | .exc _ _ _ _, _, _, h => h.elim
  | .opq _, _, _, h => h.elim
def dTru (te : DE) : DT := fun ρ S post => te ρ S fun d S1 => ∃ k, truD S1 d k ∧ post k S1
theorem dt_tru {X : Cx} {e : Expr} {te : DE} (h : PE X e (liftE X.K te)) (he : ∀ whole, isTrue e X.env whole = (do let v ← whole; standAt e.pos; holding [v] (truthy v)) := by intro _; rfl) : PT X e (liftT X.K (dTru te)) :=
  pt_mono (pt_truth h he) fun σ H Q ⟨A, ρ, S, post, n, s, p, k⟩ => ⟨A, ρ, S, _, n, s, p, fun v H1 A1 d S1 e1 s1 r1 ⟨b, hb, p1⟩ => ⟨b, truD_ok s1 r1 hb, k b H1 A1 S1 e1 s1 p1⟩⟩
theorem go_tru_lr {S : Store} {n : Nat} {ds : List D} {f : Bool → Prop} (h : S[n]? = some (.lst ds)) (p : f (!ds.isEmpty)) : ∃ k, truD S (.lr n) k ∧ f k := ⟨_, .inl ⟨ds, h, rfl⟩, p⟩
theorem go_tru_tup {S : Store} {ds : List D} {f : Bool → Prop} : (∃ k, truD S (.tup ds) k ∧ f k) ↔ f (!ds.isEmpty) := ⟨fun ⟨_, h, p⟩ => by cases (show _ = _ from h); exact p, fun p => ⟨_, rfl, p⟩⟩

/-! ### slices -/
abbrev DOp := DEnv → Store → (Option Int → Store → Prop) → Prop
def liftO (K : PySem.W.Frag) (t : DOp) : TO := fun σ H Q => ∃ A ρ S post, RelN K H A ρ σ ∧ RelS K H A S ∧ t ρ S post ∧ ∀ o H' A' S', Ext H A H' A' → RelS K H' A' S' → post o S' → Q o H'
def dNoPart : DOp := fun _ S post => post none S
def dPart (te : DE) : DOp := fun ρ S post => te ρ S fun d S1 => ∃ i, d = .int i ∧ post (some i) S1
theorem po_mono {X : Cx} {e : Option Expr} {t u : TO} (h : PO X e t) (w : ∀ σ H Q, u σ H Q → t σ H Q) : PO X e u := ⟨fun pins s σ H Q I q => h.run pins s σ H Q I (w σ H Q q)⟩
theorem do_none {X : Cx} : PO X none (liftO X.K dNoPart) := po_mono po_none fun σ H Q ⟨A, ρ, S, post, n, s, p, k⟩ => k none H A S Ext.refl s p
theorem do_some {X : Cx} {e : Expr} {te : DE} (h : PE X e (liftE X.K te)) : PO X (some e) (liftO X.K (dPart te)) :=
  po_mono (po_some h) fun σ H Q ⟨A, ρ, S, post, n, s, p, k⟩ => ⟨A, ρ, S, _, n, s, p, fun v H1 A1 d S1 e1 s1 r1 ⟨i, hd, p1⟩ => by
    subst hd
    exact ⟨i, r1, k (some i) H1 A1 S1 e1 s1 p1⟩⟩
def cutD {α : Type} (xs : List α) (lo hi : Option Int) : List α := (xs.drop (HT.sIx xs.length 0 lo)).take (HT.sIx xs.length xs.length hi - HT.sIx xs.length 0 lo)
def rSlP (K : PySem.W.Frag) : V → Option Int → Option Int → Hp → VK → Prop := fun x lo hi H Q => ∃ a xs, x = .ref a ∧ SqT K H a xs ∧
  (HT.sIx xs.length 0 lo = 0 ∧ HT.sIx xs.length xs.length hi = xs.length → Q (.ref a) H) ∧ (¬ (HT.sIx xs.length 0 lo = 0 ∧ HT.sIx xs.length xs.length hi = xs.length) → ∀ (p : Addr) (o : Obj), H p = none → o.dict = none → Q (.ref p) (upd H p (.frz o (.tup (cutV xs lo hi)))))
theorem sl_tupP {X : Cx} : SlR X (rSlP X.K) := by
  intro pins s σ H x v vl vu lo hi sl Q I rx hs pl pu h
  obtain ⟨a, xs, rfl, hx, q1, q2⟩ := h
  cases rx
  obtain ⟨its, r, ht, hz⟩ := I.tuple hx
  have hlen : its.toArray.size = xs.length := by rw [List.size_toArray]; exact r.length.symm
  refine ⟨"tuple", _, PyProof.Rows.slot_tuple_getitem.lookup, ht.typeIs, ?_⟩
  by_cases hw : HT.sIx xs.length 0 lo = 0 ∧ HT.sIx xs.length xs.length hi = xs.length
  · exact getItem_tuple_whole ht hs pl pu (by rw [hlen]; exact hw) ⟨.ref a, H, I, rfl, q1 hw⟩
  · refine HT.getItem_tuple_cut ht hs pl pu (by rw [hlen]; exact hw) ?_ (by rw [hlen]; exact hz)
    rw [hlen]
    exact ⟨.ref s.heap.objs.size, _, laidP (tk := s.toks) I (fun b ob q => Heap.get?_push_of_some _ q) (Nat.le_refl _) (Heap.get?_push_size _ rfl) ((r.drop (HT.sIx xs.length 0 lo)).take (HT.sIx xs.length xs.length hi - HT.sIx xs.length 0 lo)) (Nat.le_trans (cutV_length xs lo hi) hz), rfl, q2 hw _ _ (I.hok.fresh (Nat.le_refl _)) rfl⟩
def slD : D → Option Int → Option Int → Store → DK → Prop := fun x lo hi S post => (∃ xs, x = .tup xs ∧ post (.tup (cutD xs lo hi)) S) ∨ ∃ xs, seqOf S x xs ∧ (∀ ys, x ≠ .tup ys) ∧ post (.lr S.length) (S ++ [.lst (cutD xs lo hi)])
def dSl (te : DE) (tl th : DOp) : DE := fun ρ S post => te ρ S fun x S1 => tl ρ S1 fun lo S2 => th ρ S2 fun hi S3 => slD x lo hi S3 post
theorem RelDs.cut {K : PySem.W.Frag} {H : Hp} {A : List Addr} {ds : List D} {vs : List V} (r : RelDs K H A ds vs) (lo hi : Option Int) : RelDs K H A (cutD ds lo hi) (cutV vs lo hi) := by
  unfold cutD cutV
  rw [r.len]
  exact (r.drop _).take _
theorem cut_whole {α : Type} {xs : List α} {lo hi : Option Int} (h : HT.sIx xs.length 0 lo = 0 ∧ HT.sIx xs.length xs.length hi = xs.length) : cutD xs lo hi = xs := by
  unfold cutD
  rw [h.1, h.2]
  simp
theorem de_sl {X : Cx} {e : Expr} {lo hi : Option Expr} {te : DE} {tl th : DOp} {p2 pos : Pos} (he : PE X e (liftE X.K te)) (hl : PO X lo (liftO X.K tl)) (hh : PO X hi (liftO X.K th)) : PE X (.Subscript e (.Slice lo hi none p2) pos) (liftE X.K (dSl te tl th)) :=
  pe_mono (pe_slice (sl_tupP.or sl_list) he hl hh) fun σ H Q ⟨A, ρ, S, post, n, s, p, k⟩ => ⟨A, ρ, S, _, n, s, p, fun v H1 A1 d S1 e1 s1 r1 p1 =>
    ⟨A1, ρ, S1, _, n.ext e1, s1, p1, fun o1 H2 A2 S2 e2 s2 p2 => ⟨A2, ρ, S2, _, (n.ext e1).ext e2, s2, p2, fun o2 H3 A3 S3 e3 s3 p3 => by
      have k3 := (k.go (e1.trans (e2.trans e3)))
      have r3 := r1.ext (e2.trans e3)
      rcases p3 with ⟨xs, hx, p3⟩ | ⟨xs, hq, hx, p3⟩
      · subst hx
        obtain ⟨a, vs, rfl, ht, hv⟩ := id r3
        refine .inl ⟨a, vs, rfl, ht.sq, fun hw => ?_, fun hw p o hp ho => fin_tup s3 k3 hp ho (hv.cut o1 o2) p3⟩
        rw [hv.len] at hw
        rw [cut_whole hw] at p3
        exact k3.now s3 r3 p3
      · have hL : ∃ a us, v = .ref a ∧ SqL X.K H3 a us ∧ RelDs X.K H3 A3 xs us := by
          rcases hq with rfl | rfl | ⟨m, rfl, hn⟩
          · exact absurd rfl (hx _)
          · obtain ⟨a, us, e, h2, h3⟩ := r3
            exact ⟨a, us, e, h2.sq, h3⟩
          · obtain ⟨a, e, ha⟩ := r3
            obtain ⟨us, h1, h2⟩ := s3.get hn ha
            exact ⟨a, us, e, .inl (.inl h1), h2⟩
        obtain ⟨a, us, rfl, hs, w⟩ := hL
        exact .inr ⟨a, us, rfl, hs, fun p hp => fin_list s3 k3 hp (w.cut o1 o2) p3⟩⟩⟩⟩

/-! ### l.pop(i), l.extend(m) -/
def popK (o : D) (post : DK) (d : D) (S : Store) : Prop := ∃ (n : Nat) (ds : List D) (i : Int) (k : Nat) (y : D), o = .lr n ∧ S[n]? = some (.lst ds) ∧ d = .int i ∧ -1000000 ≤ i ∧ i ≤ 1000000 ∧ ixN ds.length i = some k ∧ ds[k]? = some y ∧ post y (S.set n (.lst (ds.eraseIdx k)))
def dPop (to te : DE) : DE := fun ρ S post => to ρ S fun o S1 => (∃ (n : Nat) (ds : List D), o = .lr n ∧ S1[n]? = some (.lst ds)) ∧ te ρ S1 (popK o post)
def extK (o : D) (post : DK) (d : D) (S : Store) : Prop := ∃ (n m : Nat) (ds es : List D), o = .lr n ∧ S[n]? = some (.lst ds) ∧ d = .lr m ∧ S[m]? = some (.lst es) ∧ ds.length + es.length ≤ 100000 ∧ post .non (S.set n (.lst (ds ++ es)))
def dExt (to te : DE) : DE := fun ρ S post => to ρ S fun o S1 => (∃ (n : Nat) (ds : List D), o = .lr n ∧ S1[n]? = some (.lst ds)) ∧ te ρ S1 (extK o post)
theorem RelDs.erase {K : PySem.W.Frag} {H : Hp} {A : List Addr} : ∀ {ds : List D} {vs : List V} (k : Nat), RelDs K H A ds vs → RelDs K H A (ds.eraseIdx k) (vs.eraseIdx k)
  | [], _, _, h => by
    rw [show _ = [] from h]
    exact rfl
  | _ :: _, _, 0, ⟨u, r, h1, _, h3⟩ => by
    rw [h1]
    exact h3
  | _ :: _, _, k + 1, ⟨u, r, h1, h2, h3⟩ => by
    rw [h1]
    exact ⟨u, _, rfl, h2, RelDs.erase k h3⟩
section
variable {X : Cx} {o a : Expr} {apos cpos : Pos} {to ta : DE}
theorem de_pop (ho : PE X o (liftE X.K to)) (ha : PE X a (liftE X.K ta)) (hbase : attributeBase o "pop" X.env (eval o X.env) = eval o X.env := by rfl)
    (hfew : ((backTo cpos (starEach [a] X.env)).all (fun x => !x.1) && (backToKw cpos (keywordEach [] X.env)).all (fun x => x.1.isSome)
      && decide ([a].length + ([] : List Keyword).length + (if ([] : List Keyword).isEmpty then 0 else 1) < 30)) = true := by rfl)
    (hline : (apos.endLine == cpos.line) = true := by rfl) (hs : starEach [a] X.env = (false, eval a X.env) :: starEach [] X.env := by rfl) (hplain : (backTo cpos (starEach [] X.env)).any (·.1) = false := by rfl) :
    PE X (.Call (.Attribute o "pop" apos) [a] [] cpos) (liftE X.K (dPop to ta)) := by
  refine pe_mono (pe_bm PySem.F.plainAttrs_list PySem.F.slot_list_pop PySem.F.type_list_pop mt_popAt ho (pa_cons ha pa_nil hs) hbase hfew hline hs hplain) ?_
  rintro σ H Q ⟨A, ρ, S, post, n, s, p, k⟩
  refine ⟨A, ρ, S, _, n, s, p, fun v1 H1 A1 d1 S1 e1 s1 r1 ⟨⟨m0, ds0, eq0, hm0⟩, p1⟩ => ?_⟩
  subst eq0
  obtain ⟨a1, rfl, ha1⟩ := r1
  obtain ⟨vs0, g1, w1⟩ := s1.get hm0 ha1
  refine ⟨.inl ⟨rfl, vs0, .inl (.inl g1)⟩, A1, ρ, S1, _, n.ext e1, s1, p1, fun v2 H2 A2 d2 S2 e2 s2 r2 ⟨m, ds, i, kk, y, eqm, hm, hd, b1, b2, hk, hy, p2⟩ => ?_⟩
  cases eqm
  subst hd
  cases (show v2 = .int i from r2)
  have ha2 := e2.at_ ha1
  obtain ⟨vs, h1, h2⟩ := s2.get hm ha2
  have hp : a1 ∈ A2 := List.mem_iff_getElem?.mpr ⟨m0, ha2⟩
  obtain ⟨u, hu, ru⟩ := h2.get hy
  have q1 : LdO (.lst vs) := .inl ⟨_, rfl⟩
  have q2 : LdO (.lst (vs.eraseIdx kk)) := .inl ⟨_, rfl⟩
  have e3 : Ext H2 A2 (upd H2 a1 (.lst (vs.eraseIdx kk))) A2 := ext_set (S := S2) hp h1 q1 q2
  exact ⟨a1, vs, i, kk, u, rfl, rfl, h1, by omega, by omega, by rw [h2.len]; exact (ixN_seq hk).1, hu, k _ _ A2 _ _ ((e1.trans e2).trans e3) (s2.set (en := .lst (ds.eraseIdx kk)) ha2 h1 q1 q2 ⟨_, upd_same, (h2.ext e3).erase kk⟩) (ru.ext e3) p2⟩
theorem de_ext (ho : PE X o (liftE X.K to)) (ha : PE X a (liftE X.K ta)) (hbase : attributeBase o "extend" X.env (eval o X.env) = eval o X.env := by rfl)
    (hfew : ((backTo cpos (starEach [a] X.env)).all (fun x => !x.1) && (backToKw cpos (keywordEach [] X.env)).all (fun x => x.1.isSome)
      && decide ([a].length + ([] : List Keyword).length + (if ([] : List Keyword).isEmpty then 0 else 1) < 30)) = true := by rfl)
    (hline : (apos.endLine == cpos.line) = true := by rfl) (hs : starEach [a] X.env = (false, eval a X.env) :: starEach [] X.env := by rfl) (hplain : (backTo cpos (starEach [] X.env)).any (·.1) = false := by rfl) :
    PE X (.Call (.Attribute o "extend" apos) [a] [] cpos) (liftE X.K (dExt to ta)) := by
  refine pe_mono (pe_bm PySem.F.plainAttrs_list PySem.F.slot_list_extend PySem.F.type_list_extend mt_extend ho (pa_cons ha pa_nil hs) hbase hfew hline hs hplain) ?_
  rintro σ H Q ⟨A, ρ, S, post, n, s, p, k⟩
  refine ⟨A, ρ, S, _, n, s, p, fun v1 H1 A1 d1 S1 e1 s1 r1 ⟨⟨m0, ds0, eq0, hm0⟩, p1⟩ => ?_⟩
  subst eq0
  obtain ⟨a1, rfl, ha1⟩ := r1
  obtain ⟨vs0, g1, w1⟩ := s1.get hm0 ha1
  refine ⟨.inl ⟨rfl, vs0, .inl (.inl g1)⟩, A1, ρ, S1, _, n.ext e1, s1, p1, fun v2 H2 A2 d2 S2 e2 s2 r2 ⟨m, m2, ds, es, eqm, hm, hd, hm2, hl, p2⟩ => ?_⟩
  cases eqm
  subst hd
  obtain ⟨a2, rfl, hb2⟩ := r2
  have ha2 := e2.at_ ha1
  obtain ⟨vs, h1, h2⟩ := s2.get hm ha2
  obtain ⟨us, g2, w2⟩ := s2.get hm2 hb2
  have hp : a1 ∈ A2 := List.mem_iff_getElem?.mpr ⟨m0, ha2⟩
  have q1 : LdO (.lst vs) := .inl ⟨_, rfl⟩
  have q2 : LdO (.lst (vs ++ us)) := .inl ⟨_, rfl⟩
  have e3 : Ext H2 A2 (upd H2 a1 (.lst (vs ++ us))) A2 := ext_set (S := S2) hp h1 q1 q2
  exact ⟨a1, a2, vs, us, rfl, rfl, h1, g2, by rw [h2.len, w2.len]; exact le_line hl, k .non _ A2 .non _ ((e1.trans e2).trans e3) (s2.set (en := .lst (ds ++ es)) ha2 h1 q1 q2 ⟨_, upd_same, (h2.ext e3).append (w2.ext e3)⟩) rfl p2⟩
end

/-! ### unpacking lists too -/
def gTupA (n : Nat) (gs : DGs) : DG := fun d ρ S post => gTup n gs d ρ S post ∨ ∃ ds, (d = .rl ds ∨ ∃ m : Nat, d = .lr m ∧ S[m]? = some (.lst ds)) ∧ ds.length = n ∧ gs ds ρ S post
theorem dg_tupA {X : Cx} {pos : Pos} {es : List Expr} {k : Nat} {gs : DGs} {n : Nat} {ws : List Nat} (hc : X.calm = true) (h : PGs X es (liftWs X.K ws gs)) (hn : (assignEach es X.env).length = n := by rfl) (hst : (assignEach es X.env).findIdx? (·.1) = none := by rfl) :
    PG X (.Tuple es k pos) (liftW X.K ws (gTupA n gs)) := by
  refine ⟨fun pins s σ H v u Q I r ⟨A, ρ, S, d, post, nn, rs, rd, p, kk⟩ => ?_⟩
  rcases p with p | ⟨ds, e, hl, p⟩
  · exact (dg_tup hc h hn hst).run pins s σ H v u Q I r ⟨A, ρ, S, d, post, nn, rs, rd, p, kk⟩
  · have hr : ∃ a vs, v = .ref a ∧ SqL X.K H a vs ∧ RelDs X.K H A ds vs := by
      rcases e with rfl | ⟨m, rfl, hm⟩
      · obtain ⟨a, vs, q, h2, h3⟩ := rd
        exact ⟨a, vs, q, h2.sq, h3⟩
      · obtain ⟨a, q, ha⟩ := rd
        obtain ⟨vs, h1, h2⟩ := rs.get hm ha
        exact ⟨a, vs, q, .inl (.inl h1), h2⟩
    obtain ⟨a, vs, rfl, h2, h3⟩ := hr
    exact (pg_unl hc h hn hst).run pins s σ H _ u Q I r ⟨a, vs, rfl, h2, by rw [h3.len]; exact hl, A, ρ, S, ds, post, nn, rs, h3, p, kk⟩
end DL
/-! ZO: two names at once, xs[i] += e, tuples compared, pairs sorted, dicts with tuples of ints as keys that nobody writes. -/
namespace DL
open PySem PySem.Spec PyProof.Rows L2
variable [HasT]

/-! ### a, b = x, y -/
section
variable {X : Cx}
def tPar2 (i j : Nat) (ta : TA) : TS := fun D σ H => ta σ H fun vs H1 => ∃ u v, vs = [u, v] ∧ D.nx ((σ.set i (some u)).set j (some v)) H1
theorem ps_par2 {i j : Nat} {x y : Str} {a b : Expr} {ta : TA} {px py pt pos : Pos} {kt k2 pt2} (hc : X.calm = true) (hN : X.N.Nodup) (hi : X.N[i]? = some x) (hj : X.N[j]? = some y) (hij : i ≠ j)
    (hx : X.env.scope.names.lookup x = some .local) (hy : X.env.scope.names.lookup y = some .local) (ha : PA X [a, b] ta)
    (hw : swappedStores [.Tuple [.Name x px, .Name y py] kt pt] (.Tuple [a, b] k2 pt2) X.env = pure (some [x, y]))
    (hs : swapsWithSole [.Tuple [.Name x px, .Name y py] kt pt] (.Tuple [a, b] k2 pt2) pos.line X.env = pure false := by rfl) :
    PS X (.Assign [.Tuple [.Name x px, .Name y py] kt pt] (.Tuple [a, b] k2 pt2) pos) (tPar2 i j ta) := by
  refine ⟨fun pins s σ H D I h => ?_⟩
  rw [exec_Assign_arm]
  refine wpAny_bind (wpAny_standAt ?_)
  rw [hs]
  refine wpAny_bind (wpAny_pure ?_)
  rw [if_neg (by decide)]
  refine wpAny_bind (Tuple_ (thn (ha.run _ pins s σ H _ I h) fun us s1 ⟨vs, H1, I1, r1, q1⟩ => ?_))
  obtain ⟨v1, v2, e1, q1⟩ := q1
  subst e1
  obtain ⟨u1, u2, rfl, r1', r2'⟩ : ∃ u1 u2, us = [u1, u2] ∧ RelV v1 u1 ∧ RelV v2 u2 := by
    cases r1 with
    | cons p q =>
      cases q with
      | cons p' q' =>
        cases q'
        exact ⟨_, _, rfl, p, p'⟩
  refine wpAny_newObj_type ?_ (by show 2 ≤ sizeLine; decide)
  have I2 : Inv X pins σ H1 { s1 with heap := s1.heap.push { cls := .type "tuple", data := .seq [u1, u2].toArray } } := I1.kept (t' := s1.toks) fun b o e => Heap.get?_push_of_some _ e
  rw [hw]
  refine wpAny_bind (wpAny_pure ?_)
  show wpAny (model X.prog X.w) X.A (do rule "assign.swapped-stores"; let items ← unpackItems (.ref s1.heap.objs.size) 2 none; assignInOrder [fun v => bindName X.env y v, fun v => bindName X.env x v] items.reverse; pure Flow.next) _ _ _
  refine wpAny_bind (wpAny_rule (wpAny_bind (unpackItems_tuple (items := #[u1, u2]) (I.ok.hd hc) (IsTup.new s1.heap _) fun h' hx' => ?_)))
  have I3 := I2.kept (h' := h') (t' := s1.toks) fun b o e => hx' b o (Nat.ne_of_lt (Heap.lt_size e)) e
  show wpAny _ _ (assignInOrder [fun v => bindName X.env y v, fun v => bindName X.env x v] [u2, u1] >>= fun _ => pure Flow.next) _ _ _
  refine wpAny_bind (assignInOrder_cons (wpAny_bindName (store_ok I3 hN hj (.inl hy) r2' (fun s2 I4 => ?_) (.inr hy))))
  refine assignInOrder_cons (wpAny_bindName (store_ok I4 hN hi (.inl hx) r1' (fun s3 I5 => assignInOrder_nil (wpAny_pure ?_)) (.inr hx)))
  rw [List.set_comm _ _ (Ne.symm hij)] at I5
  exact ⟨_, H1, I5, q1⟩
theorem ds_par2 {W : WX} {i j : Nat} {x y : Str} {a b : Expr} {ta : DA} {px py pt pos : Pos} {kt k2 pt2} (hc : X.calm = true) (hN : X.N.Nodup) (ha : PA X [a, b] (liftA X.K ta)) (hi : X.N[i]? = some x := by rfl) (hj : X.N[j]? = some y := by rfl)
    (hij : i ≠ j := by decide) (hx : X.env.scope.names.lookup x = some .local := by rfl) (hy : X.env.scope.names.lookup y = some .local := by rfl)
    (hw : swappedStores [.Tuple [.Name x px, .Name y py] kt pt] (.Tuple [a, b] k2 pt2) X.env = pure (some [x, y]) := by rfl)
    (hs : swapsWithSole [.Tuple [.Name x px, .Name y py] kt pt] (.Tuple [a, b] k2 pt2) pos.line X.env = pure false := by rfl) :
    PS X (.Assign [.Tuple [.Name x px, .Name y py] kt pt] (.Tuple [a, b] k2 pt2) pos) (liftS X.K W (dPar2 i j ta)) :=
  ps_mono (ps_par2 hc hN hi hj hij hx hy ha hw hs) fun Dn σ H ⟨A, ρ, S, E, n, s, h, k1, k2, k3, k4⟩ => ⟨A, ρ, S, _, n, s, h, fun vs H' A' ds S' e s' r ⟨u, v, hd, p⟩ => by
    subst hd
    obtain ⟨v1, v2, rfl, g1, g2⟩ := rels2 r
    exact ⟨v1, v2, rfl, k1 _ H' A' _ S' e (((n.ext e).set i g1).set j g2) s' p⟩⟩
end

/-! ### xs[i] += e, ints -/
def rGetL : V → V → Hp → VK → Prop := fun o i H Q => ∃ (a : Addr) (xs : List V) (k : Int) (y : V), o = .ref a ∧ i = .int k ∧ H a = some (.lst xs) ∧ L2.atI xs k = some y ∧ Q y H
theorem get_list {X : Cx} : PGet X rGetL := by
  intro pins s σ H x y v u Q I rx ry h
  obtain ⟨p, xs, i, z, rfl, rfl, hq, he, q⟩ := h
  cases rx
  obtain ⟨t, rfl⟩ := ry
  obtain ⟨its, r, pl, hz⟩ := I.list (.inl (.inl hq) : SqL X.K H p xs)
  obtain ⟨j, h1, h2, h3, h4, h5⟩ := atI_get he
  obtain ⟨w, ew, rw'⟩ := r.get h2
  have hl := r.length
  have hn := line63
  have fin : EP X pins σ Q w s := ⟨z, H, I, rw', q⟩
  by_cases h0 : 0 ≤ i
  · have hj : i.toNat = j := by
      rw [seqIndex_of h0 h5] at h1
      exact Option.some.inj h1
    exact wpAny_getItem_list pl.isList h0 (by omega) (by rw [hj]; simpa using ew) fin
  · have hj : (i + (its.toArray.size : Int)).toNat = j := by
      rw [seqIndex_neg (by omega) h4] at h1
      rw [List.size_toArray, ← hl]
      exact Option.some.inj h1
    exact wpAny_getItem_list_neg pl.isList (by omega) (by rw [List.size_toArray] <;> omega) (by omega) (by rw [hj]; simpa using ew) fin
def augK (f : Int → Int → Int) (o i : D) (x : Int) (post : Store → Prop) (y : D) (S : Store) : Prop := ∃ (z : Int), y = .int z ∧ setSeq o i (.int (f x z)) S post
def dAugS (f : Int → Int → Int) (to ti te : DE) : DS := fun E ρ S => to ρ S fun o S1 => ti ρ S1 fun i S2 => (∃ (n : Nat) (ds : List D) (k : Int) (x : Int), o = .lr n ∧ S2[n]? = some (.lst ds) ∧ i = .int k ∧ L2.atI ds k = some (.int x) ∧ te ρ S2 (augK f o i x (E.nx ρ)))
theorem ds_augAdd {X : Cx} {W : WX} {o i e : Expr} {to ti te : DE} {tpos pos : Pos} (ho : PE X o (liftE X.K to)) (hi : PE X i (liftE X.K ti)) (he : PE X e (liftE X.K te))
    (ha : ∀ ov iv new, augStore i ov iv new = (do holding [new, ov, iv] (setItem ov iv new); release [new, ov, iv] []; pure .next) := by intros; rfl) :
    PS X (.AugAssign (.Subscript o i tpos) .Add e pos) (liftS X.K W (dAugS (fun i j => i + j) to ti te)) :=
  ps_mono (ps_augS ho hi get_list he ip_add set_list ha) fun Dn σ H ⟨A, ρ, S, E, n, s, h, k1, k2, k3, k4⟩ => ⟨A, ρ, S, _, n, s, h, fun v1 H1 A1 d1 S1 e1 s1 r1 p1 =>
    ⟨A1, ρ, S1, _, n.ext e1, s1, p1, fun v2 H2 A2 d2 S2 e2 s2 r2 ⟨m, ds, k, x, hd1, hm, hd2, hat, p2⟩ => by
      subst hd1 hd2
      obtain ⟨a, rfl, ha1⟩ := r1
      have ha2 := e2.at_ ha1
      obtain ⟨vs, g1, g2⟩ := s2.get hm ha2
      cases (show v2 = .int k from r2)
      obtain ⟨u, hu, ru⟩ := g2.atI hat
      cases (show u = .int x from ru)
      refine ⟨a, vs, k, .int x, rfl, rfl, g1, hu, A2, ρ, S2, _, (n.ext e1).ext e2, s2, p2, fun v3 H3 A3 d3 S3 e3 s3 r3 ⟨z, hz, p3⟩ => ?_⟩
      subst hz
      cases (show v3 = .int z from r3)
      refine ⟨x, z, rfl, rfl, ?_⟩
      have e123 := (e1.trans e2).trans e3
      exact rul_set (K := X.K) H3 A3 S3 (.lr m) (.int k) (.int (x + z)) (.ref a) (.int k) (.int (x + z)) _ _ s3 ⟨a, rfl, e3.at_ ha2⟩ rfl rfl p3 fun H4 A4 S4 e4 s4 p4 => k1 σ H4 A4 ρ S4 (e123.trans e4) (n.ext (e123.trans e4)) s4 p4⟩⟩

/-! ### tuples of ints compared -/
def oLt2 : D2 := fun x y S post => (match x, y with
  | .int i, .int j => post (.bl (decide (i < j))) S
  | _, _ => False) ∨ ∃ ns ms : List Int, x = .tup (ns.map .int) ∧ y = .tup (ms.map .int) ∧ post (.bl (HT.lexLt ns ms)) S
def rLt2 (K : PySem.W.Frag) : R2 := fun x y H Q => rI0 (fun i j => .bl (decide (i < j))) x y H Q ∨ rLtT K x y H Q
theorem op_lt2 {X : Cx} (hu : X.A.units + 64 < cLine) : OpR X (compareOp .Lt) (rLt2 X.K) := OpR.or op_lt (op_ltT (by omega))
theorem rul_lt2 {K : PySem.W.Frag} : Rul2 K oLt2 (rLt2 K) := by
  intro H A S d1 d2 v1 v2 post Q s r1 r2 h k
  rcases h with h | ⟨ns, ms, rfl, rfl, p⟩
  · cases d1 <;> cases d2 <;> try exact False.elim h
    rename_i i j
    cases (show v1 = .int i from r1)
    cases (show v2 = .int j from r2)
    exact .inl ⟨i, j, rfl, rfl, k.now (d := .bl _) s rfl h⟩
  · obtain ⟨a, us, e1, h1, w1⟩ := r1
    obtain ⟨b, ws, e2, h2, w2⟩ := r2
    have q1 := rels_int w1
    have q2 := rels_int w2
    subst q1 q2
    exact .inr ⟨a, b, ns, ms, e1, e2, h1.sq, h2.sq, k.now (d := .bl _) s rfl p⟩

/-! ### sorted(xs), pairs of ints -/
def pT (p : Int × Int) : D := .tup [.int p.1, .int p.2]
def lexLe (p q : Int × Int) : Prop := p.1 < q.1 ∨ (p.1 = q.1 ∧ p.2 ≤ q.2)
def intOf : Value → Int
  | .int i _ => i
  | _ => 0
def intsAt (h : Heap) : Value → Int × Int
  | .ref t => match h.get? t with
    | some o => match o.data with
      | .seq its _ => (intOf (its.getD 0 .none), intOf (its.getD 1 .none))
      | _ => (0, 0)
    | none => (0, 0)
  | _ => (0, 0)
def rSortedPT (K : PySem.W.Frag) : List V → Hp → VK → Prop := fun vs H Q => ∃ (a : Addr) (as : List (Addr × Int × Int)), vs = [V.ref a] ∧ SqL K H a (as.map fun t => V.ref t.1) ∧ (∀ t ∈ as, SqT K H t.1 [.int t.2.1, .int t.2.2]) ∧
  ∀ (bs : List (Addr × Int × Int)) (p : Addr), bs.Perm as → (bs.map (·.2)).Pairwise lexLe → H p = none → Q (.ref p) (upd H p (.lst (bs.map fun t => V.ref t.1)))
theorem vals_refs : ∀ {as : List (Addr × Int × Int)} {us : List Value}, Vals (as.map fun t => V.ref t.1) us → us = as.map fun t => Value.ref t.1
  | [], us, r => by
    cases r
    rfl
  | t :: as, us, r => by
    cases r with
    | cons h t' =>
      cases h
      rw [vals_refs t', List.map_cons]
theorem cr_sortedPT {X : Cx} : CallR X (.builtin "sorted") (rSortedPT X.K) := by
  intro pins s σ H vs us Q I r h
  obtain ⟨a, as, rfl, hs, hx, q⟩ := h
  obtain ⟨its, rv, hl, hz⟩ := I.list hs
  obtain ⟨u, rfl, ru⟩ := vals1 r
  obtain rfl : u = Value.ref a := ru
  have ei := vals_refs rv
  subst ei
  have hk : ∀ t ∈ as, Srt.IsPair s.heap (.ref t.1) t.2.1 t.2.2 ∧ intsAt s.heap (.ref t.1) = t.2 := fun t ht => by
    obtain ⟨its2, r2, ⟨o, ho, hc, n, hd⟩, _⟩ := I.tuple (hx t ht)
    obtain ⟨u1, u2, rfl, ri, rj⟩ := vals2 r2
    obtain ⟨t1, rfl⟩ := ri
    obtain ⟨t2, rfl⟩ := rj
    refine ⟨⟨t.1, o, t1, t2, n, rfl, ho, hc, hd⟩, ?_⟩
    unfold intsAt
    simp only [ho, hd]
    rfl
  refine SrtO.sorted_pairsO (k := intsAt s.heap) hl.isList (by rw [← rv.length]; exact hz) (fun v hv => ?_) fun h' d out h1 h2 kp hd hn => ?_
  · obtain ⟨t, ht, rfl⟩ := List.mem_map.mp hv
    obtain ⟨g1, g2⟩ := hk t ht
    rw [g2]
    exact g1
  · obtain ⟨n, hn⟩ := hn
    -- what stands there, as triples
    have hmem : ∀ v ∈ out, ∃ t ∈ as, v = Value.ref t.1 := fun v hv => by
      obtain ⟨t, ht, e⟩ := List.mem_map.mp (h2.perm.mem_iff.mp hv)
      exact ⟨t, ht, e.symm⟩
    let mk : Value → Addr × Int × Int := fun v => (match v with | .ref t => t | _ => 0, intsAt s.heap v)
    have mk_of : ∀ t ∈ as, mk (.ref t.1) = t := fun t ht => by
      show (t.1, intsAt s.heap (.ref t.1)) = t
      rw [(hk t ht).2]
    have hp : (out.map mk).Perm as := by
      have := h2.perm.map mk
      rw [List.map_map] at this
      have e : as.map (mk ∘ fun t => Value.ref t.1) = as := by
        conv => rhs; rw [← List.map_id as]
        exact List.map_congr_left fun t ht => mk_of t ht
      rwa [e] at this
    have eo : (out.map mk).map (fun t => V.ref t.1) = out.map backV := by
      rw [List.map_map]
      refine List.map_congr_left fun v hv => ?_
      obtain ⟨t, _, rfl⟩ := hmem v hv
      rfl
    have e2 : (out.map mk).map (·.2) = out.map (intsAt s.heap) := by
      rw [List.map_map]
      rfl
    have h3 : ∀ u ∈ out, ∃ a, u = Value.ref a := fun u hu => by
      obtain ⟨t, _, e⟩ := hmem u hu
      exact ⟨_, e⟩
    have hs2 : ((out.map mk).map (·.2)).Pairwise lexLe := by
      rw [e2]
      refine List.pairwise_map.mpr (h1.imp fun {x y} hxy => ?_)
      have := SrtO.lexB_no.mp hxy
      unfold lexLe
      omega
    refine ⟨.ref d, upd H d (.lst ((out.map mk).map fun t => V.ref t.1)), I.laid (t' := s.toks) kp hd ⟨?_, out, n, by rw [eo]; exact vals_back h3, hn⟩, rfl, q _ d hp hs2 (I.hok.fresh hd)⟩
    rw [List.length_map, hp.length_eq]
    simpa using hz
theorem rels_pT {K : PySem.W.Frag} {H : Hp} {A : List Addr} : ∀ {ps : List (Int × Int)} {vs : List V}, RelDs K H A (ps.map pT) vs → ∃ as : List (Addr × Int × Int), vs = as.map (fun t => V.ref t.1) ∧ as.map (·.2) = ps ∧ ∀ t ∈ as, RelD K H A (pT t.2) (.ref t.1) ∧ SqT K H t.1 [.int t.2.1, .int t.2.2]
  | [], _, h => ⟨[], h, rfl, fun _ q => nomatch q⟩
  | p :: ps, _, ⟨v, r, rfl, h1, h2⟩ => by
    obtain ⟨as, rfl, e, hh⟩ := rels_pT h2
    obtain ⟨a, us, rfl, ht, hv⟩ := id h1
    obtain ⟨x, y, rfl, rx, ry⟩ := rels2 hv
    cases (show x = .int _ from rx)
    cases (show y = .int _ from ry)
    refine ⟨(a, p) :: as, rfl, by rw [List.map_cons, e], fun t ht2 => ?_⟩
    rcases List.mem_cons.mp ht2 with rfl | ht2
    · exact ⟨h1, ht.sq⟩
    · exact hh t ht2
theorem pT_rels {K : PySem.W.Frag} {H : Hp} {A : List Addr} : ∀ {as : List (Addr × Int × Int)}, (∀ t ∈ as, RelD K H A (pT t.2) (.ref t.1)) → RelDs K H A ((as.map (·.2)).map pT) (as.map fun t => V.ref t.1)
  | [], _ => rfl
  | t :: as, h => ⟨_, _, rfl, h t List.mem_cons_self, pT_rels fun u hu => h u (List.mem_cons_of_mem _ hu)⟩
def cSortedP : DC := fun ds S post => ∃ (x : D) (ps : List (Int × Int)), ds = [x] ∧ seqOf S x (ps.map pT) ∧ (∀ ys, x ≠ .tup ys) ∧ ∀ qs : List (Int × Int), qs.Perm ps → qs.Pairwise lexLe → post (.lr S.length) (S ++ [.lst (qs.map pT)])
theorem perm_back {α β : Type} [DecidableEq α] (f : α → β) : True := trivial
theorem rul_sortedP {K : PySem.W.Frag} : RulC K cSortedP (rSortedPT K) := by
  intro H A S ds vs post Q s r hh k
  obtain ⟨x, ps, rfl, hq, hx, h⟩ := hh
  obtain ⟨v, rfl, rv⟩ := rels1 r
  obtain ⟨a, us, rfl, hs, w⟩ := seq_list s hq hx rv
  obtain ⟨as, rfl, e, hh⟩ := rels_pT w
  refine ⟨a, as, rfl, hs, fun t ht => (hh t ht).2, fun bs p hp hs2 hn => ?_⟩
  refine fin_list s k hn (pT_rels fun t ht => (hh t (hp.mem_iff.mp ht)).1) (h _ (by rw [← e]; exact hp.map _) hs2)
def cSortedB : DC := fun ds S post => cSorted ds S post ∨ cSortedP ds S post
def rSortedB (K : PySem.W.Frag) : List V → Hp → VK → Prop := fun xs H Q => (rSortedI K xs H Q ∨ rSortedDI xs H Q) ∨ rSortedPT K xs H Q
theorem call_sortedB {X : Cx} (hc : X.calm = true) : CallR X (.builtin "sorted") (rSortedB X.K) := CallR.or (call_sortedA hc) cr_sortedPT
theorem rul_sortedB {K : PySem.W.Frag} : RulC K cSortedB (rSortedB K) := by
  intro H A S ds vs post Q s r hh k
  rcases hh with hh | hh
  · exact .inl (rul_sorted H A S ds vs post Q s r hh k)
  · exact .inr (rul_sortedP H A S ds vs post Q s r hh k)
end DL
/-! ZP: for a, b in zip(x, y); for i, a in enumerate(x). -/
namespace DL
open PySem PySem.Spec PyProof.Rows L2
variable [HasT]

/-! ### zip of two -/
def It2 (K : PySem.W.Frag) (x1 x2 : D) (a1 a2 : Addr) : It where
  go := fun i H => ∃ A S xs1 xs2, Src K x1 a1 xs1 H A S ∧ Src K x2 a2 xs2 H A S ∧ i < xs1.length ∧ i < xs2.length
  yld := fun i H x H' => ∃ T v1 v2, x = .ref T ∧ H T = none ∧ H' = upd H T (.tup [v1, v2]) ∧ ValAt K x1 a1 i H v1 ∧ ValAt K x2 a2 i H v2
  stop := fun i H => ∃ A S xs1 xs2, Src K x1 a1 xs1 H A S ∧ Src K x2 a2 xs2 H A S ∧ i = min xs1.length xs2.length
theorem turn2 {P : Program} {w : World} {K : PySem.W.Frag} {elts : List Expr} {kk : Nat} {tpos : Pos} {x1 x2 : D} {a1 a2 z TI TO i1 i2 : Addr} (S2 : ZipSep2 z TI TO i1 i2 [i1, a1] [i2, a2]) (n1 : a1 ≠ i1) (n2 : a2 ≠ i2) :
    Turn P w K (.Tuple elts kk tpos) (It2 K x1 x2 a1 a2) [z, TI, TO, i1, i2] z (fun i h => IsZip h z TI TO .none ∧ IsTupOf2 h TI (.ref i1) (.ref i2) ∧ (∃ b1 b2, IsTupOf2 h TO b1 b2) ∧ SIt (kindD x1) h i1 a1 i ∧ SIt (kindD x2) h i2 a2 i) where
  mem := by simp
  obj := fun i h st c hc => by
    obtain ⟨hz, hTI, ⟨_, _, hTO⟩, h1, h2⟩ := st
    have hc' : c = z ∨ c = TI ∨ c = TO ∨ c = i1 ∨ c = i2 := by simpa using hc
    rcases hc' with rfl | rfl | rfl | rfl | rfl
    · exact ⟨_, hz, fun v q => nomatch q⟩
    · exact ⟨_, hTI, fun v q => nomatch q⟩
    · exact ⟨_, hTO, fun v q => nomatch q⟩
    · exact h1.obj
    · exact h2.obj
  keep := fun i h h' st k => by
    obtain ⟨hz, hTI, ⟨b1, b2, hTO⟩, h1, h2⟩ := st
    exact ⟨k z (by simp) _ hz, k TI (by simp) _ hTI, ⟨b1, b2, k TO (by simp) _ hTO⟩, h1.at_ fun o q => k i1 (by simp) o q, h2.at_ fun o q => k i2 (by simp) o q⟩
  item := by
    intro X hP hw hK hc i pins s σ H E I hf st hg
    subst hP hw hK
    obtain ⟨hz, hTI, hTO, h1, h2⟩ := st
    obtain ⟨A, S, xs1, xs2, c1, c2, l1, l2⟩ := hg
    obtain ⟨t1, vs1, rv1, r1, p1, m1⟩ := src_inv I c1
    obtain ⟨t2, vs2, rv2, r2, p2, m2⟩ := src_inv I c2
    have hh : X.A.in1.handled = none := I.ok.hd hc
    have G := GoesN.zip2 (prog := X.prog) (w := X.w) (A := X.A) (elts := elts) (x1 := kk) (pos := tpos) S2 (sdraws (kindD x1) hh i1 a1 n1 t1.toArray) (sdraws (kindD x2) hh i2 a2 n2 t2.toArray)
    have hlt : i < min t1.toArray.size t2.toArray.size := by
      simp only [List.size_toArray]
      omega
    refine thn (G.goes i s (fun v s2 => ∃ x H', Inv X pins σ H' s2 ∧ RelV x v ∧ (It2 X.K x1 x2 a1 a2).yld i H x H' ∧ (IsZip s2.heap z TI TO .none ∧ IsTupOf2 s2.heap TI (.ref i1) (.ref i2) ∧ (∃ b1 b2, IsTupOf2 s2.heap TO b1 b2) ∧ SIt (kindD x1) s2.heap i1 a1 (i + 1) ∧ SIt (kindD x2) s2.heap i2 a2 (i + 1)) ∧ ∀ b ∈ [z, TI, TO, i1, i2], H' b = none) _ hlt ⟨hz, hTI, hTO, ⟨h1, p1⟩, ⟨h2, p2⟩⟩ fun v h' tk hY st' hkp htk => ?_) fun r s1 q => q
    obtain ⟨T, u1, u2, rfl, hnew, y1, y2, hT⟩ := hY
    obtain ⟨v1, d1, ru1, hd1, rd1⟩ := src_item rv1 r1 y1
    obtain ⟨v2, d2, ru2, hd2, rd2⟩ := src_item rv2 r2 y2
    have nw : ObjOk X.prog X.w (upd H T (.tup [v1, v2])) h' T (.tup [v1, v2]) := ⟨by show 2 ≤ sizeLine; decide, [u1, u2], .cons ru1 (.cons ru2 .nil), hT⟩
    have I1 : Inv X pins σ (upd H T (.tup [v1, v2])) { s with heap := h', toks := tk } := I.turnedNew (ch := [z, TI, TO, i1, i2]) (fun c o hb q => hkp c o (fun q' => hb (by simp at q' ⊢; rcases q' with e | e | e | e <;> simp [e])) q) hf hnew nw
    obtain ⟨g1, g2, g3, ⟨g4, _⟩, ⟨g5, _⟩⟩ := st'
    refine ⟨.ref T, _, I1, rfl, ⟨T, v1, v2, rfl, I.hok.fresh hnew, rfl, valAt_of I p1 y1 ru1, valAt_of I p2 y2 ru2⟩, ⟨g1, g2, g3, g4, g5⟩, fun c hcm => ?_⟩
    obtain ⟨o, ho, _⟩ : ∃ o, s.heap.get? c = some o ∧ True := by
      obtain ⟨b1, b2, hTO'⟩ := hTO
      have hc' : c = z ∨ c = TI ∨ c = TO ∨ c = i1 ∨ c = i2 := by simpa using hcm
      rcases hc' with rfl | rfl | rfl | rfl | rfl
      · exact ⟨_, hz, trivial⟩
      · exact ⟨_, hTI, trivial⟩
      · exact ⟨_, hTO', trivial⟩
      · exact ⟨_, h1.obj.choose_spec.1, trivial⟩
      · exact ⟨_, h2.obj.choose_spec.1, trivial⟩
    rw [upd_ne (Nat.ne_of_lt (Nat.lt_of_lt_of_le (Heap.lt_size ho) hnew))]
    exact (hf c hcm).1
  done := by
    intro X hP hw hK hc i pins s σ H E I hf st hg
    subst hP hw hK
    obtain ⟨hz, hTI, hTO, h1, h2⟩ := st
    obtain ⟨A, S, xs1, xs2, c1, c2, hi⟩ := hg
    obtain ⟨t1, vs1, rv1, r1, p1, m1⟩ := src_inv I c1
    obtain ⟨t2, vs2, rv2, r2, p2, m2⟩ := src_inv I c2
    have hh : X.A.in1.handled = none := I.ok.hd hc
    have G := GoesN.zip2 (prog := X.prog) (w := X.w) (A := X.A) (elts := elts) (x1 := kk) (pos := tpos) S2 (sdraws (kindD x1) hh i1 a1 n1 t1.toArray) (sdraws (kindD x2) hh i2 a2 n2 t2.toArray)
    have hi' : i = min t1.toArray.size t2.toArray.size := by
      simp only [List.size_toArray]
      rw [m1, m2]
      exact hi
    subst hi'
    exact G.stops s _ _ ⟨hz, hTI, hTO, ⟨h1, p1⟩, ⟨h2, p2⟩⟩ fun h' tk hkp htk => I.turnedL (ch := [z, TI, TO, i1, i2]) (fun c o hb q => hkp c o (fun q' => hb (by simp at q' ⊢; rcases q' with e | e | e | e <;> simp [e])) q) hf
  self := fun A i s Q E st h => wpAny_pyIter_zip st.1 h
def zip2D (xs ys : List D) : List D := (xs.zip ys).map fun p => D.ztup [p.1, p.2]
theorem zip2D_len (xs ys : List D) : (zip2D xs ys).length = min xs.length ys.length := by
  simp only [zip2D, List.length_map, List.length_zip]
theorem zip2D_get {xs ys : List D} {i : Nat} {d : D} (h : (zip2D xs ys)[i]? = some d) : ∃ a b, xs[i]? = some a ∧ ys[i]? = some b ∧ d = .ztup [a, b] := by
  have hi := (List.getElem?_eq_some_iff.mp h).1
  rw [zip2D_len] at hi
  have h1 : i < xs.length := by omega
  have h2 : i < ys.length := by omega
  refine ⟨xs[i], ys[i], List.getElem?_eq_getElem h1, List.getElem?_eq_getElem h2, ?_⟩
  obtain ⟨_, e⟩ := List.getElem?_eq_some_iff.mp h
  rw [← e]
  simp [zip2D]
def wZip2 (t : DA) : DIt := fun ρ S post => t ρ S fun ds S1 => ∃ x y xs ys, ds = [x, y] ∧ seqOf S1 x xs ∧ seqOf S1 y ys ∧ post (zip2D xs ys) (fun S2 => seqOf S2 x xs ∧ seqOf S2 y ys) S1
theorem itok2 {K : PySem.W.Frag} {H : Hp} {A : List Addr} {x y : D} {a b : Addr} {xs ys : List D} (rx : RelD K H A x (.ref a)) (ry : RelD K H A y (.ref b)) :
    ItOk K (It2 K x y a b) H A (zip2D xs ys) fun S2 => seqOf S2 x xs ∧ seqOf S2 y ys := by
  intro H2 A2 S2 e s ⟨q1, q2⟩
  have s1 : Src K x a xs H2 A2 S2 := ⟨s, rx.ext e, q1⟩
  have s2 : Src K y b ys H2 A2 S2 := ⟨s, ry.ext e, q2⟩
  refine ⟨⟨A2, S2, xs, ys, s1, s2, zip2D_len ..⟩, fun i d hd => ?_⟩
  obtain ⟨d1, d2, h1, h2, rfl⟩ := zip2D_get hd
  refine ⟨⟨A2, S2, xs, ys, s1, s2, (List.getElem?_eq_some_iff.mp h1).1, (List.getElem?_eq_some_iff.mp h2).1⟩, fun v H3 hy => ?_⟩
  obtain ⟨T, v1, v2, rfl, hT, rfl, w1, w2⟩ := hy
  obtain ⟨e1, g1, r1⟩ := w1 A2 S2 xs s1
  obtain ⟨e2, g2, r2⟩ := w2 A2 S2 ys s2
  rw [h1] at g1
  rw [h2] at g2
  cases g1
  cases g2
  exact ⟨same_upd hT, tup_rel hT ⟨v1, _, rfl, r1, v2, _, rfl, r2, rfl⟩⟩
theorem di_zip2 {X : Cx} {e1 e2 : Expr} {t : DA} {p pos tpos : Pos} {elts : List Expr} {kk : Nat} (hg : Gl X "zip") (hm : X.mg "zip" = none) (ha : PA X [e1, e2] (liftA X.K t))
    (hs : starEach [e1, e2] X.env = (false, eval e1 X.env) :: starEach [e2] X.env := by rfl) (hpl : (backTo pos (starEach [e2] X.env)).any (·.1) = false := by rfl) :
    PI X (.Tuple elts kk tpos) (.Call (.Name "zip" p) [e1, e2] [] pos) (liftI X.K (wZip2 t)) := by
  refine ⟨fun pins s σ H R I ⟨A, ρ, S, post, n, rs, h, k⟩ => ?_⟩
  refine Call_ (ld_blt I hg hm PyProof.Rows.boot_zip (PyProof.Rows.callWith_type1 (thn (ha.run pos pins s σ H (fun vs H1 => ∃ a b A1 S1 x y xs ys, vs = [.ref a, .ref b] ∧ Ext H A H1 A1 ∧ Src X.K x a xs H1 A1 S1 ∧ Src X.K y b ys H1 A1 S1 ∧ post (zip2D xs ys) (fun S2 => seqOf S2 x xs ∧ seqOf S2 y ys) S1) I
    ⟨A, ρ, S, _, n, rs, h, fun vs H1 A1 ds S1 e s1 r hh => ?_⟩) fun us s1 ⟨vs, H1, I1, r1, q1⟩ => ?_) hs hpl))
  · obtain ⟨x, y, xs, ys, rfl, q1, q2, hp⟩ := hh
    obtain ⟨v1, v2, rfl, r1, r2⟩ := rels2 r
    obtain ⟨a, rfl⟩ := seq_ref s1 q1 r1
    obtain ⟨b, rfl⟩ := seq_ref s1 q2 r2
    exact ⟨a, b, A1, S1, x, y, xs, ys, rfl, e, ⟨s1, r1, q1⟩, ⟨s1, r2, q2⟩, hp⟩
  · obtain ⟨a, b, A1, S1, x, y, xs, ys, rfl, e, c1, c2, hp⟩ := q1
    cases r1 with
    | cons w1 r1 =>
      cases r1 with
      | cons w2 r1 =>
        cases r1
        cases w1
        cases w2
        obtain ⟨t1, _, _, _, p1, _⟩ := src_inv I1 c1
        obtain ⟨t2, _, _, _, p2, _⟩ := src_inv I1 c2
        have la := c1.lt I1
        have lb := c2.lt I1
        refine zip_begins2 (sbegins (kindD x) a t1.toArray) (sbegins (kindD y) b t2.toArray) p1 p2 fun h' hz hTI hTO o1 o2 hsz hk => wpAny_pyIter_zip hz ?_
        have I2 : Inv X pins σ H1 { s1 with heap := h' } := I1.kept (t' := s1.toks) hk
        have off : ∀ {N a : Nat} (j : Nat), a < N → a ≠ N + j := fun j q => by omega
        have off0 : ∀ {N a : Nat}, a < N → a ≠ N := fun q => by omega
        have sep := zip_sep2 (N := s1.heap.objs.size) (fp1 := [a]) (fp2 := [b]) (fun b' hb => by rw [List.mem_singleton.mp hb]; exact la) (fun b' hb => by rw [List.mem_singleton.mp hb]; exact lb)
        refine ⟨_, _, _, It2 X.K x y a b, H1, rfl, I2, turn2 sep (off0 la) (off 1 lb), ⟨hz, hTI, ⟨_, _, hTO⟩, sit_start o1, sit_start o2⟩, fun d hd => ?_, k _ H1 A1 _ _ S1 e c1.rs (itok2 c1.rd c2.rd) hp⟩
        have hle : s1.heap.objs.size ≤ d := by
          have hd' : d = s1.heap.objs.size + 4 ∨ d = s1.heap.objs.size + 2 ∨ d = s1.heap.objs.size + 3 ∨ d = s1.heap.objs.size ∨ d = s1.heap.objs.size + 1 := by simpa using hd
          rcases hd' with q | q | q | q | q
          · rw [q]; exact Nat.le_add_right _ _
          · rw [q]; exact Nat.le_add_right _ _
          · rw [q]; exact Nat.le_add_right _ _
          · rw [q]; exact Nat.le_refl _
          · rw [q]; exact Nat.le_add_right _ _
        exact I1.fpOk hle (I1.hok.fresh hle)

/-! ### enumerate of a list or a tuple -/
def ItN (K : PySem.W.Frag) (x1 : D) (a1 : Addr) : It where
  go := fun i H => ∃ A S xs1, Src K x1 a1 xs1 H A S ∧ i < xs1.length
  yld := fun i H x H' => ∃ T v1, x = .ref T ∧ H T = none ∧ H' = upd H T (.tup [.int (i : Int), v1]) ∧ ValAt K x1 a1 i H v1
  stop := fun i H => ∃ A S xs1, Src K x1 a1 xs1 H A S ∧ i = xs1.length
theorem turnN {P : Program} {w : World} {K : PySem.W.Frag} {elts : List Expr} {kk : Nat} {tpos : Pos} {x1 : D} {a1 e it : Addr} (hei : e ≠ it) (hea : e ≠ a1) (n1 : a1 ≠ it) :
    Turn P w K (.Tuple elts kk tpos) (ItN K x1 a1) [e, it] e (fun i h => (∃ old, IsEnum h e it (0 + (i : Int)) old) ∧ SIt (kindD x1) h it a1 i) where
  mem := by simp
  obj := fun i h st c hc => by
    obtain ⟨⟨old, he⟩, h1⟩ := st
    have hc' : c = e ∨ c = it := by simpa using hc
    rcases hc' with rfl | rfl
    · exact ⟨_, he, fun v q => nomatch q⟩
    · exact h1.obj
  keep := fun i h h' st k => by
    obtain ⟨⟨old, he⟩, h1⟩ := st
    exact ⟨⟨old, k e (by simp) _ he⟩, h1.at_ fun o q => k it (by simp) o q⟩
  item := by
    intro X hP hw hK hc i pins s σ H E I hf st hg
    subst hP hw hK
    obtain ⟨⟨old, he⟩, h1⟩ := st
    obtain ⟨A, S, xs1, c1, l1⟩ := hg
    obtain ⟨t1, vs1, rv1, r1, p1, m1⟩ := src_inv I c1
    have hh : X.A.in1.handled = none := I.ok.hd hc
    have G := GoesN.enumFrom (prog := X.prog) (w := X.w) (A := X.A) (elts := elts) (x1 := kk) (pos := tpos) 0 (sdraws (kindD x1) hh it a1 n1 t1.toArray) e hei (by simp [hei, hea]) (by simp)
    have hlt : i < t1.toArray.size := by
      simp only [List.size_toArray]
      omega
    refine thn (G.goes i s (fun v s2 => ∃ x H', Inv X pins σ H' s2 ∧ RelV x v ∧ (ItN X.K x1 a1).yld i H x H' ∧ ((∃ old, IsEnum s2.heap e it (0 + ((i + 1 : Nat) : Int)) old) ∧ SIt (kindD x1) s2.heap it a1 (i + 1)) ∧ ∀ b ∈ [e, it], H' b = none) _ hlt ⟨⟨old, he⟩, ⟨h1, p1⟩⟩ fun v h' tk hY st' hkp htk => ?_) fun r s1 q => q
    obtain ⟨T, t, u1, rfl, hnew, y1, hT⟩ := hY
    rw [Int.zero_add] at hT
    obtain ⟨v1, d1, ru1, hd1, rd1⟩ := src_item rv1 r1 y1
    have nw : ObjOk X.prog X.w (upd H T (.tup [.int (i : Int), v1])) h' T (.tup [.int (i : Int), v1]) := ⟨by show 2 ≤ sizeLine; decide, [.int (i : Int) t, u1], .cons ⟨t, rfl⟩ (.cons ru1 .nil), hT⟩
    have I1 : Inv X pins σ (upd H T (.tup [.int (i : Int), v1])) { s with heap := h', toks := tk } := I.turnedNew (ch := [e, it]) (fun c o hb q => hkp c o (fun q' => hb (by simpa using q')) q) hf hnew nw
    obtain ⟨g1, ⟨g4, _⟩⟩ := st'
    refine ⟨.ref T, _, I1, rfl, ⟨T, v1, rfl, I.hok.fresh hnew, rfl, valAt_of I p1 y1 ru1⟩, ⟨g1, g4⟩, fun c hcm => ?_⟩
    obtain ⟨o, ho, _⟩ : ∃ o, s.heap.get? c = some o ∧ True := by
      have hc' : c = e ∨ c = it := by simpa using hcm
      rcases hc' with rfl | rfl
      · exact ⟨_, he, trivial⟩
      · exact ⟨_, h1.obj.choose_spec.1, trivial⟩
    rw [upd_ne (Nat.ne_of_lt (Nat.lt_of_lt_of_le (Heap.lt_size ho) hnew))]
    exact (hf c hcm).1
  done := by
    intro X hP hw hK hc i pins s σ H E I hf st hg
    subst hP hw hK
    obtain ⟨⟨old, he⟩, h1⟩ := st
    obtain ⟨A, S, xs1, c1, hi⟩ := hg
    obtain ⟨t1, vs1, rv1, r1, p1, m1⟩ := src_inv I c1
    have hh : X.A.in1.handled = none := I.ok.hd hc
    have G := GoesN.enumFrom (prog := X.prog) (w := X.w) (A := X.A) (elts := elts) (x1 := kk) (pos := tpos) 0 (sdraws (kindD x1) hh it a1 n1 t1.toArray) e hei (by simp [hei, hea]) (by simp)
    have hi' : i = t1.toArray.size := by
      simp only [List.size_toArray]
      rw [m1]
      exact hi
    subst hi'
    exact G.stops s _ _ ⟨⟨old, he⟩, ⟨h1, p1⟩⟩ fun h' tk hkp htk => I.turnedL (ch := [e, it]) (fun c o hb q => hkp c o (fun q' => hb (by simpa using q')) q) hf
  self := fun A i s Q E st h => wpAny_pyIter_enum st.1.choose_spec h
def enum1D (xs : List D) : List D := (List.range xs.length).map fun (i : Nat) => D.ztup [.int (i : Int), xs.getD i .non]
theorem enum1D_len (xs : List D) : (enum1D xs).length = xs.length := by simp [enum1D]
theorem enum1D_get {xs : List D} {i : Nat} {d : D} (h : (enum1D xs)[i]? = some d) : ∃ a, xs[i]? = some a ∧ d = .ztup [.int (i : Int), a] := by
  have hi := (List.getElem?_eq_some_iff.mp h).1
  rw [enum1D_len] at hi
  refine ⟨xs[i], List.getElem?_eq_getElem hi, ?_⟩
  unfold enum1D at h
  rw [List.getElem?_map, List.getElem?_range hi] at h
  rw [← Option.some.inj h]
  show D.ztup [.int (i : Int), xs.getD i .non] = _
  rw [List.getD_eq_getElem?_getD, List.getElem?_eq_getElem hi]
  rfl
def wEnum1 (t : DA) : DIt := fun ρ S post => t ρ S fun ds S1 => ∃ x xs, ds = [x] ∧ seqOf S1 x xs ∧ xs.length ≤ 100000 ∧ post (enum1D xs) (fun S2 => seqOf S2 x xs) S1
theorem itokN {K : PySem.W.Frag} {H : Hp} {A : List Addr} {x : D} {a : Addr} {xs : List D} (rx : RelD K H A x (.ref a)) : ItOk K (ItN K x a) H A (enum1D xs) fun S2 => seqOf S2 x xs := by
  intro H2 A2 S2 e s q1
  have s1 : Src K x a xs H2 A2 S2 := ⟨s, rx.ext e, q1⟩
  refine ⟨⟨A2, S2, xs, s1, enum1D_len ..⟩, fun i d hd => ?_⟩
  obtain ⟨d1, h1, rfl⟩ := enum1D_get hd
  refine ⟨⟨A2, S2, xs, s1, (List.getElem?_eq_some_iff.mp h1).1⟩, fun v H3 hy => ?_⟩
  obtain ⟨T, v1, rfl, hT, rfl, w1⟩ := hy
  obtain ⟨e1, g1, r1⟩ := w1 A2 S2 xs s1
  rw [h1] at g1
  cases g1
  exact ⟨same_upd hT, tup_rel hT ⟨_, _, rfl, rfl, v1, _, rfl, r1, rfl⟩⟩
theorem di_enum1 {X : Cx} {e1 : Expr} {t : DA} {p pos tpos : Pos} {elts : List Expr} {kk : Nat} (hg : Gl X "enumerate") (hm : X.mg "enumerate" = none) (ha : PA X [e1] (liftA X.K t))
    (hs : starEach [e1] X.env = (false, eval e1 X.env) :: starEach [] X.env := by rfl) (hpl : (backTo pos (starEach [] X.env)).any (·.1) = false := by rfl) :
    PI X (.Tuple elts kk tpos) (.Call (.Name "enumerate" p) [e1] [] pos) (liftI X.K (wEnum1 t)) := by
  refine ⟨fun pins s σ H R I ⟨A, ρ, S, post, n, rs, h, k⟩ => ?_⟩
  refine Call_ (ld_blt I hg hm PyProof.Rows.boot_enumerate (PyProof.Rows.callWith_type1 (thn (ha.run pos pins s σ H (fun vs H1 => ∃ a A1 S1 x xs, vs = [.ref a] ∧ Ext H A H1 A1 ∧ Src X.K x a xs H1 A1 S1 ∧ post (enum1D xs) (fun S2 => seqOf S2 x xs) S1) I
    ⟨A, ρ, S, _, n, rs, h, fun vs H1 A1 ds S1 e s1 r hh => ?_⟩) fun us s1 ⟨vs, H1, I1, r1, q1⟩ => ?_) hs hpl))
  · obtain ⟨x, xs, rfl, q1, _, hp⟩ := hh
    obtain ⟨v1, rfl, r1⟩ := rels1 r
    obtain ⟨a, rfl⟩ := seq_ref s1 q1 r1
    exact ⟨a, A1, S1, x, xs, rfl, e, ⟨s1, r1, q1⟩, hp⟩
  · obtain ⟨a, A1, S1, x, xs, rfl, e, c1, hp⟩ := q1
    cases r1 with
    | cons w1 r1 =>
      cases r1
      cases w1
      obtain ⟨t1, vs1, rv1, rd1, p1, m1⟩ := src_inv I1 c1
      have la := c1.lt I1
      refine callType_new F.called_enumerate (by decide) (F.typeCall_enumerate_1 _) (F.newCall_enumerate_1 _) (fun obj => F.args_object_init_2 obj _) F.entry_enumerate_new (meets_enum1 (sbegins (kindD x) a t1.toArray)) ⟨p1, ?_⟩
      have sz1 : (s1.heap.push (sobj (kindD x) a)).objs.size = s1.heap.objs.size + 1 := Heap.size_push ..
      have kp1 : ∀ c o, s1.heap.get? c = some o → ((s1.heap.push (sobj (kindD x) a)).push { cls := .type "enumerate", data := .fields #[.none, .bool false, .ref s1.heap.objs.size, rawInt 0, .none, .none] }).get? c = some o := fun c o q => Heap.get?_push_of_some _ (Heap.get?_push_of_some _ q)
      have hE : IsEnum ((s1.heap.push (sobj (kindD x) a)).push { cls := .type "enumerate", data := .fields #[.none, .bool false, .ref s1.heap.objs.size, rawInt 0, .none, .none] }) (s1.heap.push (sobj (kindD x) a)).objs.size s1.heap.objs.size 0 .none := Heap.get?_push_size _ rfl
      have hI : ((s1.heap.push (sobj (kindD x) a)).push { cls := .type "enumerate", data := .fields #[.none, .bool false, .ref s1.heap.objs.size, rawInt 0, .none, .none] }).get? s1.heap.objs.size = some (sobj (kindD x) a) := Heap.get?_push_of_some _ (Heap.get?_push_size _ (by unfold sobj Obj.isFreed; cases kindD x <;> rfl))
      generalize (s1.heap.push (sobj (kindD x) a)).push { cls := .type "enumerate", data := .fields #[.none, .bool false, .ref s1.heap.objs.size, rawInt 0, .none, .none] } = h2 at kp1 hE hI ⊢
      rw [sz1] at hE ⊢
      refine ⟨⟨_, hE, rfl⟩, ?_⟩
      have I2 : Inv X pins σ H1 { s1 with heap := h2 } := I1.kept (t' := s1.toks) kp1
      refine wpAny_pyIter_enum (s := { s1 with heap := h2 }) hE ?_
      have hne : s1.heap.objs.size + 1 ≠ s1.heap.objs.size := Nat.succ_ne_self _
      have hea : (s1.heap.objs.size + 1 : Addr) ≠ a := fun q => by
        rw [← q] at la
        exact absurd la (Nat.not_lt.mpr (Nat.le_succ _))
      refine ⟨_, _, _, ItN X.K x a, H1, rfl, I2, turnN hne hea (Nat.ne_of_lt la), ⟨⟨_, hE⟩, sit_start hI⟩, fun d hd => ?_, k _ H1 A1 _ _ S1 e c1.rs (itokN c1.rd) hp⟩
      have hle : s1.heap.objs.size ≤ d := by
        have hd' : d = s1.heap.objs.size + 1 ∨ d = s1.heap.objs.size := by simpa using hd
        rcases hd' with q | q
        · rw [q]; exact Nat.le_succ _
        · rw [q]; exact Nat.le_refl _
      exact I1.fpOk hle (I1.hok.fresh hle)
end DL
/-! ZQ: dicts with tuples of ints as keys that nobody writes: dict([..]), x in d. -/
namespace DL
open PySem PySem.Spec PyProof.Rows L2
variable [HasT]

abbrev KX := List (List Int × Addr × Value)
def upK (x : List Int × Addr × Value) : List Key × Addr × Value := (x.1.map Sum.inl, x.2)
/-- a known dict with these tuples of ints as keys -/
def kdP (ks : List (List Int)) : PySem.W.Frag → Hp → Addr → Prop := fun K H a => ∃ (o : Obj) (es : Array DictEntry) (ep : Nat) (xs : KX), H a = some (.frz o (.ext fun _ => True)) ∧ o.ExactDict ∧ o.data = .dict es ep ∧
  (∀ (P : Program) (w : World), es.toList = xs.map fun x => entryOfKey (tupleKind (mixKind P w)) (upK x)) ∧ xs.map (·.1) = ks ∧ ks.Nodup ∧ ks.length ≤ sizeLine ∧ (a == sysModules) = false ∧ ∀ x ∈ xs, PTup K H x.2.1 (x.1.map V.int)
theorem kdP_stab (ks : List (List Int)) (K : PySem.W.Frag) : StabP (kdP ks K) := fun H H' a k ⟨o, es, ep, xs, h1, h2, h3, h4, h5, h6, h7, h8, h9⟩ =>
  ⟨o, es, ep, xs, k _ _ h1 nmut_frz, h2, h3, h4, h5, h6, h7, h8, fun x hx => keep_p (fun a o q n => k a o q n) (h9 x hx)⟩
theorem entry_any (P P' : Program) (w w' : World) (x : List Int × Addr × Value) : entryOfKey (tupleKind (mixKind P w)) (upK x) = entryOfKey (tupleKind (mixKind P' w')) (upK x) := by
  have h : tupleKeyHash (mixKind P w) (x.1.map Sum.inl) = tupleKeyHash (mixKind P' w') (x.1.map Sum.inl) := by
    unfold tupleKeyHash
    rw [List.map_map, List.map_map]
    rfl
  show DictEntry.mk (tupleKeyHash (mixKind P w) (x.1.map Sum.inl)) _ _ = DictEntry.mk (tupleKeyHash (mixKind P' w') (x.1.map Sum.inl)) _ _
  rw [h]
theorem kV_ints (ns : List Int) : (ns.map (Sum.inl : Int → Key)).map kV = ns.map V.int := by
  rw [List.map_map]
  rfl
theorem key_is {X : Cx} {pins : List (Addr × Obj)} {σ : L2.St} {H : Hp} {s : Shared} {b : Addr} {k : List Int} (I : Inv X pins σ H s) (h : PTup X.K H b (k.map V.int)) : (tupleKind (mixKind X.prog X.w)).is s.heap (k.map Sum.inl) b := by
  obtain ⟨its, r, ⟨o, ho, hc, n, hd⟩, _⟩ := I.tuple h.sq
  rw [← kV_ints] at r
  exact ⟨o, its.toArray, n, ho, hc, hd, by simpa using items_are r⟩
theorem inl_inj : ∀ {xs ys : List Int}, xs.map (Sum.inl : Int → Key) = ys.map Sum.inl → xs = ys
  | [], [], _ => rfl
  | [], _ :: _, h => by simp at h
  | _ :: _, [], h => by simp at h
  | x :: xs, y :: ys, h => by
    rw [List.map_cons, List.map_cons] at h
    injection h with h1 h2
    rw [Sum.inl.inj h1, inl_inj h2]
theorem nodup_up {xs : KX} (h : (xs.map (·.1)).Nodup) : ((xs.map upK).map (·.1)).Nodup := by
  rw [List.map_map]
  have e : ((fun x : List Key × Addr × Value => x.1) ∘ upK) = (fun l : List Int => l.map (Sum.inl : Int → Key)) ∘ (fun x : List Int × Addr × Value => x.1) := rfl
  rw [e, ← List.map_map]
  exact List.pairwise_map.mpr (h.imp fun {a b} hab q => hab (inl_inj q))
theorem kd_of {X : Cx} {pins : List (Addr × Obj)} {σ : L2.St} {H : Hp} {s : Shared} {a : Addr} {ks : List (List Int)} (I : Inv X pins σ H s) (h : kdP ks X.K H a) :
    ∃ xs : KX, s.heap.DictOfH (tupleKind (mixKind X.prog X.w)) a (xs.map upK) ∧ xs.map (·.1) = ks ∧ (a == sysModules) = false := by
  obtain ⟨o, es, ep, xs, h1, h2, h3, h4, h5, h6, h7, h8, h9⟩ := h
  have ho : s.heap.get? a = some o := by
    obtain ⟨e, _⟩ := (show ObjOk X.prog X.w H s.heap a (.frz o (.ext fun _ => True)) from I.hok a _ h1)
    exact e
  refine ⟨xs, ⟨o, es, ep, ho, h2, h3, by rw [h4 X.prog X.w, List.map_map]; rfl, fun x hx => ?_, nodup_up (by rw [h5]; exact h6)⟩, h5, h8⟩
  obtain ⟨y, hy, rfl⟩ := List.mem_map.mp hx
  exact key_is I (h9 y hy)
theorem atKey_up {xs : KX} {k : List Int} : (atKey (xs.map upK) (k.map Sum.inl)).isSome = decide (k ∈ xs.map (·.1)) := by
  unfold atKey
  rw [Option.isSome_map]
  induction xs with
  | nil => rfl
  | cons x xs ih =>
    rw [List.map_cons, List.map_cons]
    by_cases e : x.1 = k
    · rw [List.find?_cons_of_pos (by show decide ((upK x).1 = k.map Sum.inl) = true; rw [decide_eq_true_eq]; show x.1.map Sum.inl = k.map Sum.inl; rw [e])]
      subst e
      simp
    · rw [List.find?_cons_of_neg (by rw [decide_eq_true_eq]; exact fun q => e (inl_inj q)), ih]
      have : (k ∈ x.1 :: xs.map (·.1)) ↔ k ∈ xs.map (·.1) := by
        rw [List.mem_cons]
        exact ⟨fun h => h.resolve_left fun q => e q.symm, .inr⟩
      simp only [this]

/-! ### x in d -/
def rInT (K : PySem.W.Frag) (neg : Bool) : R2 := fun x y H Q => ∃ (a b : Addr) (ks : List (List Int)) (k : List Int), y = .ref a ∧ kdP ks K H a ∧ x = .ref b ∧ PTup K H b (k.map V.int) ∧ Q (.bl (neg ^^ decide (k ∈ ks))) H
theorem op_inT {X : Cx} (hu : X.A.units + 65 < cLine) : OpR X (compareOp .In) (rInT X.K false) := by
  intro pins s σ H x y v u Q I rx ry ⟨a, b, ks, k, e1, hk, e2, hb, q⟩
  subst e1 e2
  cases rx
  cases ry
  obtain ⟨xs, dd, hks, hm⟩ := kd_of I hk
  refine wpAny_in_heap (tupleKind_room_in1 (by omega)) (key_is I hb) hm dd ?_
  rw [atKey_up, hks]
  rw [Bool.false_xor] at q
  exact ⟨.bl _, H, I.tok _, rfl, q⟩
theorem op_notInT {X : Cx} (hu : X.A.units + 65 < cLine) : OpR X (compareOp .NotIn) (rInT X.K true) := by
  intro pins s σ H x y v u Q I rx ry ⟨a, b, ks, k, e1, hk, e2, hb, q⟩
  subst e1 e2
  cases rx
  cases ry
  obtain ⟨xs, dd, hks, hm⟩ := kd_of I hk
  refine wpAny_notIn_heap (tupleKind_room_in1 (by omega)) (key_is I hb) hm dd ?_
  rw [atKey_up, hks]
  rw [Bool.true_xor] at q
  exact ⟨.bl _, H, I.tok _, rfl, q⟩
def oInT (neg : Bool) : D2 := fun x y S post => oIn neg x y S post ∨ ∃ (ks : List (List Int)) (k : List Int), y = .opq (kdP ks) ∧ x = .tup (k.map D.int) ∧ post (.bl (neg ^^ decide (k ∈ ks))) S
theorem op_in3 {X : Cx} (hu : X.A.units + 65 < cLine) : OpR X (compareOp .In) (fun x y H Q => rIn2 X.K false x y H Q ∨ rInT X.K false x y H Q) := OpR.or (op_in2 hu) (op_inT hu)
theorem op_notIn3 {X : Cx} (hu : X.A.units + 65 < cLine) : OpR X (compareOp .NotIn) (fun x y H Q => rIn2 X.K true x y H Q ∨ rInT X.K true x y H Q) := OpR.or (op_notIn2 hu) (op_notInT hu)
theorem rul_in3 {K : PySem.W.Frag} {neg : Bool} : Rul2 K (oInT neg) (fun x y H Q => rIn2 K neg x y H Q ∨ rInT K neg x y H Q) := by
  intro H A S d1 d2 v1 v2 post Q s r1 r2 h k
  rcases h with h | ⟨ks, ky, rfl, rfl, p⟩
  · exact .inl (rul_in H A S d1 d2 v1 v2 post Q s r1 r2 h k)
  · obtain ⟨a, rfl, hk, _⟩ := r2
    obtain ⟨b, vs, rfl, hb, hv⟩ := r1
    have e := rels_int hv
    subst e
    exact .inr ⟨a, b, ks, ky, rfl, hk, rfl, hb, k.now (d := .bl _) s rfl p⟩

/-! ### dict([(tuple, value), ..]) -/
def rDictT (K : PySem.W.Frag) : List V → Hp → VK → Prop := fun xs H Q => ∃ (a : Addr) (ps : List (Addr × Addr × List Int × V)), xs = [.ref a] ∧ SqL K H a (ps.map fun t => V.ref t.1) ∧ (∀ t ∈ ps, SqT K H t.1 [.ref t.2.1, t.2.2.2] ∧ PTup K H t.2.1 (t.2.2.1.map V.int)) ∧
  ∀ (p : Addr) (o : Obj) (ks : List (List Int)), H p = none → ks.Nodup → (∀ k, k ∈ ks ↔ k ∈ ps.map fun t => t.2.2.1) → kdP ks K (upd H p (.frz o (.ext fun _ => True))) p → Q (.ref p) (upd H p (.frz o (.ext fun _ => True)))
theorem vals_refs' {α : Type} {f : α → Addr} : ∀ {as : List α} {us : List Value}, Vals (as.map fun t => V.ref (f t)) us → us = as.map fun t => Value.ref (f t)
  | [], us, r => by
    cases r
    rfl
  | t :: as, us, r => by
    cases r with
    | cons h t' =>
      cases h
      rw [vals_refs' t', List.map_cons]
theorem storedAll_keys : ∀ (ps : KX) (acc : KX), ∃ xs : KX, storedAllH (acc.map upK) (ps.map upK) = xs.map upK ∧ ((acc.map (·.1)).Nodup → (xs.map (·.1)).Nodup) ∧ (∀ k, k ∈ xs.map (·.1) ↔ k ∈ acc.map (·.1) ∨ k ∈ ps.map (·.1)) ∧
    ∀ (R : List Int → Addr → Prop), (∀ x ∈ acc, R x.1 x.2.1) → (∀ x ∈ ps, R x.1 x.2.1) → ∀ x ∈ xs, R x.1 x.2.1
  | [], acc => ⟨acc, rfl, id, fun k => by simp, fun R h _ => h⟩
  | p :: ps, acc => by
    -- one stored
    have one : ∃ ys : KX, storedH (acc.map upK) (upK p).1 (upK p).2.1 (upK p).2.2 = ys.map upK ∧ ((acc.map (·.1)).Nodup → (ys.map (·.1)).Nodup) ∧ (∀ k, k ∈ ys.map (·.1) ↔ k ∈ acc.map (·.1) ∨ k = p.1) ∧ ∀ (R : List Int → Addr → Prop), (∀ x ∈ acc, R x.1 x.2.1) → R p.1 p.2.1 → ∀ x ∈ ys, R x.1 x.2.1 := by
      unfold storedH
      have e : (atKey (acc.map upK) (upK p).1).isSome = decide (p.1 ∈ acc.map (·.1)) := atKey_up
      rw [e]
      by_cases h : p.1 ∈ acc.map (·.1)
      · rw [if_pos (by simpa using h)]
        refine ⟨acc.map fun x => if x.1 = p.1 then (x.1, x.2.1, p.2.2) else x, ?_, ?_, ?_, ?_⟩
        · rw [List.map_map, List.map_map]
          refine List.map_congr_left fun x _ => ?_
          show putAt (upK p).1 (upK p).2.2 (upK x) = upK (if x.1 = p.1 then (x.1, x.2.1, p.2.2) else x)
          unfold putAt
          by_cases c : x.1 = p.1
          · rw [if_pos c, if_pos (by show x.1.map Sum.inl = p.1.map Sum.inl; rw [c])]
            rfl
          · rw [if_neg c, if_neg (show ¬ (upK x).1 = (upK p).1 from fun q => c (inl_inj q))]
        · intro hn
          rw [List.map_map]
          have : ((fun x : List Int × Addr × Value => x.1) ∘ fun x => if x.1 = p.1 then (x.1, x.2.1, p.2.2) else x) = fun x => x.1 := by
            funext x
            show (if x.1 = p.1 then (x.1, x.2.1, p.2.2) else x).1 = x.1
            by_cases c : x.1 = p.1
            · rw [if_pos c]
            · rw [if_neg c]
          rw [this]
          exact hn
        · intro k
          rw [List.map_map]
          have : ((fun x : List Int × Addr × Value => x.1) ∘ fun x => if x.1 = p.1 then (x.1, x.2.1, p.2.2) else x) = fun x => x.1 := by
            funext x
            show (if x.1 = p.1 then (x.1, x.2.1, p.2.2) else x).1 = x.1
            by_cases c : x.1 = p.1
            · rw [if_pos c]
            · rw [if_neg c]
          rw [this]
          exact ⟨.inl, fun q => q.elim id fun z => z ▸ h⟩
        · intro R hR _ x hx
          obtain ⟨y, hy, rfl⟩ := List.mem_map.mp hx
          by_cases c : y.1 = p.1
          · rw [if_pos c]
            exact hR y hy
          · rw [if_neg c]
            exact hR y hy
      · rw [if_neg (by simpa using h)]
        refine ⟨acc ++ [p], by rw [List.map_append]; rfl, ?_, ?_, ?_⟩
        · intro hn
          rw [List.map_append]
          refine List.nodup_append.mpr ⟨hn, by simp, fun a ha b hb q => ?_⟩
          rw [show b = p.1 by simpa using hb] at q
          exact h (q ▸ ha)
        · intro k
          rw [List.map_append, List.mem_append]
          simp
        · intro R hR hp x hx
          rcases List.mem_append.mp hx with hx | hx
          · exact hR x hx
          · rw [List.mem_singleton.mp hx]
            exact hp
    obtain ⟨ys, y1, y2, y3, y4⟩ := one
    obtain ⟨xs, x1, x2, x3, x4⟩ := storedAll_keys ps ys
    refine ⟨xs, ?_, fun h => x2 (y2 h), fun k => ?_, fun R h1 h2 => x4 R (y4 R h1 (h2 p List.mem_cons_self)) fun x hx => h2 x (List.mem_cons_of_mem _ hx)⟩
    · show storedAllH (storedH (acc.map upK) (upK p).1 (upK p).2.1 (upK p).2.2) (ps.map upK) = _
      rw [y1]
      exact x1
    · rw [x3, y3, List.map_cons, List.mem_cons, or_assoc]
theorem call_dictT {X : Cx} (hc : X.calm = true) (hu : X.A.units + 65 < cLine) : CallR X (.type "dict") (rDictT X.K) := by
  intro pins s σ H xs us Q I r ⟨a, ps, ex, hq, hp, q⟩
  subst ex
  obtain ⟨u, rfl, rx⟩ := vals1 r
  obtain rfl : u = Value.ref a := rx
  obtain ⟨its, rv, pl, hz⟩ := I.list hq
  have ei := vals_refs' rv
  subst ei
  obtain ⟨o, n, ho, hcl, hd, hdat⟩ := pl
  -- the values behind the keys
  have hv : ∃ vs : List Value, vs.length = ps.length ∧ ∀ (j : Nat) (t : Addr × Addr × List Int × V), ps[j]? = some t → ∃ v, vs[j]? = some v ∧ IsTup s.heap t.1 #[.ref t.2.1, v] := by
    clear q hq rv hz hdat ho
    induction ps with
    | nil => exact ⟨[], rfl, fun j t h => by simp at h⟩
    | cons t ps ih =>
      obtain ⟨vs, l, hh⟩ := ih fun u hu => hp u (List.mem_cons_of_mem _ hu)
      obtain ⟨its, rv, ht, _⟩ := I.tuple (hp t List.mem_cons_self).1
      obtain ⟨u, y, rfl, ru, ry⟩ := vals2 rv
      cases ru
      refine ⟨y :: vs, by rw [List.length_cons, l, List.length_cons], fun j u hj => ?_⟩
      cases j with
      | zero =>
        have : t = u := by simpa using hj
        subst this
        exact ⟨y, rfl, ht⟩
      | succ j =>
        obtain ⟨v, h1, h2⟩ := hh j u (by simpa using hj)
        exact ⟨v, by simpa using h1, h2⟩
  obtain ⟨vs, lv, hvs⟩ := hv
  let pv : List (Value × Value) := (ps.zip vs).map fun t => (.ref t.1.2.1, t.2)
  let kx : KX := (ps.zip vs).map fun t => (t.1.2.2.1, t.1.2.1, t.2)
  have lz : (ps.zip vs).length = ps.length := by rw [List.length_zip, lv, Nat.min_self]
  have lpv : pv.length = ps.length := by rw [List.length_map, lz]
  have getZ : ∀ {j : Nat} {z : (Addr × Addr × List Int × V) × Value}, (ps.zip vs)[j]? = some z → ps[j]? = some z.1 ∧ IsTup s.heap z.1.1 #[.ref z.1.2.1, z.2] := fun {j z} h => by
    obtain ⟨h1, h2⟩ := List.getElem?_zip_eq_some.mp h
    obtain ⟨v, g1, g2⟩ := hvs j _ h1
    rw [h2] at g1
    cases g1
    exact ⟨h1, g2⟩
  have hitems : PySem.PairItems s.heap (ps.map fun t => Value.ref t.1).toArray (fun j => (ps[j]?.map (·.1)).getD 0) pv := by
    refine ⟨by simp [lpv], fun j k v hj => ?_⟩
    rw [List.getElem?_map] at hj
    cases hz' : (ps.zip vs)[j]? with
    | none =>
      rw [hz'] at hj
      cases hj
    | some z =>
      rw [hz'] at hj
      obtain ⟨g1, g2⟩ := getZ hz'
      have e := Option.some.inj hj
      injection e with e1 e2
      refine ⟨by simp [g1], .inl ?_⟩
      show s.heap.IsTuple ((ps[j]?.map (·.1)).getD 0) #[k, v]
      rw [g1, ← e1, ← e2]
      exact g2
  have lkx : kx.length = ps.length := by rw [List.length_map, lz]
  have hkey : ∀ x ∈ kx, PTup X.K H x.2.1 (x.1.map V.int) := fun x hx => by
    obtain ⟨z, hz', rfl⟩ := List.mem_map.mp hx
    exact (hp z.1 (List.of_mem_zip hz').1).2
  have ekx : kx.map (·.1) = ps.map fun t => t.2.2.1 := by
    show ((ps.zip vs).map fun t => (t.1.2.2.1, t.1.2.1, t.2)).map (·.1) = _
    rw [List.map_map]
    have : ((fun x : List Int × Addr × Value => x.1) ∘ fun t : (Addr × Addr × List Int × V) × Value => (t.1.2.2.1, t.1.2.1, t.2)) = (fun t : Addr × Addr × List Int × V => t.2.2.1) ∘ Prod.fst := rfl
    rw [this, ← List.map_map, List.map_fst_zip (by omega)]
  obtain ⟨xs, x1, x2, x3, x4⟩ := storedAll_keys kx []
  refine PySem.call_dict_pairsH (knd := tupleKind (mixKind X.prog X.w)) (ps := kx.map upK) (PySem.PairArg.list a (ps.map fun t => Value.ref t.1).toArray (fun j => (ps[j]?.map (·.1)).getD 0) pv) (I.ok.hd hc) (show X.A.in1.in1.units < cLine from by show X.A.units + 1 + 1 < cLine; omega) ⟨⟨o, n, ho, hcl, hd, hdat⟩, hitems⟩ ⟨by rw [List.length_map, lkx, lpv], fun i key v hrel => ?_⟩ (fun h' hk x hx => ?_) (by
      rw [lpv]
      rw [List.length_map] at hz
      exact hz) fun h' tk hd' kp => ?_
  · have hrel' : pv[i]? = some (key, v) := hrel
    rw [List.getElem?_map] at hrel'
    cases hz' : (ps.zip vs)[i]? with
    | none =>
      rw [hz'] at hrel'
      cases hrel'
    | some z =>
      rw [hz'] at hrel'
      have e := Option.some.inj hrel'
      injection e with e1 e2
      refine ⟨z.1.2.2.1.map Sum.inl, z.1.2.1, ?_, e1.symm⟩
      rw [List.getElem?_map, List.getElem?_map, hz', ← e2]
      rfl
  · obtain ⟨y, hy, rfl⟩ := List.mem_map.mp hx
    obtain ⟨o2, its2, n2, g1, g2, g3, g4⟩ := key_is I (hkey y hy)
    exact ⟨o2, its2, n2, hk _ _ (Nat.ne_of_lt (Heap.lt_size g1)) (fun z => nomatch z) g1, g2, g3, g4⟩
  · have hm : (s.heap.objs.size == sysModules) = false := beq_eq_false_iff_ne.mpr (Nat.ne_of_gt I.big)
    have x1' : storedAllH [] (kx.map upK) = xs.map upK := x1
    rw [x1'] at hd'
    obtain ⟨od, es, ep, g1, g2, g3, g4, g5, g6⟩ := hd'
    have hfree : H s.heap.objs.size = none := I.hok.fresh (Nat.le_refl _)
    have I2 : Inv X pins σ (upd H s.heap.objs.size (.frz od (.ext fun _ => True))) { s with heap := h', toks := tk } := I.laid (t' := tk) (fun b o e => kp b o (fun z => nomatch z) e) (Nat.le_refl _) (show ObjOk X.prog X.w _ _ _ (.frz od (.ext fun _ => True)) from ⟨g1, trivial, ⟨_, g1⟩, fun _ _ _ _ => trivial⟩)
    have hnd : (xs.map (·.1)).Nodup := x2 List.nodup_nil
    have hlen : xs.length ≤ sizeLine := by
      have l1 := storedAllH_length (kx.map upK) []
      rw [x1', List.length_map, List.length_nil, List.length_map, lkx, Nat.zero_add] at l1
      rw [List.length_map] at hz
      omega
    refine ⟨.ref s.heap.objs.size, _, I2, rfl, q _ od (xs.map (·.1)) hfree hnd (fun k => ?_) ⟨od, es, ep, xs, upd_same, g2, g3, fun P w => ?_, rfl, hnd, by rw [List.length_map]; exact hlen, hm, fun x hx => ?_⟩⟩
    · rw [x3, ekx]
      simp
    · rw [g4, List.map_map]
      exact List.map_congr_left fun x _ => entry_any X.prog P X.w w x
    · exact ext_p (A := []) (A' := []) (Ext.same (same_upd hfree)) (x4 (fun k b => PTup X.K H b (k.map V.int)) (fun x hx => nomatch hx) hkey x hx)
def pairT (kv : List Int × D) : D := .tup [.tup (kv.1.map D.int), kv.2]
def cDictT : DC := fun ds S post => cDict ds S post ∨ ∃ (x : D) (kvs : List (List Int × D)), ds = [x] ∧ seqOf S x (kvs.map pairT) ∧ (∀ ys, x ≠ .tup ys) ∧ ∀ ks : List (List Int), ks.Nodup → (∀ k, k ∈ ks ↔ k ∈ kvs.map (·.1)) → post (.opq (kdP ks)) S
theorem rels_pairT {K : PySem.W.Frag} {H : Hp} {A : List Addr} : ∀ {kvs : List (List Int × D)} {us : List V}, RelDs K H A (kvs.map pairT) us → ∃ ps : List (Addr × Addr × List Int × V), us = ps.map (fun t => V.ref t.1) ∧ (ps.map fun t => t.2.2.1) = kvs.map (·.1) ∧ ∀ t ∈ ps, SqT K H t.1 [.ref t.2.1, t.2.2.2] ∧ PTup K H t.2.1 (t.2.2.1.map V.int)
  | [], _, h => ⟨[], h, rfl, fun _ q => nomatch q⟩
  | (k, d) :: kvs, _, ⟨v, r, rfl, h1, h2⟩ => by
    obtain ⟨ps, rfl, e, hh⟩ := rels_pairT h2
    obtain ⟨a, vs, rfl, ht, hv⟩ := h1
    obtain ⟨x, y, rfl, r1, r2⟩ := rels2 hv
    obtain ⟨b, ws, rfl, hb, hw⟩ := r1
    have ew := rels_int hw
    subst ew
    refine ⟨(a, b, k, y) :: ps, rfl, by rw [List.map_cons, List.map_cons, e], fun t ht2 => ?_⟩
    rcases List.mem_cons.mp ht2 with rfl | ht2
    · exact ⟨ht.sq, hb⟩
    · exact hh t ht2
theorem rul_dictT {K : PySem.W.Frag} : RulC K cDictT (fun xs H Q => rDictP K xs H Q ∨ rDictT K xs H Q) := by
  intro H A S ds vs post Q s r hh k
  rcases hh with hh | ⟨x, kvs, rfl, hq, hx, h⟩
  · exact .inl (rul_dict H A S ds vs post Q s r hh k)
  · obtain ⟨v, rfl, rv⟩ := rels1 r
    obtain ⟨a, us, rfl, hs, w⟩ := seq_list s hq hx rv
    obtain ⟨ps, rfl, e, hh⟩ := rels_pairT w
    refine .inr ⟨a, ps, rfl, hs, hh, fun p o ks hp hn hk hkd => ?_⟩
    have s2 : RelS K (upd H p (.frz o (.ext fun _ => True))) A S := s.same (same_upd hp)
    exact k (.ref p) _ A (.opq (kdP ks)) S (Ext.same (same_upd hp)) s2 ⟨p, rfl, hkd, kdP_stab ks K⟩ (h ks hn fun k => by rw [hk, e])
theorem call_dictB {X : Cx} (hc : X.calm = true) (hu : X.A.units + 65 < cLine) : CallR X (.type "dict") (fun xs H Q => rDictP X.K xs H Q ∨ rDictT X.K xs H Q) := CallR.or (call_dictA hc) (call_dictT hc hu)
end DL
/-! ZR: the program's own exception classes, as facts and as rules for the walk. -/
namespace DL
open PySem PySem.Spec PyProof.Rows L2
variable [HasT]

/-- the first statement of a class's body -/
def clsFirst : Stmt → Stmt
  | .ClassDef _ _ _ (b :: _) _ _ _ _ _ _ _ => b
  | s => s
/-- what an own class under Refused is, as far as raising it goes -/
structure RaiC (P : Program) (w : World) (K : PySem.W.Frag) (mg : Str → Option Value) (base : Heap) (x : Str) (C : Addr) : Prop where
  ox : OexC K C
  no : PySem.W.findIn K (.ref C) "what" = some none
  nm : mg x = some (.ref C)
  ini : ∃ (fI : Addr) (fd : FuncData), PySem.W.findIn K (.ref C) "__init__" = some (some (.ref fI)) ∧ PySem.W.typeIn K (.ref fI) = some (.type "function") ∧ FnOk P w K mg base CX0 1 fI fd ["self", "what"] (spInit K) ∧ L2.Binds K fd ["self", "what"] []
theorem ds_rai {X : Cx} {W : WX} {C : Addr} {x : Str} {e : Expr} {te : DE} {p pos pos2 : Pos} {k : Nat} (R : RaiC X.prog X.w X.K X.mg X.base x C) (hc : X.calm = true) (hr : Room k X.A) (hk : 2 ≤ k) (tk : Takes X W) (hg : Gl X x) (he : PE X e (liftE X.K te)) (hdb : (x == ("__debug__" : Str)) = false := by decide)
    (hs : starEach (e :: []) X.env = (false, eval e X.env) :: starEach [] X.env := by rfl) (hpl : (backTo pos (starEach [] X.env)).any (·.1) = false := by rfl) :
    PS X (.Raise (some (.Call (.Name x p) [e] [] pos)) none pos2) (liftS X.K W (dRaise C te)) := by
  obtain ⟨fI, fd, h1, h2, h3, h4⟩ := R.ini
  exact ds_raise (CX := CX0) hc R.ox R.no h1 h2 h3 (hr.mono hk) h4 tk hg R.nm he hdb hs hpl
/-- what an own class is, once it is caught -/
structure CauC (K : PySem.W.Frag) (C : Addr) : Prop where
  xf : XfC K C
  ex : ExcC K C
  no : PySem.W.findIn K (.ref C) "what" = some none
/-- what an own class is, where it is named behind except or in isinstance -/
structure HanC (K : PySem.W.Frag) (C : Addr) : Prop where
  sub : PySem.W.subIn K (.ref C) (.type "BaseException") = some true
  cls : PySem.W.isClsIn K C = true
  ty : PySem.W.typeIn K (.ref C) = some (.type "type")
  self : PySem.W.subIn K (.ref C) (.ref C) = some true
theorem kitCls_of {K : PySem.W.Frag} {C D : Addr} {b : Option Bool} (h : HanC K D) (e : PySem.W.subIn K (.ref C) (.ref D) = b) : PySem.W.kitCls K (.ref C) (.ref D) = b := by
  have e2 : ((PySem.W.clsIn K D).isSome && PySem.W.typeIn K (.ref D) == some (.type "type")) = true := by
    have h2' : (PySem.W.clsIn K D).isSome = true := h.cls
    rw [h2', h.ty] <;> rfl
  show (if ((PySem.W.clsIn K D).isSome && PySem.W.typeIn K (.ref D) == some (.type "type")) = true then PySem.W.subIn K (.ref C) (.ref D) else none) = b
  rw [if_pos e2]
  exact e
theorem exm_of {K : PySem.W.Frag} {C D : Addr} {b : Option Bool} (h : HanC K D) (e : PySem.W.subIn K (.ref C) (.ref D) = b) : PySem.W.exmOne K (.ref C) (.ref D) = b := by
  have e1 : (PySem.W.subIn K (.ref D) (.type "BaseException") == some true) = true := by rw [h.sub] <;> rfl
  show (if (PySem.W.subIn K (.ref D) (.type "BaseException") == some true) = true then PySem.W.kitCls K (.ref C) (.ref D) else none) = b
  rw [if_pos e1]
  exact kitCls_of h e
theorem kit_of {K : PySem.W.Frag} {C D : Addr} {b : Bool} (h : HanC K D) (e : PySem.W.subIn K (.ref C) (.ref D) = some b) : PySem.W.kitOne K (.ref C) (.ref D) = some b := by
  show (if ((Value.ref C) == (Value.ref D)) = true then some true else PySem.W.kitCls K (.ref C) (.ref D)) = some b
  by_cases q : ((Value.ref C) == (Value.ref D)) = true
  · rw [if_pos q]
    have e' : C = D := by
      have := beq_iff_eq.mp q
      injection this
    subst e'
    rw [h.self] at e
    exact e
  · rw [if_neg q]
    exact kitCls_of h e
theorem kit_ve {K : PySem.W.Frag} {C : Addr} {b : Bool} (e : PySem.W.subIn K (.ref C) (.type "ValueError") = some b) : PySem.W.kitOne K (.ref C) (.type "ValueError") = some b := by
  show (if ((Value.ref C) == (Value.type "ValueError")) = true then some true else if PySem.W.kitMeta "ValueError" = true then PySem.W.subIn K (.ref C) (.type "ValueError") else none) = some b
  have hne : ¬ ((Value.ref C) == (Value.type "ValueError")) = true := fun q => Value.noConfusion (beq_iff_eq.mp q)
  rw [if_neg hne, if_pos (by decide +kernel)]
  exact e
/-- a def that may raise -/
structure CalX (P : Program) (w : World) (K : PySem.W.Frag) (mg : Str → Option Value) (base : Heap) (k : Nat) (x : Str) (sp : DSpX) : Prop where
  ex : ∃ (f : Addr) (fd : FuncData) (ps : List Str), FnG P w K mg base (L2.CX P w) k f fd ps (spLX K sp) ∧ mg x = some (.ref f) ∧ PySem.W.keepIn K (.ref f) = true ∧ L2.Binds K fd ps []
section
variable {X : Cx} {k j : Nat} {sp : DSpX} {x : Str} {p pos : Pos} {e : Expr} {es : List Expr} {W : WX}
theorem de_cal0 {t : DA} (C : CalX X.prog X.w X.K X.mg X.base j x sp) (hgd : X.A.guards = some []) (hr : Room k X.A) (hj : j ≤ k) (hg : Gl X x) (ha : PA X (e :: es) (liftA X.K t)) (hdb : (x == ("__debug__" : Str)) = false := by decide)
    (he : starEach (e :: es) X.env = (false, eval e X.env) :: starEach es X.env := by rfl) (hpl : (backTo pos (starEach es X.env)).any (·.1) = false := by rfl) : PE X (.Call (.Name x p) (e :: es) [] pos) (liftE X.K (dCall (noX sp) t)) := by
  obtain ⟨f, fd, ps, F, hm, hk, hb⟩ := C.ex
  exact de_call0 F hgd (hr.mono hj) hg hm hk hb ha hdb he hpl
theorem de_calX {t : DAX} (C : CalX X.prog X.w X.K X.mg X.base j x sp) (hgd : X.A.guards = some []) (hr : Room k X.A) (hj : j ≤ k) (hg : Gl X x) (tk : Takes X W) (ha : PA X (e :: es) (liftAX X.K W t)) (hdb : (x == ("__debug__" : Str)) = false := by decide)
    (he : starEach (e :: es) X.env = (false, eval e X.env) :: starEach es X.env := by rfl) (hpl : (backTo pos (starEach es X.env)).any (·.1) = false := by rfl) : PE X (.Call (.Name x p) (e :: es) [] pos) (liftEX X.K W (dCallX sp t)) := by
  obtain ⟨f, fd, ps, F, hm, hk, hb⟩ := C.ex
  exact de_callX F hgd (hr.mono hj) hg hm hk hb tk ha hdb he hpl
end
/-- x.what of what the suite holds -/
def okW (K : PySem.W.Frag) (C : Addr) : Prop := XfC K C ∧ PySem.W.findIn K (.ref C) "what" = some none
def dWhatS (K : PySem.W.Frag) (a : Addr) (cls : Value) (d : Option Addr) (te : DE) : DE := fun ρ S post => (∃ C, cls = .ref C ∧ okW K C) ∧ dWhat (okW K) a cls d te ρ S post
theorem de_whatS {X : Cx} {a : Addr} {oe : Obj} {cls : Value} {d : Option Addr} {pn : List (Addr × Obj)} {e : Expr} {te : DE} {pos : Pos} (hz : Zc cls d oe) (hf : ∃ vs, oe.data = .fields vs)
    (he : PE (X.suite a ((a, oe) :: pn)) e (liftE X.K te)) (hb : attributeBase e "what" X.env (eval e X.env) = eval e X.env := by rfl) :
    PE (X.suite a ((a, oe) :: pn)) (.Attribute e "what" pos) (liftE X.K (dWhatS X.K a cls d te)) := de_what (okC := okW X.K) (fun _ h => h) hz hf he hb
theorem takesD0 {X : Cx} : Takes X W0 := fun _ _ x => by
  obtain ⟨_, _, _, _, _, _, _, _, _, _, _, _, _, _, _, _, z⟩ := x
  exact z.elim
theorem pe_gref {X : Cx} {x : Str} {C : Addr} {p : Pos} (hg : Gl X x) (hm : X.mg x = some (.ref C)) (hdb : (x == ("__debug__" : Str)) = false := by decide) : PE X (.Name x p) (tC (.ref C)) :=
  ⟨fun pins s σ H Q I h => ld_glob I hg hm ⟨.ref C, H, I, rfl, h⟩ hdb⟩
/-- isinstance(e, C), C an own class, e what the suite holds -/
theorem de_isOwn {X : Cx} {a C : Addr} {oe : Obj} {cls : Value} {d : Option Addr} {pn : List (Addr × Obj)} {e : Expr} {x : Str} {te : DE} {p p2 pos : Pos} (hz : Zc cls d oe) (hf : ∃ vs, oe.data = .fields vs) (he : PE (X.suite a ((a, oe) :: pn)) e (liftE X.K te))
    (hg : Gl X "isinstance") (hm : X.mg "isinstance" = none) (hg2 : Gl X x) (hm2 : X.mg x = some (.ref C)) (hdb : (x == ("__debug__" : Str)) = false := by decide)
    (h1 : starEach (e :: [.Name x p2]) X.env = (false, eval e X.env) :: starEach [.Name x p2] X.env := by rfl) (h2 : starEach (.Name x p2 :: []) X.env = (false, eval (.Name x p2) X.env) :: starEach [] X.env := by rfl) (hpl : (backTo pos (starEach [.Name x p2] X.env)).any (·.1) = false := by rfl) :
    PE (X.suite a ((a, oe) :: pn)) (.Call (.Name "isinstance" p) (e :: [.Name x p2]) [] pos) (liftE X.K (dIsX X.K a cls d (.ref C) te)) :=
  de_isX (cx := .Name x p2) (vc := .ref C) hz hf he (pe_gref hg2 hm2 hdb) (fun u h => h) hg hm h1 h2 hpl
/-- isinstance(e, ValueError) of what the suite holds -/
theorem de_isVE {X : Cx} {a : Addr} {oe : Obj} {cls : Value} {d : Option Addr} {pn : List (Addr × Obj)} {e : Expr} {te : DE} {p p2 pos : Pos} (hz : Zc cls d oe) (hf : ∃ vs, oe.data = .fields vs) (he : PE (X.suite a ((a, oe) :: pn)) e (liftE X.K te))
    (hg : Gl X "isinstance") (hm : X.mg "isinstance" = none) (hg2 : Gl X "ValueError") (hm2 : X.mg "ValueError" = none) (hv : bootBuiltins "ValueError" = some (.type "ValueError"))
    (h1 : starEach (e :: [.Name "ValueError" p2]) X.env = (false, eval e X.env) :: starEach [.Name "ValueError" p2] X.env := by rfl) (h2 : starEach (.Name "ValueError" p2 :: []) X.env = (false, eval (.Name "ValueError" p2) X.env) :: starEach [] X.env := by rfl) (hpl : (backTo pos (starEach [.Name "ValueError" p2] X.env)).any (·.1) = false := by rfl) :
    PE (X.suite a ((a, oe) :: pn)) (.Call (.Name "isinstance" p) (e :: [.Name "ValueError" p2]) [] pos) (liftE X.K (dIsX X.K a cls d (.type "ValueError") te)) :=
  de_isX (cx := .Name "ValueError" p2) (vc := .ty "ValueError") hz hf he (pe_bltn (v := .ty "ValueError") hg2 hm2 hv rfl (by decide) (by decide)) (fun u h => h) hg hm h1 h2 hpl
/-- a call of what cannot raise, with arguments that may -/
def dCallAX (sp : DSp) (t : DAX) : DEX := fun ρ S post ex => t ρ S (fun ds S1 => callD sp ds S1 post) ex
theorem de_calA {X : Cx} {k j : Nat} {sp : DSp} {x : Str} {p pos : Pos} {e : Expr} {es : List Expr} {W : WX} {t : DAX} (C : CalG X.prog X.w X.K X.mg X.base j x sp) (hgd : X.A.guards = some []) (hr : Room k X.A) (hj : j ≤ k) (hg : Gl X x) (ha : PA X (e :: es) (liftAX X.K W t)) (hdb : (x == ("__debug__" : Str)) = false := by decide)
    (he : starEach (e :: es) X.env = (false, eval e X.env) :: starEach es X.env := by rfl) (hpl : (backTo pos (starEach es X.env)).any (·.1) = false := by rfl) : PE X (.Call (.Name x p) (e :: es) [] pos) (liftEX X.K W (dCallAX sp t)) := by
  obtain ⟨f, fd, ps, F, hm, hk, hb⟩ := C.ex
  refine pe_mono (pe_callG F hgd (hr.mono hj) hg hm hk hb pass0 ha hdb he hpl) fun σ H Q ⟨A, ρ, S, post, ex, n, s, h, kk, kx⟩ => ⟨A, ρ, S, _, ex, n, s, h, fun vs H' A' ds S' e' s' r p1 => ?_, kx⟩
  show spL X.K sp (vs ++ []) H' Q E0
  rw [List.append_nil]
  exact lift_callD s' r p1 (kk.go e')
end DL
/-! ZS: carrying out the newer readings. -/
namespace DL
open PySem PySem.Spec PyProof.Rows L2
variable [HasT]

/-! ### // by a great number -/
def CDivB (_ j : Int) : Prop := 0 < j ∧ j < 4611686018427387904
def oDivW : D2 := o2I CDivB fun i j => .int (i / j)
theorem cdivB {i j : Int} (h : CDivB i j) : CDivW i j := wide_div (b := 64) h.1 (by have := h.2; have := h.1; omega) (by decide) (by decide)
theorem rul_divW {K : PySem.W.Frag} : Rul2 K oDivW (rI CDivW fun i j => .int (i / j)) := by
  intro H A S d1 d2 v1 v2 post Q s r1 r2 h k
  cases d1 <;> cases d2 <;> try exact False.elim h
  rename_i i j
  cases (show v1 = .int i from r1)
  cases (show v2 = .int j from r2)
  exact ⟨i, j, rfl, rfl, cdivB h.1, k.now (d := .int (i / j)) s rfl h.2⟩

/-! ### slices -/
section
variable {S : Store} {post : DK} {n : Nat} {xs : List D} {lo hi : Option Int} {d : D} {i : Int}
theorem go_sl_tup : slD (.tup xs) lo hi S post ↔ post (.tup (cutD xs lo hi)) S := by
  constructor
  · rintro (⟨ys, h, p⟩ | ⟨ys, h, hx, p⟩)
    · cases h
      exact p
    · exact absurd rfl (hx xs)
  · exact fun p => .inl ⟨xs, rfl, p⟩
theorem go_sl_lr : slD (.lr n) lo hi S post ↔ ∃ xs, S[n]? = some (.lst xs) ∧ post (.lr S.length) (S ++ [.lst (cutD xs lo hi)]) := by
  constructor
  · rintro (⟨ys, h, p⟩ | ⟨ys, h, hx, p⟩)
    · cases h
    · exact ⟨ys, seqOf_lr.mp h, p⟩
  · exact fun ⟨xs, h, p⟩ => .inr ⟨xs, seqOf_lr.mpr h, (fun ys q => nomatch q), p⟩
theorem cut_from {α : Type} {xs : List α} {i : Int} (h : 0 ≤ i) : cutD xs (some i) none = xs.drop i.toNat := by
  unfold cutD HT.sIx
  dsimp only
  rw [if_neg (by omega)]
  by_cases c : i.toNat ≤ xs.length
  · rw [Nat.min_eq_left c]
    refine List.take_of_length_le ?_
    rw [List.length_drop]
    exact Nat.le_refl _
  · rw [Nat.min_eq_right (by omega), List.drop_of_length_le (by omega), List.drop_of_length_le (by omega)]
    simp
theorem cut_to {α : Type} {xs : List α} {i : Int} (h : 0 ≤ i) : cutD xs none (some i) = xs.take i.toNat := by
  unfold cutD HT.sIx
  dsimp only
  rw [if_neg (by omega), List.drop_zero, Nat.sub_zero]
  by_cases c : i.toNat ≤ xs.length
  · rw [Nat.min_eq_left c]
  · rw [Nat.min_eq_right (by omega), List.take_of_length_le (Nat.le_refl _), List.take_of_length_le (by omega)]
/-! ### pop, extend, += -/
theorem go_pop : dPop to te ρ S post ↔ to ρ S fun o S1 => (∃ (n : Nat) (ds : List D), o = .lr n ∧ S1[n]? = some (.lst ds)) ∧ te ρ S1 (popK o post) := Iff.rfl
theorem go_popK : popK (.lr n) post (.int i) S ↔ ∃ ds, S[n]? = some (.lst ds) ∧ (-1000000 ≤ i ∧ i ≤ 1000000) ∧ ∃ k, ixN ds.length i = some k ∧ ∃ y, ds[k]? = some y ∧ post y (S.set n (.lst (ds.eraseIdx k))) := by
  constructor
  · rintro ⟨m, ds, j, k, y, e1, h, e2, a, b, c, d, p⟩
    cases e1
    cases e2
    exact ⟨ds, h, ⟨a, b⟩, k, c, y, d, p⟩
  · rintro ⟨ds, h, ⟨a, b⟩, k, c, y, d, p⟩
    exact ⟨n, ds, i, k, y, rfl, h, rfl, a, b, c, d, p⟩
theorem go_ext : dExt to te ρ S post ↔ to ρ S fun o S1 => (∃ (n : Nat) (ds : List D), o = .lr n ∧ S1[n]? = some (.lst ds)) ∧ te ρ S1 (extK o post) := Iff.rfl
theorem go_extK {m : Nat} : extK (.lr n) post (.lr m) S ↔ ∃ ds, S[n]? = some (.lst ds) ∧ ∃ es, S[m]? = some (.lst es) ∧ ds.length + es.length ≤ 100000 ∧ post .non (S.set n (.lst (ds ++ es))) := by
  constructor
  · rintro ⟨a, b, ds, es, e1, h1, e2, h2, hl, p⟩
    cases e1
    cases e2
    exact ⟨ds, h1, es, h2, hl, p⟩
  · rintro ⟨ds, h1, es, h2, hl, p⟩
    exact ⟨n, m, ds, es, rfl, h1, rfl, h2, hl, p⟩
theorem go_augK {f : Int → Int → Int} {o j : D} {x z : Int} {p : Store → Prop} : augK f o j x p (.int z) S ↔ setSeq o j (.int (f x z)) S p := by
  constructor
  · rintro ⟨w, e, h⟩
    cases e
    exact h
  · exact fun h => ⟨z, rfl, h⟩
theorem go_add_tup {xs ys : List D} : oAdd2 (.tup xs) (.tup ys) S post ↔ xs.length + ys.length ≤ 100000 ∧ post (.tup (xs ++ ys)) S := by
  constructor
  · rintro (h | ⟨a, b, e1, e2, h⟩)
    · exact h.elim
    · cases e1
      cases e2
      exact h
  · exact fun h => .inr ⟨xs, ys, rfl, rfl, h⟩
theorem go_add2_int {i j : Int} : oAdd2 (.int i) (.int j) S post ↔ post (.int (i + j)) S := by
  constructor
  · rintro (h | ⟨a, b, e1, e2, h⟩)
    · exact h
    · cases e1
  · exact fun h => .inl h
theorem go_add2_lr {n m : Nat} : oAdd2 (.lr n) (.lr m) S post ↔ ∃ xs, S[n]? = some (.lst xs) ∧ ∃ ys, S[m]? = some (.lst ys) ∧ xs.length + ys.length ≤ 100000 ∧ post (.lr S.length) (S ++ [.lst (xs ++ ys)]) := by
  constructor
  · rintro (h | ⟨a, b, e1, e2, h⟩)
    · exact go_add_lr.mp h
    · cases e1
  · exact fun h => .inl (go_add_lr.mpr h)
theorem go_istup {xs : List D} {k : Bool} : truD S (.tup xs) k ↔ k = !xs.isEmpty := Iff.rfl
theorem go_islr {k : Bool} : truD S (.lr n) k ↔ (∃ ds, S[n]? = some (.lst ds) ∧ k = !ds.isEmpty) ∨ ∃ kvs, S[n]? = some (.dct kvs) ∧ k = !kvs.isEmpty := Iff.rfl
/-! ### loops over two -/
def zip2K (p : List D → (Store → Prop) → Store → Prop) (ds : List D) (S1 : Store) : Prop := ∃ x y xs ys, ds = [x, y] ∧ seqOf S1 x xs ∧ seqOf S1 y ys ∧ p (zip2D xs ys) (fun S2 => seqOf S2 x xs ∧ seqOf S2 y ys) S1
variable {p : List D → (Store → Prop) → Store → Prop} {x y : D} {t : DA} {ρ : DEnv}
theorem go_zip2 : wZip2 t ρ S p = t ρ S (zip2K p) := rfl
theorem go_zip2K : zip2K p [x, y] S ↔ ∃ xs, seqOf S x xs ∧ ∃ ys, seqOf S y ys ∧ p (zip2D xs ys) (fun S2 => seqOf S2 x xs ∧ seqOf S2 y ys) S := by
  constructor
  · rintro ⟨a, b, xs, ys, h, q, r, c⟩
    cases h
    exact ⟨xs, q, ys, r, c⟩
  · exact fun ⟨xs, q, ys, r, c⟩ => ⟨x, y, xs, ys, rfl, q, r, c⟩
def enum1K (p : List D → (Store → Prop) → Store → Prop) (ds : List D) (S1 : Store) : Prop := ∃ x xs, ds = [x] ∧ seqOf S1 x xs ∧ xs.length ≤ 100000 ∧ p (enum1D xs) (fun S2 => seqOf S2 x xs) S1
theorem go_enum1 : wEnum1 t ρ S p = t ρ S (enum1K p) := rfl
theorem go_enum1K : enum1K p [x] S ↔ ∃ xs, seqOf S x xs ∧ xs.length ≤ 100000 ∧ p (enum1D xs) (fun S2 => seqOf S2 x xs) S := by
  constructor
  · rintro ⟨a, xs, h, q, r, c⟩
    cases h
    exact ⟨xs, q, r, c⟩
  · exact fun ⟨xs, q, r, c⟩ => ⟨x, xs, rfl, q, r, c⟩
theorem go_tupA {gs : DGs} {k : Nat} {p : DEnv → Store → Prop} : gTupA k gs (.lr n) ρ S p ↔ ∃ ds, S[n]? = some (.lst ds) ∧ ds.length = k ∧ gs ds ρ S p := by
  constructor
  · rintro (⟨ds, h | h, _⟩ | ⟨ds, h | ⟨m, h, hm⟩, a, b⟩)
    · cases h
    · cases h
    · cases h
    · cases h
      exact ⟨ds, hm, a, b⟩
  · exact fun ⟨ds, a, b, c⟩ => .inr ⟨ds, .inr ⟨n, rfl, a⟩, b, c⟩
end
theorem fine_str {x : Str} (h : (PyData.showable (.str x) && (!PyData.hasDict (.str x)) && PyData.leavesShort 100 (.str x) && PyData.canLay0 (.str x) && decide (PyData.weight (.str x) ≤ 64) && decide (PyData.depth (.str x) ≤ 0)) = true) : Fine 64 0 (.str x) := by
  simp only [Bool.and_eq_true, decide_eq_true_eq, Bool.not_eq_true'] at h
  obtain ⟨⟨⟨⟨⟨h1, h2⟩, h3⟩, h4⟩, h5⟩, h6⟩ := h
  exact ⟨rfl, h1, h2, h3, h4, h5, h6⟩
end DL
/-! ZT: a lambda without parameters handed to a def. -/
namespace DL
open PySem PySem.Spec PyProof.Rows L2
variable [HasT]

/-! ### a step in which tables may grow -/
section
variable {K : PySem.W.Frag} {H H1 : Hp} {A : List Addr} {S : Store}
theorem Ext.grow (e : LamX.ExtN H H1) : Ext H A H1 A := by
  refine ⟨⟨[], by simp, by simp⟩, fun a o q => ?_⟩
  by_cases t : TblO o
  · exact .inr (.inr t)
  · exact .inl (e a o q fun ps z => t ⟨ps, z⟩)
theorem RelS.grow (s : RelS K H A S) (e : LamX.ExtN H H1) (t : TabsT H1) : RelS K H1 A S := by
  have stay : ∀ a ∈ A, ∀ o, H a = some o → H1 a = some o := fun a ha o q => e a o q fun ps z => ld_tbl (s.ld ha q) ⟨ps, z⟩
  refine ⟨s.len, s.nd, fun n en hn => ?_, t⟩
  obtain ⟨a, ha, r⟩ := s.ent n en hn
  exact ⟨a, ha, r.ext (Ext.grow e) (stay a (List.mem_iff_getElem?.mpr ⟨n, ha⟩))⟩
end

/-! ### what a lambda captures: things that hang on no list of the store -/
def capt (ρ : DEnv) : DEnv := ρ.map fun od => od.bind fun d => if below 0 d = true then some d else none
def wipeAll (ρ : DEnv) : DEnv := ρ.map fun _ => none
theorem capt_get {ρ : DEnv} {i : Nat} {d : D} (h : (capt ρ)[i]? = some (some d)) : ρ[i]? = some (some d) ∧ below 0 d = true := by
  unfold capt at h
  rw [List.getElem?_map] at h
  cases q : ρ[i]? with
  | none =>
    rw [q] at h
    cases h
  | some od =>
    rw [q] at h
    cases od with
    | none => cases h
    | some d' =>
      have h' : (if below 0 d' = true then some d' else none) = some d := Option.some.inj h
      by_cases c : below 0 d' = true
      · rw [if_pos c] at h'
        cases h'
        exact ⟨rfl, c⟩
      · rw [if_neg c] at h'
        cases h'
theorem relN_wipe {K : PySem.W.Frag} {H : Hp} {A : List Addr} {ρ : DEnv} {σ : L2.St} (h : σ.length = ρ.length) : RelN K H A (wipeAll ρ) σ := by
  refine ⟨by rw [h, wipeAll, List.length_map], fun i d q => ?_⟩
  unfold wipeAll at q
  rw [List.getElem?_map] at q
  cases c : ρ[i]? <;> rw [c] at q <;> cases q
/-- the lambda at f, its code object at c', the names that it captured -/
def lamF (f c' : Addr) (q : Str) (ρ : DEnv) (σ : L2.St) : PySem.W.Frag → Hp → Addr → Prop := fun K H a => a = f ∧ H c' = some (LamX.CodeO c' q) ∧ ∀ (i : Nat) (d : D), (capt ρ)[i]? = some (some d) → ∃ v : V, σ[i]? = some (some v) ∧ RelD K H [] d v
theorem nmut_code {c : Addr} {q : Str} : ¬ MutO (LamX.CodeO c q) := by
  unfold LamX.CodeO
  rintro ((⟨_, h⟩ | ⟨_, h⟩ | ⟨_, _, h⟩) | ⟨_, h⟩) <;> cases h
theorem lamF_stab {f c' : Addr} {q : Str} {ρ : DEnv} {σ : L2.St} {K : PySem.W.Frag} : StabP (lamF f c' q ρ σ K) := fun H H' a k ⟨h1, h2, h3⟩ =>
  ⟨h1, k _ _ h2 nmut_code, fun i d hd => let ⟨v, g1, g2⟩ := h3 i d hd; ⟨v, g1, g2.keep (B := []) k⟩⟩
/-- call(): the lambda's body over what it captured; an exception forgets the names of the def that calls -/
def dAct (φ : PySem.W.Frag → Hp → Addr → Prop) (te : DEX) (ρ : DEnv) : DEX := fun ρZ SZ post ex => ρZ[0]? = some (some (.opq φ)) ∧ te (capt ρ) SZ post fun cls w _ S' => ex cls w (wipeAll ρZ) S'
def dLam (Ng : List Str) (b : DEX → DS) (te : DEX) : DE := fun ρ S post => ∀ φ, b (dAct φ te ρ) ⟨fun _ S' => post .non S', post, fun _ _ => False, fun _ _ => False, fun _ _ _ _ => False⟩ (startD Ng [.opq φ]) S
/-- the context of the def that calls what it got, entered at s -/
abbrev hCx (X : Cx) (Ng : List Str) (x : Str) (sg : Scope) (g : Addr) (cdg : Value) (s : Shared) (H : Hp) : Cx := cxOf C8.CX0 X.prog X.w X.K X.mg X.base Ng x sg g cdg X.A X.stack s H C8.E0
def WXof (E : XK) : WX := fun cls d _ H' => E cls d H'
def TTd (K : PySem.W.Frag) (Ng : List Str) (b : DEX → DS) (te : DEX) : (XK → Hp → VK → Prop) → Hp → VK → Prop := fun tl H Q => ∃ σ A ρ S post, tl = (fun E H' Q' => liftEX K (WXof E) te σ H' Q') ∧ RelN K H A ρ σ ∧ RelS K H A S ∧ KontE K H A post Q ∧ dLam Ng b te ρ S post
theorem takes_len {X : Cx} {W : WX} (tk : Takes X W) : Takes X fun cls d σ H => σ.length = X.N.length → W cls d σ H := fun u s' ⟨a, B, sI, pins, σ, H, cls, d, e, I, nb, up, sky, na, os, ag, w⟩ =>
  tk u s' ⟨a, B, sI, pins, σ, H, cls, d, e, I, nb, up, sky, na, os, ag, w I.len⟩
theorem lam_gives {X : Cx} {Ng : List Str} {x a q : Str} {sg : Scope} {g : Addr} {cdg : Value} {bg : List Stmt} {b : DEX → DS} {te : DEX} (hN : 1 ≤ Ng.length)
    (ok : ∀ (s : Shared) (H : Hp) (act : DEX), (∀ (W : WX) (pn : List (Addr × Obj)) (xe : Value → Shared → Prop) (p1 p2 : Pos), Takes ((hCx X Ng x sg g cdg s H).tr pn xe) W → PE ((hCx X Ng x sg g cdg s H).tr pn xe) (.Call (.Name a p1) [] [] p2) (liftEX X.K W act)) →
      PSs (hCx X Ng x sg g cdg s H).nox bg (liftS X.K W0 (b act))) :
    LamX.GivesTo X Ng x sg g cdg bg a q (TTd X.K Ng b te) := by
  intro f c' s H Q tl act hc ⟨σ, A, ρ, S, post, etl, n, sS, k, h⟩
  subst etl
  have hφ : lamF f c' q ρ σ X.K H f := ⟨rfl, hc, fun i d hd => by
    obtain ⟨h1, h2⟩ := capt_get hd
    obtain ⟨v, g1, g2⟩ := n.at_ i d h1
    refine ⟨v, g1, ?_⟩
    have := g2.take h2
    rwa [List.take_zero] at this⟩
  refine ⟨_, ok s H (dAct (lamF f c' q ρ σ) te ρ) fun W pn xe p1 p2 tk => ⟨fun pins sZ σZ HZ Q' I ⟨A', ρZ, SZ, post', ex, nZ, sZ', ⟨hρ, hte⟩, kZ, kx⟩ => ?_⟩, ?_⟩
  · obtain ⟨v, hv, av, rfl, ⟨ef, hcZ, hcap⟩, _⟩ := nZ.at_ 0 _ hρ
    subst ef
    have hlen : ρZ.length = ((hCx X Ng x sg g cdg s H).tr pn xe).N.length := nZ.len.trans I.len
    refine (act _ pn xe (fun cls d H' => ∀ σ' : L2.St, σ'.length = ρZ.length → W cls d σ' H') p1 p2 (takes_len tk) fun cls d σ' H' hE hl => hE σ' (hl.trans hlen.symm)).run pins sZ σZ HZ Q' I ⟨hv, hcZ, ?_⟩
    refine ⟨A', capt ρ, SZ, post', _, ⟨by rw [capt, List.length_map]; exact n.len, fun i d hd => ?_⟩, sZ', hte, kZ, ?_⟩
    · obtain ⟨v, g1, g2⟩ := hcap i d hd
      exact ⟨v, g1, g2.keep (A := []) (B := A') fun _ _ q _ => q⟩
    · intro cls d σ' H' A'' w u ρ' S' e n' s' hd' rw' p σ1 hl1
      exact kx cls d σ1 H' A'' w u (wipeAll ρZ) S' e (relN_wipe hl1) s' hd' rw' p
  · refine ⟨A, startD Ng [.opq (lamF f c' q ρ σ)], S, _, RelN.start ⟨.ref f, [], rfl, ⟨f, rfl, hφ, lamF_stab⟩, rfl⟩, sS, h _, ?_, k, fun _ _ _ _ _ _ _ _ p => p.elim, ⟨fun _ _ _ _ _ _ _ _ p => p.elim, kontX0⟩⟩
    exact fun σ' H' A' ρ' S' e n' s' p => k .non H' A' .non S' e s' rfl p
theorem takes_lam {X : Cx} {A : Around} {outer : List Env} {s : Shared} {H : Hp} {E : XK} {scope : Scope} {f c' : Addr} : Takes (LamX.lamCx X A outer s H E scope f c') (WXof E) := takes_of rfl rfl rfl rfl
/-- the def that calls, in a context of its own: the name at i holds the lambda made in X at s; no repr runs -/
theorem act_gd {X : Cx} {pins : List (Addr × Obj)} {σ : L2.St} {H : Hp} {s : Shared} {cx : CXT} {eg : XK} {Ng : List Str} {qg a : Str} {sg scope : Scope} {g f c' : Addr} {cdg pm ctv : Value} {params : Arguments} {body : Expr} {k i : Nat} {pn : List (Addr × Obj)} {xe : Value → Shared → Prop} {W : WX} {E : XK} {tb : TE} {p1 p2 : Pos}
    (inv : Inv X pins σ H s) (lam : LamX.LamS X.env.scope scope) (at_f : s.heap.get? f = some (PySem.W.kla_obj "<lambda>" (X.env.qual ++ "<lambda>") params body scope (cloFrom X.env.cells scope.names []) pm c' ctv)) (nf : H f = none) (ff : f ∉ frs X.stack) (gd : X.A.guards = some [])
    (bind0 : bindArgs (PySem.W.kla_fn "<lambda>" (X.env.qual ++ "<lambda>") params body scope (cloFrom X.env.cells scope.names []) pm (.ref c') ctv) ⟨[], []⟩ = pure [])
    (tk : Takes ((cxOf cx X.prog X.w X.K X.mg X.base Ng qg sg g cdg X.A X.stack s H eg).tr pn xe) W) (sub : ∀ cls d σ' H', E cls d H' → W cls d σ' H') (room : Room (k + 1) (X.A.deeper (envOfC qg sg s.heap.objs.size g cdg)))
    (hb : ∀ (A : Around) (outer : List Env) (s : Shared) (H : Hp), A.guards = some [] → Room k (A.deeper (LamX.lamEnv X scope s.heap.objs.size f c')) → PE (LamX.lamCx X A outer s H E scope f c') body tb)
    (slot : Ng[i]? = some a) (vis : Vis sg a) (d1 : (a == ("__debug__" : Str)) = false := by decide) (d2 : (a == ("__classdict__" : Str)) = false := by decide) :
    PE ((cxOf cx X.prog X.w X.K X.mg X.base Ng qg sg g cdg X.A X.stack s H eg).tr pn xe) (.Call (.Name a p1) [] [] p2) (fun τ HZ Q => τ[i]? = some (some (.ref f)) ∧ HZ c' = some (LamX.CodeO c' (X.env.qual ++ "<lambda>")) ∧ tb σ HZ Q) := by
  constructor
  rintro pz s0 τ HZ Q iz ⟨hi, hcode, ht⟩
  have name := (pe_var (pos := p1) (i := i) slot vis d1 d2).run pz s0 τ HZ (fun v H' => v = .ref f ∧ H' = HZ) iz ⟨.ref f, hi, rfl, rfl⟩
  refine wpAny_Call_Name_kw (thn name ?_)
  rintro u s1 ⟨v, H', i1, rv, rfl, rfl⟩
  cases (show u = Value.ref f from rv)
  have here := i1.base.keep f _ at_f nf ff (fun z => nomatch (show f ∈ ([] : List Addr) from z))
  obtain ⟨⟨oc, vs, t, oc1, oc2, oc3⟩, -, -⟩ := i1.hok c' _ hcode
  refine PySem.W.callWith_F0 ⟨_, _, _, _, here⟩ (wpAny_call (codeAny_mono (R := CR (L2.CX X.prog X.w) (envOfC qg sg s.heap.objs.size g cdg :: X.stack) X.prog X.w H' s1 Q E) ?run ?out))
  case out =>
    rintro (e | fl) s2 hq
    · exact passes_call tk sub pz τ H' s1 e s2 i1 hq
    · cases fl <;> first | exact i1.after hq | exact hq.elim
  case run =>
    refine PySem.W.kla_callFunE room.depth here rfl lam.co lam.gen rfl ⟨c', oc, vs, t, rfl, oc1, oc2, oc3⟩ ?_
    rw [List.append_nil, bind0]
    refine wpAny_pure (wpAny_newFunctionEnv (fun y hy => (lam.own y hy).2) (fun y hy => nomatch hy) (fun h₁ fresh grown => ⟨i1.nolimit.fresh _ grown, ?_⟩) lam.kind)
    have old : ∀ b o, s1.heap.get? b = some o → h₁.get? b = some o := fun b o e => grown.extBut b o (Nat.ne_of_lt (Heap.lt_size e)) (Heap.get?_push_of_some _ e)
    have start := LamX.lam_start2 (tk := s1.toks + ([] : List (Str × Value)).length) (E := E) (scope := scope) (f := f) (c' := c') inv lam i1.env0 room.hd i1.base fresh old
    refine PySem.W.kla_codeExpr (wpAny_mono ((hb (X.A.deeper (envOfC qg sg s.heap.objs.size g cdg)) (envOfC qg sg s.heap.objs.size g cdg :: X.stack) s1 H' (show X.A.guards = some [] from gd) (room.deeper _)).run [] _ _ H' Q start ht) ?_ fun _ _ h => h)
    rintro v s2 ⟨w', H2, i2, r2, q2⟩
    exact ⟨w', H2, i2.os, i2.bare, i2.base, i2.hok, r2, q2⟩
/-- x(lambda: body), x a def of one parameter that calls what it got -/
theorem de_lam {X : Cx} {x a : Str} {g c P : Addr} {k : Nat} {pg params : Arguments} {bg : List Stmt} {sg scope : Scope} {dV kV doc pm cdv ct oc : Value} {an od : Option Addr} {osl : Array (Option Value)} {Ng : List Str} {b : DEX → DS} {te : DEX} {body : Expr} {p lpos pos : Pos}
    (hg : Gl X x) (hm : X.mg x = some (.ref g)) (hk : PySem.W.keepIn X.K (.ref g) = true) (gd : X.A.guards = some [])
    (lk : X.K.lookup g = some ⟨oc, od, .func (PySem.W.fnOf x x pg bg sg dV kV doc pm an cdv ct), osl⟩) (hcg : PySem.W.codeIn X.K cdv x = true) (hb : L2.Binds X.K (PySem.W.fnOf x x pg bg sg dV kV doc pm an cdv ct) [a] []) (Sg : FnScope Ng [a] sg) (slot : Ng[0]? = some a) (vis : Vis sg a)
    (ok : ∀ (s : Shared) (H : Hp) (act : DEX), Room (k + 1) (X.A.deeper (envOfC x sg s.heap.objs.size g cdv)) → (∀ (W : WX) (pn : List (Addr × Obj)) (xe : Value → Shared → Prop) (p1 p2 : Pos), Takes ((hCx X Ng x sg g cdv s H).tr pn xe) W → PE ((hCx X Ng x sg g cdv s H).tr pn xe) (.Call (.Name a p1) [] [] p2) (liftEX X.K W act)) →
      PSs (hCx X Ng x sg g cdv s H).nox bg (liftS X.K W0 (b act)))
    (tab : LamX.TabB X.base X.mg c P) (hcode : X.env.code = .ref c) (hmT : (P, X.env.qual ++ "<lambda>") ∈ HasT.T) (hu : ∀ p ∈ HasT.T, p.1 = P → p.2 = X.env.qual ++ "<lambda>") (hr : Room (k + 2) X.A) (lam : LamX.LamS X.env.scope scope) (nodef : defaultsOf params X.env = ([], []))
    (bind0 : ∀ (q : Str) (cl : List (Str × Addr)) (pm cv ctv : Value), bindArgs (PySem.W.kla_fn "<lambda>" q params body scope cl pm cv ctv) ⟨[], []⟩ = pure [])
    (hbody : ∀ (A : Around) (outer : List Env) (s : Shared) (H : Hp) (E : XK) (f c' : Addr), A.guards = some [] → Room k (A.deeper (LamX.lamEnv X scope s.heap.objs.size f c')) → PE (LamX.lamCx X A outer s H E scope f c') body (liftEX X.K (WXof E) te))
    (d0 : (x == ("__debug__" : Str)) = false := by decide) (d1 : (a == ("__debug__" : Str)) = false := by decide) (d2 : (a == ("__classdict__" : Str)) = false := by decide) :
    PE X (.Call (.Name x p) [.Lambda params body scope lpos] [] pos) (liftE X.K (dLam Ng b te)) := by
  have hN : 1 ≤ Ng.length := by
    have := (List.getElem?_eq_some_iff.mp slot).1
    omega
  constructor
  rintro pins s σ H Q inv ⟨A, ρ, S, post, n, sS, h, kk⟩
  have made := fun Q' h' => LamX.lam_make2 (T := HasT.T) (E := X.xe) (Q := Q') (params := params) (body := body) (scope := scope) (pos := lpos) inv tab hcode hmT hu sS.tabs nodef (lam.has inv.ok) h'
  refine wpAny_Call_Name_kw (ld_glob inv hg hm (PySem.W.callWith_K (h₀ := X.base) inv.ok.mod.kin hk ?_ (by rfl) (by rfl)) d0)
  refine Calls.spliced_cons (made _ ?_)
  intro f c' pm' ctv H1 s1 i1 eN t1 hf nf ff hco
  refine Calls.spliced_nil ⟨i1.kIn, wpAny_call (codeAny_mono (R := CR C8.CX0 X.stack X.prog X.w H1 s1 Q C8.E0) ?run ?out)⟩
  case out =>
    rintro (e | fl) s2 hq
    · exact hq.elim
    · cases fl <;> first | exact i1.after hq | exact hq.elim
  case run =>
    refine LamX.run_ofS (N := Ng) (ps := [a]) (us := [.ref f]) (vs := [.ref f]) lk hcg Sg hr i1.env0 (hb s1 [.ref f] i1.kIn rfl) (.cons rfl .nil) rfl fun room => ?_
    obtain ⟨t', ht, hq⟩ := lam_gives (q := X.env.qual ++ "<lambda>") hN (fun s H act => ok s H act (hr.deeper _)) f c' s1 H1 Q (fun E H' Q' => liftEX X.K (WXof E) te σ H' Q')
      (fun W pn xe E p1 p2 tk sub => act_gd i1 lam hf nf ff gd (bind0 _ _ _ _ _) tk sub room (fun A outer s H hA hR => hbody A outer s H E f c' hA hR) slot vis d1 d2) hco ⟨σ, A, ρ, S, post, rfl, n.ext (Ext.grow eN), sS.grow eN t1, kk.go (Ext.grow eN), h⟩
    exact ⟨t', ht.nox, hq⟩
end DL
/-! ZU: the law's own end where lambdas are made: it starts with empty tables of code objects. -/
namespace DL
open PySem PySem.Spec PyProof.Rows L2
variable [HasT]

/-- nothing else is tracked at the start: the script, and the tables -/
def Start (T : List Addr) (sc : Addr) (H : Hp) : Prop := ∀ b u, H b = some u → (b ∈ T ∧ u = .tbl #[]) ∨ (b = sc ∧ ∃ o xs, u = .frz o (.lst xs))
theorem endGT {P : Program} {w : World} {K : PySem.W.Frag} {mg mb : Str → Option Value} {k : Nat} {fa sc : Addr} {fd : FuncData} {x : Str} {sp : Sp} {s0 : Shared} {us : List Value} {ks : List Int} {cs : List (Addr × Addr)}
    (KX : K.In s0.heap) (nG : s0.heap.Ns mainGlobals mg) (nB : s0.heap.Ns builtinsNs mb) (bb : ∀ z : Str, z ≠ "__name__" → mb z = bootBuiltins z) (lim : s0.heap.NoLimit) (gn : s0.gens = #[])
    (t0 : ∀ p ∈ cs, s0.heap.get? p.2 = some { cls := .none, data := .fields #[] }) (tK : ∀ p ∈ cs, K.lookup p.2 = none) (tC : ∀ p ∈ cs, PySem.W.CodeHd s0.heap p.1 p.2)
    (bm : ∃ (m : Addr) (o : Obj), mg "__builtins__" = some (.ref m) ∧ m ≠ builtinsNs ∧ s0.heap.get? m = some o ∧ o.cls = .type "module" ∧ o.dict = some builtinsNs ∧ o.data = .plain)
    (hsc : s0.heap.get? sc = some { cls := .type "list", data := .seq us.toArray }) (ii : IntsAre us ks) (kl : ks.length ≤ sizeLine) (rm : Room k callerA)
    (F : ∀ base : Heap, K.In base → base.Ns mainGlobals mg → (∀ p ∈ cs, LamX.TabB base mg p.1 p.2) → FnG P w K mg base CX0 k fa fd [x] sp) (bd : ∀ (s : Shared) (u : Value), BindsTo s fd ⟨[u], []⟩ [(x, u)])
    (spk : ∀ H : Hp, Start (cs.map (·.2)) sc H → (∀ p ∈ cs, H p.2 = some (.tbl #[])) → SqL K H sc (ks.map V.int) → sp [.ref sc] H (fun v _ => v = .bl true) fun _ _ _ => False) :
    codeAny (model P w) callerA (.call (.ref fa) ⟨[.ref sc], []⟩) (fun r s' => r = .ok (.ret (.bool true)) ∧ OldK s0.heap s'.heap ∧ s'.os = s0.os ∧ AllBare s'.gens) s0 := by
  have rv := intVals ii
  have lU := ii.length
  have tabAt : ∀ {b : Addr}, b ∈ cs.map (·.2) → s0.heap.get? b = some { cls := .none, data := .fields #[] } := by
    intro b hb
    obtain ⟨p, hp, rfl⟩ := List.mem_map.mp hb
    exact t0 p hp
  have scT : sc ∉ cs.map (·.2) := fun z => by
    have q := (tabAt z).symm.trans hsc
    cases congrArg Obj.data (Option.some.inj q)
  have core : ∀ H : Hp, Start (cs.map (·.2)) sc H → (∀ b ∈ cs.map (·.2), H b = some (.tbl #[])) → SqL K H sc (ks.map V.int) → HOk P w H s0.heap → (H sc ≠ none → K.lookup sc = none) →
      codeAny (model P w) callerA (.call (.ref fa) ⟨[.ref sc], []⟩) (fun r s' => r = .ok (.ret (.bool true)) ∧ OldK s0.heap s'.heap ∧ s'.os = s0.os ∧ AllBare s'.gens) s0 := by
    intro H hO hT hS ok1 free1
    have untr : ∀ {b : Addr} {o : Obj}, s0.heap.get? b = some o → (∀ vs n, o.data ≠ .seq vs n) → o.data ≠ .fields #[] → H b = none := by
      intro b o e h1 h2
      cases q : H b with
      | none => rfl
      | some u =>
        rcases hO b u q with ⟨hb, _⟩ | ⟨rfl, _⟩
        · exact absurd (congrArg Obj.data (Option.some.inj (e.symm.trans (tabAt hb)))) h2
        · exact absurd (congrArg Obj.data (Option.some.inj (e.symm.trans hsc))) (h1 _ _)
    have ns1 : ∀ {b : Addr} {m : Str → Option Value}, s0.heap.Ns b m → (hidT s0.heap H).Ns b m := by
      rintro b m ⟨o, es, ep, e, d, r⟩
      exact ⟨o, es, ep, hidT_get e (untr e (fun _ _ z => by rw [d] at z; cases z) fun z => by rw [d] at z; cases z), d, r⟩
    have kin1 : K.In (hidT s0.heap H) := by
      intro b o e
      refine hidT_get (KX b o e) ?_
      cases q : H b with
      | none => rfl
      | some u =>
        rcases hO b u q with ⟨hb, _⟩ | ⟨rfl, _⟩
        · obtain ⟨p, hp, rfl⟩ := List.mem_map.mp hb
          cases (tK p hp).symm.trans e
        · cases (free1 (by rw [q]; simp)).symm.trans e
    have md : Mod K mg (hidT s0.heap H) := ⟨kin1, ns1 nG, ⟨mb, ns1 nB, bb⟩, by
      obtain ⟨mc, h1, h2⟩ := lim
      exact ⟨mc, ns1 h1, h2⟩⟩
    have tabs : ∀ p ∈ cs, LamX.TabB (hidT s0.heap H) mg p.1 p.2 := by
      intro p hp
      have notG : mainGlobals ≠ p.2 := fun z => by
        obtain ⟨o, es, ep, e, d, _⟩ := nG
        rw [z] at e
        have q := congrArg Obj.data (Option.some.inj (e.symm.trans (t0 p hp)))
        rw [d] at q
        cases q
      refine ⟨?_, ?_, notG⟩
      · obtain ⟨o, vs, file, tf, flags, tg, inF, text, tt, e, r1, r2, r3, rest⟩ := tC p hp
        exact ⟨o, vs, file, tf, flags, tg, inF, text, tt, hidT_get e (untr e (fun _ _ z => by rw [r2] at z; cases z) fun z => by
          rw [r2] at z
          cases z
          simp at r3), r1, r2, r3, rest⟩
      · obtain ⟨m, o, b1, b2, b3, b4, b5, b6⟩ := bm
        refine ⟨m, o, b1, b2, fun q => ?_, fun q => ?_, hidT_get b3 (untr b3 (fun _ _ z => by rw [b6] at z; cases z) fun z => by rw [b6] at z; cases z), b4, b5, b6⟩
        · obtain ⟨o', es, ep, e, d, _⟩ := nG
          rw [q] at b3
          have z := congrArg Obj.data (Option.some.inj (b3.symm.trans e))
          rw [b6, d] at z
          cases z
        · rw [q] at b3
          have z := congrArg Obj.data (Option.some.inj (b3.symm.trans (t0 p hp)))
          rw [b6] at z
          cases z
    have nothing : ∀ b : Addr, b ∉ ([] : List Addr) := fun b => by simp
    have env1 : Env0 P w K mg (hidT s0.heap H) callerA [] s0 H := ⟨rfl, md, fun b o e => of_hidT e, Nat.le_of_eq (hidT_size _ _), trivial, fun b hb => absurd (show b ∈ ([] : List Addr) from hb) (nothing b), ok1, .of_eq gn⟩
    have run1 := (F _ kin1 (ns1 nG) tabs).run callerA [] s0 H ⟨[.ref sc], []⟩ [.ref sc] [.ref sc] _ _ rfl rm env1 (bd s0 (.ref sc)) (.cons rfl .nil) (spk H hO (fun p hp => hT _ (List.mem_map.mpr ⟨p, hp, rfl⟩)) hS)
    refine codeAny_mono run1 fun r s' h => ?_
    match r, h with
    | .error e, h => exact h.elim
    | .ok .next, h => exact h.elim
    | .ok .brk, h => exact h.elim
    | .ok .cont, h => exact h.elim
    | .ok (.ret u), h =>
      obtain ⟨v, H', os, bare, un, ok2, rr, q⟩ := h
      cases (show v = .bl true from q)
      obtain rfl : u = Value.bool true := rr
      have same : ∀ b o, b ∉ cs.map (·.2) → s0.heap.get? b = some o → s'.heap.get? b = some o := by
        intro b o nb e
        cases q : H b with
        | none => exact un.keep b o e q (fun z => absurd (show b ∈ ([] : List Addr) from z) (nothing b)) (nothing b)
        | some u =>
          rcases hO b u q with ⟨hb, _⟩ | ⟨_, ob, xs, rfl⟩
          · exact absurd hb nb
          · obtain ⟨e1, _⟩ := ok1 b _ q
            obtain ⟨e2, _⟩ := ok2 b _ (un.frzs b ob _ q)
            rw [e] at e1
            cases e1
            exact e2
      have grown : ∀ p ∈ cs, ∃ more : Array Value, s'.heap.get? p.2 = some { cls := .none, data := .fields more } := by
        intro p hp
        obtain ⟨more, z⟩ := un.tbls p.2 #[] (hT _ (List.mem_map.mpr ⟨p, hp, rfl⟩))
        exact ⟨_, ok2 p.2 _ z⟩
      refine ⟨rfl, ⟨fun b o e => ?_, fun b o e => ?_⟩, os, bare⟩ <;> by_cases hb : b ∈ cs.map (·.2)
      · obtain ⟨p, hp, rfl⟩ := List.mem_map.mp hb
        obtain ⟨more, hm⟩ := grown p hp
        cases (t0 p hp).symm.trans e
        exact .inr (.inl ⟨((tC p hp).tab (t0 p hp)).isCodeTable, rfl, #[], more, rfl, by rw [Array.empty_append]; exact hm⟩)
      · exact .inl (same b o hb e)
      · obtain ⟨p, hp, rfl⟩ := List.mem_map.mp hb
        obtain ⟨more, hm⟩ := grown p hp
        exact ⟨_, hm⟩
      · exact ⟨o, same b o hb e⟩
  let fz : HO := .frz { cls := .type "list", data := .seq us.toArray } (.lst (ks.map V.int))
  let H0 : Hp := fun b => if b ∈ cs.map (·.2) then some (.tbl #[]) else if b = sc ∧ K.lookup sc = none then some fz else none
  have kind : ∀ b u, H0 b = some u → (b ∈ cs.map (·.2) ∧ u = .tbl #[]) ∨ (b = sc ∧ K.lookup sc = none ∧ u = fz) := by
    intro b u q
    by_cases hb : b ∈ cs.map (·.2)
    · have q' : some (HO.tbl #[]) = some u := (if_pos hb).symm.trans q
      exact .inl ⟨hb, (Option.some.inj q').symm⟩
    · have q' : (if b = sc ∧ K.lookup sc = none then some fz else none) = some u := (if_neg hb).symm.trans q
      by_cases c : b = sc ∧ K.lookup sc = none
      · rw [if_pos c] at q'
        exact .inr ⟨c.1, c.2, (Option.some.inj q').symm⟩
      · rw [if_neg c] at q'
        cases q'
  refine core H0 (fun b u q => (kind b u q).imp id fun ⟨h1, _, h3⟩ => ⟨h1, _, _, h3⟩) (fun b hb => if_pos hb) ?_ (fun b u q => ?_) fun z => ?_
  · cases hk : K.lookup sc with
    | some o =>
      have e := KX sc o hk
      rw [hsc] at e
      cases e
      exact .inr ⟨_, us.toArray, _, hk, rfl, rfl, rfl, by rw [List.size_toArray, lU]; exact kl, by simpa using rv⟩
    | none => exact .inl (.inr ⟨_, (if_neg scT).trans (if_pos ⟨rfl, hk⟩)⟩)
  · rcases kind b u q with ⟨hb, rfl⟩ | ⟨rfl, _, rfl⟩
    · exact tabAt hb
    · exact ⟨hsc, by rw [List.length_map]; exact kl, us, _, rv, hsc⟩
  · cases q : H0 sc with
    | none => exact absurd q z
    | some u =>
      rcases kind sc u q with ⟨hb, _⟩ | ⟨_, hk, _⟩
      · exact absurd hb scT
      · exact hk
omit [HasT] in
/-- what the end wants of a law whose defs make lambdas, at the head's heap h: T, the tables and the names that their code objects bear; cs, the code objects that own them -/
structure TabsAt (K : PySem.W.Frag) (h : Heap) (T : HasT) (cs : List (Addr × Addr)) : Prop where
  empty : ∀ p ∈ cs, h.get? p.2 = some { cls := .none, data := .fields #[] }
  out : ∀ p ∈ cs, K.lookup p.2 = none
  code : ∀ p ∈ cs, PySem.W.CodeHd h p.1 p.2
  all : ∀ p ∈ T.T, p.1 ∈ cs.map (·.2)
omit [HasT] in
/-- the def at fa, its code object and that one's table, as they stand in K -/
structure OwnAt (K : PySem.W.Frag) (fa c P : Addr) : Prop where
  hd : PySem.W.codeHdIn K c P = true
  out : K.lookup P = none
  fn : ∃ (o : Obj) (fd : FuncData), K.lookup fa = some o ∧ o.data = .func fd ∧ fd.code = .ref c
  cd : ∃ (e : Value) (dd : Option Addr) (vs : Array Value) (sl : Array (Option Value)), K.lookup c = some ⟨e, dd, .fields vs, sl⟩ ∧ vs[11]? = some (.ref P)
omit [HasT] in
theorem TabsAt.of {K : PySem.W.Frag} {h : Heap} {q : Program} {mg : Str → Option Value} {T : HasT} {cs : List (Addr × Addr)} (KX : K.In h) (own : ∀ r ∈ recsOf q, ∀ fb, mg r.name = some (.ref fb) → LamX.OwnTab K fb h)
    (hc : ∀ p ∈ cs, ∃ r ∈ recsOf q, ∃ fb, mg r.name = some (.ref fb) ∧ OwnAt K fb p.1 p.2) (all : ∀ p ∈ T.T, p.1 ∈ cs.map (·.2)) : TabsAt K h T cs := by
  refine ⟨fun p hp => ?_, fun p hp => ?_, fun p hp => ?_, all⟩ <;> obtain ⟨r, hr, fb, hfb, O⟩ := hc p hp
  · obtain ⟨o, fd, f1, f2, f3⟩ := O.fn
    obtain ⟨e, dd, vs, sl, c1, c2⟩ := O.cd
    exact own r hr fb hfb _ _ o fd e dd vs sl f1 f2 f3 c1 c2
  · exact O.out
  · exact PySem.W.codeHd_of_K KX O.hd
omit [HasT] in
theorem walkGT {l : PySem.W.OpenLaw} {n k : Nat} {q : Program} {loose : List Str} {XP : (Str → Option Value) → Heap → Prop} {YP : World → Heap → Prop} {d : DefRec} {K : Params → PySem.W.Frag} {sp : DSp} {x : Str}
    (hn : l.most = some n) (hn2 : n ≤ sizeLine) (nodef : d.params.defaults = []) (rm : Room k callerA) (hY : ∀ (w : World) (h : Heap), YP w h → (K w.params).In h)
    (F : ∀ (w : World) (mg : Str → Option Value) (fa : Addr) (h : Heap), YP w h → (K w.params).In h → h.Ns mainGlobals mg → mg d.name = some (.ref fa) → (∀ r ∈ recsOf q, ∀ fb, mg r.name = some (.ref fb) → LamX.OwnTab (K w.params) fb h) →
      ∃ (T : HasT) (cs : List (Addr × Addr)) (fd : FuncData), TabsAt (K w.params) h T cs ∧ (∀ (s : Shared) (u : Value), BindsTo s fd ⟨[u], []⟩ [(x, u)]) ∧
        ∀ base : Heap, (K w.params).In base → base.Ns mainGlobals mg → (∀ p ∈ cs, LamX.TabB base mg p.1 p.2) → FnG l.prog w (K w.params) mg base CX0 k fa fd [x] (spL (K w.params) sp))
    (hsp : ∀ (ns : List Int), ns.length ≤ n → sp [.rl (ns.map D.int)] [] fun d _ => d = .bl true) :
    PySem.W.WalkO q loose XP YP l.row.toRowW d [] (fun f vs => PySem.call f vs) := by
  refine Att.attach_call hn nodef fun w s₀ s₁ mg mb fa o pm cd doc a us ks G Y ho hd hcd hmg hobj hints hlen hg => ?_
  have KX := hY w _ Y
  have own : ∀ r ∈ recsOf q, ∀ fb, mg r.name = some (.ref fb) → LamX.OwnTab (K w.params) fb s₁.heap := by
    intro r hr fb hfb c P o1 fd1 e dd vs sl k1 k2 k3 k4 k5
    obtain ⟨a', o', fd', c', P', h1, h2, h3, h4, _, ⟨oc, vc, e1, _, e3, e4⟩, hP⟩ := G.T.tab r hr
    cases hfb.symm.trans h1
    cases (KX _ _ k1).symm.trans h2
    cases k2.symm.trans h3
    cases k3.symm.trans h4
    cases (KX _ _ k4).symm.trans e1
    cases e3
    cases k5.symm.trans e4
    exact hP
  obtain ⟨T, cs, fd, ta, hb, hF⟩ := F w mg fa _ Y KX G.T.g hmg own
  refine endGT KX G.T.g G.T.b G.T.builtins G.T.nolimit hg ta.empty ta.out ta.code G.T.bmain hobj hints (Nat.le_trans hlen hn2) rm hF hb fun H hO hT hS => ?_
  have toFix : FixL (K w.params) H a (ks.map V.int) := by
    rcases hS with (h | ⟨ob, h⟩) | h
    · exfalso
      rcases hO a _ h with ⟨_, z⟩ | ⟨_, _, _, z⟩ <;> cases z
    · exact .inl ⟨ob, h⟩
    · exact .inr (.inr h)
  have rel : ∀ {ks : List Int}, RelDs (K w.params) H [] (ks.map D.int) (ks.map V.int) := by
    intro ks
    induction ks with
    | nil => rfl
    | cons i ks ih => exact ⟨.int i, ks.map V.int, rfl, rfl, ih⟩
  have tabs : TabsT H := fun p hp => by
    obtain ⟨c, hc, e⟩ := List.mem_map.mp (ta.all p hp)
    exact LamX.TabS.nil (by rw [← e]; exact hT c hc)
  refine ⟨[], [.rl (ks.map D.int)], [], _, ⟨rfl, List.nodup_nil, fun n e h => by simp at h, tabs⟩, ⟨.ref a, [], rfl, ⟨a, ks.map V.int, rfl, toFix, rel⟩, rfl⟩, hsp ks hlen, fun v H' A' d S' e s' r p => ?_⟩
  subst p
  exact r
end DL
/-! ZV: beside the lambdas: tuples of what may raise, calls by keywords of what may raise, a def whose code object is known. -/
namespace DL
open PySem PySem.Spec PyProof.Rows L2
variable [HasT]

def dTupX (t : DAX) : DEX := fun ρ S post ex => t ρ S (fun ds S1 => ds.length ≤ 100000 ∧ post (.tup ds) S1) ex
theorem de_tupX {X : Cx} {W : WX} {es : List Expr} {pos : Pos} {t : DAX} {x1} (h : PA X es (liftAX X.K W t)) : PE X (.Tuple es x1 pos) (liftEX X.K W (dTupX t)) :=
  pe_mono (pe_tupP h) fun σ H Q ⟨A, ρ, S, post, ex, n, s, p, k, kx⟩ => ⟨A, ρ, S, _, ex, n, s, p, fun vs H1 A1 ds S1 e1 s1 r1 ⟨hl, p1⟩ => ⟨by rw [r1.len]; exact le_line hl, fun a o ha ho =>
    let ⟨e2, s2⟩ := relS_tup (o := .frz o (.tup vs)) s1 ha
    k (.ref a) (upd H1 a (.frz o (.tup vs))) A1 (.tup ds) S1 (e1.trans e2) s2 ⟨a, vs, rfl, .inl ⟨o, upd_same, ho⟩, r1.ext e2⟩ p1⟩, kx⟩
/-- a def that may raise, called by keywords alone -/
structure CalKX (P : Program) (w : World) (K : PySem.W.Frag) (mg : Str → Option Value) (base : Heap) (k : Nat) (x : Str) (sp : DSpX) (ks : List Str) (g : {α : Type} → List α → List α) : Prop where
  ex : ∃ (f : Addr) (fd : FuncData) (ps : List Str), FnG P w K mg base (L2.CX P w) k f fd ps (spLX K sp) ∧ mg x = some (.ref f) ∧ PySem.W.keepIn K (.ref f) = true ∧ KwB K fd ps ks g
  sub : ∀ {α : Type} (l : List α) (a : α), a ∈ g l → a ∈ l
def dCallKX (sp : DSpX) (n : Nat) (g : {α : Type} → List α → List α) (t : DA) : DEX := fun ρ S post ex => t ρ S fun ds S1 => ds.length = n ∧ callDX sp (g ds) S1 post fun c w S' => ex c w ρ S'
section
variable {X : Cx} {W : WX} {k j : Nat} {sp : DSpX} {x : Str} {p pos : Pos} {kws : List Keyword} {ks : List Str} {g : {α : Type} → List α → List α} {t : DA}
theorem de_calKX {n : Nat} (C : CalKX X.prog X.w X.K X.mg X.base j x sp ks g) (hgd : X.A.guards = some []) (hr : Room k X.A) (hj : j ≤ k) (hg : Gl X x) (tk : Takes X W) (hkw : PK X kws (liftA X.K t)) (hn : ks.length = n := by rfl) (hdb : (x == ("__debug__" : Str)) = false := by decide)
    (hall : (backToKw pos (keywordEach kws X.env)).all (·.1.isSome) = true := by rfl) (hks : (backToKw pos (keywordEach kws X.env)).filterMap (·.1) = ks := by rfl)
    (hpl : ((backTo pos (starEach [] X.env)).any (·.1) || (backToKw pos (keywordEach kws X.env)).any (·.1.isNone)) = false := by rfl) : PE X (.Call (.Name x p) [] kws pos) (liftEX X.K W (dCallKX sp n (fun l => g l) t)) := by
  subst hn
  obtain ⟨f, fd, ps, F, hm, hk, hb⟩ := C.ex
  have hsub := @C.sub
  refine ⟨fun pins s σ H Q I ⟨A, ρ, S, post, ex, n, sS, h, kk, kx⟩ => ?_⟩
  refine wpAny_Call_Name_kw (ld_glob I hg hm ?_ hdb)
  refine PySem.W.callWith_KW0 (h₀ := X.base) I.ok.mod.kin hk hall (thn (hkw.run pos pins s σ H (fun zs H1 => zs.length = ks.length ∧ spLX X.K sp (g zs) H1 Q (WE W σ)) I ⟨A, ρ, S, _, n, sS, h, fun vs H' A' ds S' e' s' r p1 => ?_⟩) fun ws s2 ⟨zs, H2, I2, rz, l2, q2⟩ => ⟨I2.kIn, ?_⟩) hpl
  · refine ⟨by rw [r.len]; exact p1.1, ?_⟩
    obtain ⟨prs, rfl, rfl, hp⟩ := r.getEl
    have rr : RelDs X.K H' A' (g (prs.map (·.1))) (g (prs.map (·.2))) := by
      rw [hb.mp, hb.mp]
      exact relDs_of fun q hq => hp q (hsub _ _ hq)
    exact lift_callDX s' rr p1.2 (kk.go e') fun c u H2 A2 w S2 e2 s2 r2 p2 d hd => kx c d σ H2 A2 w u ρ S2 (e'.trans e2) ((n.ext e').ext e2) s2 hd r2 p2
  · rw [hks]
    have lw : ws.length = ks.length := rz.length.symm.trans l2
    have rz2 : Vals (g zs) (g ws) := by
      obtain ⟨prs, rfl, rfl, hp⟩ := valsPair rz
      rw [hb.mp, hb.mp]
      exact pairVals fun q hq => hp q (hsub _ _ hq)
    refine wpAny_call (codeAny_mono (F.run X.A X.stack s2 H2 ⟨[], ks.zip ws⟩ (g ws) (g zs) Q (WE W σ) hgd (hr.mono hj) I2.env0 (hb.to s2 ws I2.kIn lw) rz2 q2) fun r s' hq => ?_)
    cases r with
    | error ex => exact passAt tk σ pins H2 s2 ex s' I2 hq
    | ok fl =>
      cases fl with
      | ret u => exact I2.after hq
      | next => exact hq.elim
      | brk => exact hq.elim
      | cont => exact hq.elim
end
/-- as fn_okG, for a def whose code object stands at c: it may make lambdas -/
theorem fn_okGC {P : Program} {w : World} {K : PySem.W.Frag} {mg : Str → Option Value} {base : Heap} {x qual : Str} {st : Stmt} {f c : Addr} {fd : FuncData} {N ps : List Str} {k : Nat} {sp : DSp} {tb : DS} (F : Fun K x qual st f fd) (hc : fd.code = .ref c) (Sc : FnScope N ps (defScope st))
    (hl : ∀ ds S post, sp ds S post → ds.length = ps.length)
    (hb : ∀ (A : Around) (outer : List Env) (s : Shared) (H : Hp) (E : XK), (A.deeper (envOfC qual (defScope st) s.heap.objs.size f (.ref c))).guards = some [] → Room k (A.deeper (envOfC qual (defScope st) s.heap.objs.size f (.ref c))) →
      PSs (cxOf CX0 P w K mg base N qual (defScope st) f (.ref c) A outer s H E).nox (defBody st) (liftS K W0 tb))
    (hd : ∀ ds S post, sp ds S post → tb ⟨fun _ S' => fnEnd S post .non S', fnEnd S post, fun _ _ => False, fun _ _ => False, fun _ _ _ _ => False⟩ (startD N ds) S) : FnG P w K mg base CX0 (k + 1) f fd ps (spL K sp) := by
  refine fnG_ofC F Sc (fun vs H Q E ⟨A, ds, S, post, s, r, h, kk⟩ => by rw [r.len]; exact hl ds S post h) (fun cdv e A0 outer s0 H vs Q E hgd hr ⟨A, ds, S, post, s, r, h, kk⟩ => ?_)
  cases hc.symm.trans e
  exact ⟨_, (hb A0 outer s0 H E hgd hr).nox, fnBody s r (hd ds S post h) kk⟩
/-- a module's number -/
theorem de_gint {X : Cx} {x : Str} {i : Int} {pos : Pos} (hg : Gl X x) (hm : ∃ t, X.mg x = some (.int i t)) (hdb : (x == ("__debug__" : Str)) = false := by decide) : PE X (.Name x pos) (liftE X.K (dC (.int i))) := by
  obtain ⟨t, hm⟩ := hm
  exact de_c (pe_glob (v := .int i) hg hm ⟨t, rfl⟩ hdb) fun _ _ _ => rfl
/-- how a call by place and then by name binds, the names in the parameters' order -/
structure MixB (K : PySem.W.Frag) (fd : FuncData) (ps ks : List Str) (n : Nat) : Prop where
  to : ∀ (s : Shared) (us ws : List Value), K.In s.heap → us.length = n → ws.length = ks.length → BindsTo s fd ⟨us, ks.zip ws⟩ (ps.zip (us ++ ws))
theorem mixB_of {K : PySem.W.Frag} {x qual : Str} {st : Stmt} {f : Addr} {fd : FuncData} {ps ks : List Str} {n : Nat} (F : Fun K x qual st f fd)
    (h : ∀ (kV doc pm : Value) (an : Option Addr) (cdv ct : Value) (us ws : List Value), us.length = n → ws.length = ks.length → bindArgs (PySem.W.fnOf x qual (defArgs st) (defBody st) (defScope st) .none kV doc pm an cdv ct) ⟨us, ks.zip ws⟩ = pure (ps.zip (us ++ ws))) : MixB K fd ps ks n := by
  obtain ⟨oc, od, kV, doc, pm, an, cdv, ct, osl, rfl, lk, hcd⟩ := F.ex
  exact ⟨fun s us ws _ h1 h2 => .of_eq (h kV doc pm an cdv ct us ws h1 h2)⟩
theorem vals_app : ∀ {vs : List V} {us : List Value} {zs : List V} {ws : List Value}, Vals vs us → Vals zs ws → Vals (vs ++ zs) (us ++ ws)
  | _, _, _, _, .nil, r => r
  | _, _, _, _, .cons a b, r => .cons a (vals_app b r)
structure CalM (P : Program) (w : World) (K : PySem.W.Frag) (mg : Str → Option Value) (base : Heap) (k : Nat) (x : Str) (sp : DSp) (ks : List Str) (n : Nat) : Prop where
  ex : ∃ (f : Addr) (fd : FuncData) (ps : List Str), FnG P w K mg base CX0 k f fd ps (spL K sp) ∧ mg x = some (.ref f) ∧ PySem.W.keepIn K (.ref f) = true ∧ MixB K fd ps ks n
def dCallM (sp : DSp) (n m : Nat) (t u : DA) : DE := fun ρ S post => t ρ S fun ds S1 => ds.length = n ∧ u ρ S1 fun es S2 => es.length = m ∧ callD sp (ds ++ es) S2 post
section
variable {X : Cx} {k j : Nat} {sp : DSp} {x : Str} {p pos : Pos} {e : Expr} {es : List Expr} {kws : List Keyword} {ks : List Str} {t u : DA}
theorem de_calM {n m : Nat} (C : CalM X.prog X.w X.K X.mg X.base j x sp ks n) (hgd : X.A.guards = some []) (hr : Room k X.A) (hj : j ≤ k) (hg : Gl X x) (ha : PA X (e :: es) (liftA X.K t)) (hkw : PK X kws (liftA X.K u)) (hm : ks.length = m := by rfl) (hdb : (x == ("__debug__" : Str)) = false := by decide)
    (hall : (backToKw pos (keywordEach kws X.env)).all (·.1.isSome) = true := by rfl) (hks : (backToKw pos (keywordEach kws X.env)).filterMap (·.1) = ks := by rfl) (he : starEach (e :: es) X.env = (false, eval e X.env) :: starEach es X.env := by rfl)
    (hpl : ((backTo pos (starEach (e :: es) X.env)).any (·.1) || (backToKw pos (keywordEach kws X.env)).any (·.1.isNone)) = false := by rfl) : PE X (.Call (.Name x p) (e :: es) kws pos) (liftE X.K (dCallM sp n m t u)) := by
  subst hm
  obtain ⟨f, fd, ps, F, hmg, hk, hb⟩ := C.ex
  refine ⟨fun pins s σ H Q I ⟨A, ρ, S, post, nN, sS, h, kk⟩ => wpAny_Call_Name_kw (ld_glob I hg hmg ?_ hdb)⟩
  refine PySem.W.callWith_KW (h₀ := X.base) I.ok.mod.kin hk hall (thn (ha.run pos pins s σ H (fun vs H1 => vs.length = n ∧ liftA X.K u σ H1 fun zs H2 => zs.length = ks.length ∧ spL X.K sp (vs ++ zs) H2 Q E0) I ⟨A, ρ, S, _, nN, sS, h, fun vs H1 A1 ds S1 e1 s1 r1 ⟨l1, p1⟩ => ⟨by rw [r1.len, l1], A1, ρ, S1, _, nN.ext e1, s1, p1, fun zs H2 A2 es S2 e2 s2 r2 ⟨l2, p2⟩ => ⟨by rw [r2.len, l2], ?_⟩⟩⟩) fun us s1 ⟨vs, H1, I1, r, l1, q⟩ => ?_) hpl he
  · exact lift_callD s2 ((RelDs.ext e2 r1).append r2) p2 ((kk.go e1).go e2)
  refine thn (hkw.run pos pins s1 σ H1 _ I1 q) fun ws s2 ⟨zs, H2, I2, rz, l2, q2⟩ => ⟨I2.kIn, ?_⟩
  rw [hks]
  have r2 := vals_app r rz
  refine wpAny_call (codeAny_mono (F.run X.A X.stack s2 H2 ⟨us, ks.zip ws⟩ (us ++ ws) (vs ++ zs) Q E0 hgd (hr.mono hj) I2.env0 (hb.to s2 us ws I2.kIn (r.length.symm.trans l1) (rz.length.symm.trans l2)) r2 q2) fun r s' hq => ?_)
  cases r with
  | error ex => exact hq.elim
  | ok fl =>
    cases fl with
    | ret u => exact I2.after hq
    | next => exact hq.elim
    | brk => exact hq.elim
    | cont => exact hq.elim
end
end DL
/-! ZW: x[::-1] of a tuple or a list. -/
namespace DL
open PySem PySem.Spec PyProof.Rows L2

section
variable {prog : Program} {w : World} {A : Around} {E : Value → Shared → Prop} {s : Shared}
theorem rev_applied {sl : Addr} {vl vu vs : Value} {n : Nat} {Q : Int × Int × Nat → Shared → Prop} (hs : s.heap.IsSliceOf sl vl vu vs) (pl : IsPart vl none) (pu : IsPart vu none) (ps : IsPart vs (some (-1)))
    (h : Q ((n : Int) - 1, -1, n) s) : wpAny (model prog w) A (Builtin.Slice.sliceApplied (.ref sl) (pure (n : Int))) Q E s := by
  obtain ⟨os, hos, hcs, hds⟩ := id hs
  unfold Builtin.Slice.sliceApplied Builtin.Slice.sliceFields
  refine wpAny_bind (wpAny_bind (wpAny_field hos hds (x := vl) rfl (wpAny_bind (wpAny_field hos hds (x := vu) rfl (wpAny_bind (wpAny_field hos hds (x := vs) rfl (wpAny_pure ?_)))))))
  refine wpAny_bind (HT.slicePart_ ps ?_)
  show wpAny _ _ (if ((-1 : Int) == 0) = true then _ else _) _ _ s
  rw [if_neg (by decide)]
  refine wpAny_bind (HT.slicePart_ pl (wpAny_bind (HT.slicePart_ pu (wpAny_bind (wpAny_pure ?_)))))
  have e1 : Builtin.Slice.sliceAdjust none none (-1) (n : Int) = ((n : Int) - 1, -1) := rfl
  show wpAny _ _ (match Builtin.Slice.sliceAdjust none none (-1) (n : Int) with | (lo, hi) => pure (lo, (-1 : Int), Builtin.Slice.slicePlaces lo hi (-1))) _ _ s
  rw [e1]
  have e2 : Builtin.Slice.slicePlaces ((n : Int) - 1) (-1) (-1) = n := by
    unfold Builtin.Slice.slicePlaces
    have h1 : ¬ ((-1 : Int) > 0) := by decide
    simp only [h1, if_false]
    split
    · rw [show (- -1 : Int) = 1 by decide, Int.ediv_one]
      omega
    · omega
  show wpAny _ _ (pure ((n : Int) - 1, (-1 : Int), Builtin.Slice.slicePlaces ((n : Int) - 1) (-1) (-1))) _ _ s
  rw [e2]
  exact wpAny_pure h
theorem fm_congr {α β : Type} {f g : α → Option β} : ∀ {l : List α}, (∀ a ∈ l, f a = g a) → l.filterMap f = l.filterMap g
  | [], _ => rfl
  | a :: l, h => by
    rw [List.filterMap_cons, List.filterMap_cons, h a List.mem_cons_self, fm_congr fun b hb => h b (List.mem_cons_of_mem _ hb)]
theorem rev_pick (xs : Array Value) : ((List.range xs.size).filterMap fun (m : Nat) => xs[((xs.size : Int) - 1 + (m : Int) * (-1)).toNat]?).toArray = xs.toList.reverse.toArray := by
  have e : ∀ m ∈ List.range xs.size, xs[((xs.size : Int) - 1 + (m : Int) * (-1)).toNat]? = xs[xs.size - 1 - m]? := fun m hm => by
    rw [List.mem_range] at hm
    congr 1
    omega
  rw [fm_congr e]
  have e3 : (List.range xs.size).filterMap (fun m => xs[xs.size - 1 - m]?) = ((List.range xs.size).map fun k => xs.size - 1 - k).filterMap (xs[·]?) := by
    rw [List.filterMap_map]
    rfl
  rw [e3, PySem.W.krv_range, List.filterMap_reverse, PySem.W.krv_all]
theorem getItem_tuple_rev {t sl : Addr} {items : Array Value} {vl vu vs : Value} {Q : Value → Shared → Prop} (ht : IsTup s.heap t items) (hs : s.heap.IsSliceOf sl vl vu vs) (pl : IsPart vl none) (pu : IsPart vu none) (ps : IsPart vs (some (-1)))
    (h : Q (.ref s.heap.objs.size) { s with heap := s.heap.push { cls := .type "tuple", data := .seq items.toList.reverse.toArray } }) (hsz : items.size ≤ sizeLine) : wpAny (model prog w) A (getItem (.ref t) (.ref sl)) Q E s := by
  have htake : sizeOk (.seq items.toList.reverse.toArray) := by
    show items.toList.reverse.toArray.size ≤ sizeLine
    rw [List.size_toArray, List.length_reverse, Array.length_toList]
    exact hsz
  obtain ⟨os, hos, hcs, hds⟩ := id hs
  have hTs : s.TypeIs (.ref sl) "slice" := ⟨os, hos, hcs⟩
  unfold getItem
  try with_reducible refine wpAny_holding ?_
  first | refine wpAny_bind (wpAny_pure ?_) | skip
  refine wpAny_bind (wpAny_sequenceKey ht.typeIs (by decide) ?_)
  refine wpAny_bind (wpAny_callSpecial?_slot (name := Str.ofString "__getitem__") ht.typeIs PyProof.Rows.slot_tuple_getitem
    (wpAny_call_entry PyProof.Rows.slot_tuple_getitem ht.typeIs entry_tuple_getitem ?_ (args_tuple_getitem _ _)))
  show wpAny _ _ (Builtin.Tuple.tupleItemsOf (.ref t) >>= _) _ _ s
  refine wpAny_bind (tupleItemsOf_ ht ?_)
  refine wpAny_bind (wpAny_typeOf hTs ?_)
  rw [if_pos (by decide)]
  refine wpAny_bind (rev_applied hs pl pu ps ?_)
  have hno : ¬ ((((items.size : Int) - 1) == 0 && (-1 : Int) == 1 && items.size == items.size) = true) := by
    intro q
    rw [Bool.and_eq_true, Bool.and_eq_true] at q
    exact absurd q.1.2 (by decide)
  show wpAny _ _ (if (((items.size : Int) - 1) == 0 && (-1 : Int) == 1 && items.size == items.size) = true then _ else _) _ _ s
  rw [if_neg hno, rev_pick]
  first
    | exact wpAny_bind (m := Builtin.Tuple.tupleExact _) (wpAny_newObj_type (wpAny_pure ⟨_, rfl, wpAny_pure h⟩) htake)
    | exact wpAny_bind (m := Builtin.Tuple.tupleExact _) (wpAny_newObj_type (wpAny_bind (wpAny_pure (wpAny_pure ⟨_, rfl, wpAny_pure h⟩))) htake)
    | exact wpAny_bind (wpAny_bind (m := Builtin.Tuple.tupleExact _) (wpAny_newObj_type (wpAny_pure (wpAny_pure ⟨_, rfl, wpAny_pure h⟩)) htake))
    | exact wpAny_bind (wpAny_bind (m := Builtin.Tuple.tupleExact _) (wpAny_newObj_type (wpAny_pure ⟨_, rfl, wpAny_pure h⟩) htake))
end
variable [HasT]
def tRevT (K : PySem.W.Frag) (te : TE) : TE := fun σ H Q => te σ H fun x H1 => ∃ a xs, x = .ref a ∧ SqT K H1 a xs ∧ ∀ (p : Addr) (o : Obj), H1 p = none → o.dict = none → Q (.ref p) (upd H1 p (.frz o (.tup xs.reverse)))
theorem pe_revT {X : Cx} {e : Expr} {te : TE} {k : Nat} {p1 p2 p3 pos : Pos} (he : PE X e te) : PE X (.Subscript e (.Slice none none (some (.UnaryOp .USub (.Constant (.int 1) k p1) p2)) p3) pos) (tRevT X.K te) := by
  refine ⟨fun pins s σ H Q I h => ?_⟩
  refine Subscript_ (thn (he.run pins s σ H _ I h) fun v s1 ⟨x, H1, I1, r1, q1⟩ => ?_)
  obtain ⟨a, xs, ex, hx, q⟩ := q1
  subst ex
  cases r1
  have hst : PO X (some (.UnaryOp .USub (.Constant (.int 1) k p1) p2)) (tPart (tUn (rU fun i => .int (-i)) (tC (.int 1)))) := po_some (pe_un un_neg pe_int)
  refine wpAny_Slice (thn (po_none.run pins s1 σ H1 (fun o H2 => o = none ∧ H2 = H1) I1 ⟨rfl, rfl⟩) fun vl s2 ⟨l, H2, I2, pl, el, e2⟩ => ?_)
  subst el e2
  refine thn (po_none.run pins s2 σ H2 (fun o H3 => o = none ∧ H3 = H2) I2 ⟨rfl, rfl⟩) fun vu s3 ⟨u, H3, I3, pu, eu, e3⟩ => ?_
  subst eu e3
  refine thn (hst.run pins s3 σ H3 (fun o H4 => o = some (-1) ∧ H4 = H3) I3 ⟨1, rfl, -1, rfl, rfl, rfl⟩) fun vs s4 ⟨o, H4, I4, ps, eo, e4⟩ => ?_
  subst eo e4
  have I5 : Inv X pins σ H4 { s4 with heap := s4.heap.push { cls := .type "slice", data := .fields #[vl, vu, vs] } } := I4.kept (t' := s4.toks) fun b ob q => Heap.get?_push_of_some _ q
  obtain ⟨its, r, ht, hz⟩ := I5.tuple hx
  have hlen := r.length
  show wpAny (model X.prog X.w) X.A (subscriptTail e (.Slice none none (some (.UnaryOp .USub (.Constant (.int 1) k p1) p2)) p3) (.ref a) (.ref s4.heap.objs.size)) (EP X pins σ Q) X.xe { s4 with heap := s4.heap.push { cls := .type "slice", data := .fields #[vl, vu, vs] } }
  refine tail_any (ops := [.ref a, .ref s4.heap.objs.size]) ht.typeIs (PyProof.Rows.slot_tuple_getitem.lookup) ?_ (by with_unfolding_all rfl)
  refine getItem_tuple_rev ht (Heap.IsSliceOf.new _ vl vu vs) pl pu ps ?_ (by rw [List.size_toArray]; omega)
  refine ⟨.ref _, _, laidP (tk := s4.toks) I5 (fun b ob q => Heap.get?_push_of_some _ q) (Nat.le_refl _) (Heap.get?_push_size _ rfl) r.reverse (by rw [List.length_reverse]; exact hz), rfl, q _ _ (I5.hok.fresh (Nat.le_refl _)) rfl⟩
def dRevT (te : DE) : DE := fun ρ S post => te ρ S fun x S1 => ∃ xs, x = .tup xs ∧ post (.tup xs.reverse) S1
theorem RelDs.rev {K : PySem.W.Frag} {H : Hp} {A : List Addr} : ∀ {ds : List D} {vs : List V}, RelDs K H A ds vs → RelDs K H A ds.reverse vs.reverse
  | [], _, h => by
    rw [show _ = [] from h]
    exact rfl
  | d :: ds, _, ⟨v, r, h1, h2, h3⟩ => by
    rw [h1, List.reverse_cons, List.reverse_cons]
    exact (RelDs.rev h3).append (RelDs.one h2)
theorem de_revT {X : Cx} {e : Expr} {te : DE} {k : Nat} {p1 p2 p3 pos : Pos} (he : PE X e (liftE X.K te)) : PE X (.Subscript e (.Slice none none (some (.UnaryOp .USub (.Constant (.int 1) k p1) p2)) p3) pos) (liftE X.K (dRevT te)) :=
  pe_mono (pe_revT he) fun σ H Q ⟨A, ρ, S, post, n, s, p, kk⟩ => ⟨A, ρ, S, _, n, s, p, fun v H1 A1 d S1 e1 s1 r1 ⟨xs, hd, p1⟩ => by
    subst hd
    obtain ⟨a, vs, rfl, ht, hv⟩ := r1
    exact ⟨a, vs, rfl, ht.sq, fun q o hq ho => fin_tup s1 (kk.go e1) hq ho hv.rev p1⟩⟩
end DL
/-! ZX: a tuple times a number; rises of ints. -/
namespace DL
open PySem PySem.Spec PyProof.Rows L2
variable [HasT]
/-- a tuple times an int from 2 to 1000, the new tuple known to have no dict -/
def rMulP (K : PySem.W.Frag) : R2 := fun x y H Q => ∃ (a : Addr) (j : Int) (zs : List V), x = .ref a ∧ y = .int j ∧ SqT K H a zs ∧ zs ≠ [] ∧ 2 ≤ j ∧ j ≤ 1000 ∧ zs.length ≤ 1000 ∧ ∀ (p : Addr) (o : Obj), H p = none → o.dict = none → Q (.ref p) (upd H p (.frz o (.tup (List.replicate j.toNat zs).flatten)))
theorem op_mulP {X : Cx} : OpR X (binaryOp .Mult) (rMulP X.K) := by
  intro pz sh τ HH x y vx ux QQ iz r1 r2 hh
  obtain ⟨a, j, zs, rfl, rfl, hT, h0, j1, j2, jz, qq⟩ := hh
  cases r1
  obtain ⟨tk, rfl⟩ := r2
  obtain ⟨vz, rv, ⟨⟨cz, dz, dat, sz⟩, at_, c1, n, d1⟩, big⟩ := iz.tuple hT
  simp only at c1 d1
  subst c1 d1
  have lz : vz.length = zs.length := rv.length.symm
  have some_ : vz.toArray.isEmpty = false := by
    cases vz with
    | nil => exact absurd (List.eq_nil_of_length_eq_zero lz.symm) h0
    | cons _ _ => rfl
  have sz0 : vz.toArray.size = zs.length := by
    rw [List.size_toArray]
    exact lz
  have prod : ((vz.toArray.size : Nat) : Int) * j ≤ 1000000 := by
    rw [sz0]
    have b1 : ((zs.length : Nat) : Int) * j ≤ 1000 * j := Int.mul_le_mul_of_nonneg_right (by omega) (by omega)
    omega
  have le2 : j.toNat * zs.length ≤ 1000 * 1000 := Nat.mul_le_mul (by omega) jz
  have fl : (List.replicate j.toNat vz).flatten.length ≤ sizeLine := by
    rw [PyProof.Rows.lm_len_rep_flat, lz, sizeLine_eq]
    omega
  have d0 : (decide (j < -(2 ^ 63)) || decide (j ≥ 2 ^ 63)) = false := by
    rw [Bool.or_eq_false_iff]
    exact ⟨decide_eq_false (by omega), decide_eq_false (by omega)⟩
  have d1' : (vz.toArray.isEmpty || j == 1) = false := by
    rw [Bool.or_eq_false_iff]
    exact ⟨some_, beq_eq_false_iff_ne.mpr (by omega)⟩
  have d2 : (decide (j ≤ 0) || vz.toArray.isEmpty) = false := by
    rw [Bool.or_eq_false_iff]
    exact ⟨decide_eq_false (by omega), some_⟩
  have d4 : Builtin.Tuple.tupleTooMany (((vz.toArray.size : Nat) : Int) * j) = false := by
    unfold Builtin.Tuple.tupleTooMany
    exact decide_eq_false (by rw [sizeLine_eq]; omega)
  have mul := tuple_mulW a vz.toArray n dz sz j tk d0 d1' d2 (by omega) d4 (by rw [size_rep, List.size_toArray]; exact fl)
  have call1 := int_rmul_tuple j tk a vz.toArray n dz sz
  refine wpAny_binaryOp_repeat_ref (T := "tuple") (U := "int")
    (by decide) ⟨_, at_, rfl⟩
    (fun s' => typeIs_int s' j tk) noFill_tuple_mul
    F.fills_int_mul F.slot_int_rmul
    repeat_tuple F.slot_int_index.lookup ?_
  refine call_meets F.slot_int_rmul (typeIs_int sh j tk)
    F.entry_int_rmul (F.args_int_rmul_2 _ _) call1 ⟨at_, rfl, ⟨_, at_, rfl⟩, ?_⟩
  refine call_meets F.slot_tuple_mul ⟨_, at_, rfl⟩
    F.entry_tuple_mul (F.args_tuple_mul_2 _ _) mul ⟨at_, ?_⟩
  rw [size_rep]
  exact ⟨.ref sh.heap.objs.size, _, laidP (tk := sh.toks) iz (fun _ _ q => Heap.get?_push_of_some _ q) (Nat.le_refl _) (Heap.get?_push_size _ rfl) (rv.rep j.toNat) (by rw [PyProof.Rows.lm_len_rep_flat, sizeLine_eq]; omega), rfl, qq _ _ (iz.hok.fresh (Nat.le_refl _)) rfl⟩
def oMul2 : D2 := fun x y S post => match x, y with
  | .tup xs, .int j => xs ≠ [] ∧ 2 ≤ j ∧ j ≤ 1000 ∧ xs.length ≤ 1000 ∧ post (.tup (List.replicate j.toNat xs).flatten) S
  | x, y => oMul x y S post
theorem op_mul2 {X : Cx} : OpR X (binaryOp .Mult) (fun x y H Q => rI CMul (fun i j => .int (i * j)) x y H Q ∨ rMulP X.K x y H Q) := OpR.or op_mul op_mulP
theorem RelDs.rep {K : PySem.W.Frag} {H : Hp} {A : List Addr} {ds : List D} {vs : List V} (r : RelDs K H A ds vs) : ∀ n : Nat, RelDs K H A (List.replicate n ds).flatten (List.replicate n vs).flatten
  | 0 => rfl
  | n + 1 => by
    rw [List.replicate_succ, List.replicate_succ, List.flatten_cons, List.flatten_cons]
    exact r.append (RelDs.rep r n)
theorem rul_mul2 {K : PySem.W.Frag} : Rul2 K oMul2 (fun x y H Q => rI CMul (fun i j => .int (i * j)) x y H Q ∨ rMulP K x y H Q) := by
  intro H A S d1 d2 v1 v2 post Q s r1 r2 h k
  by_cases c : ∃ xs j, d1 = .tup xs ∧ d2 = .int j
  · obtain ⟨xs, j, rfl, rfl⟩ := c
    obtain ⟨h0, h1, h2, h3, h4⟩ := h
    obtain ⟨a, vs, rfl, ht, hv⟩ := r1
    cases (show v2 = .int j from r2)
    refine .inr ⟨a, j, vs, rfl, rfl, ht.sq, fun e => h0 ?_, h1, h2, by rw [hv.len]; exact h3, fun p o hp ho => fin_tup s k hp ho (hv.rep _) h4⟩
    have := hv.len
    rw [e] at this
    exact List.eq_nil_of_length_eq_zero this.symm
  · have h' : oMul d1 d2 S post := by
      unfold oMul2 at h
      split at h
      · exact absurd ⟨_, _, rfl, rfl⟩ c
      · exact h
    exact .inl (rul_mul H A S d1 d2 v1 v2 post Q s r1 r2 h' k)
theorem go_mul2_int {i j : Int} {S : Store} {post : DK} : oMul2 (.int i) (.int j) S post ↔ CMul i j ∧ post (.int (i * j)) S := Iff.rfl
theorem go_mul2_tup {xs : List D} {j : Int} {S : Store} {post : DK} : oMul2 (.tup xs) (.int j) S post ↔ xs ≠ [] ∧ 2 ≤ j ∧ j ≤ 1000 ∧ xs.length ≤ 1000 ∧ post (.tup (List.replicate j.toNat xs).flatten) S := Iff.rfl
end DL
/-! ZY: {elt for target in iter if ..} of ints; how many such a set has. -/
namespace DL
open PySem PySem.Spec PyProof.Rows L2
variable [HasT]
/-- a finished set of n members, whatever they are -/
def NumO (a : Addr) (n : Nat) : HO := .ext fun h => ∃ o es ep t, h.get? a = some o ∧ o.ExactSet ∧ o.data = .set es ep t ∧ t.fits es.size = true ∧ es.size = n ∧ n < scanBound
theorem nmut_num {a : Addr} {n : Nat} : ¬ MutO (NumO a n) := by
  unfold NumO
  rintro ((⟨_, h⟩ | ⟨_, h⟩ | ⟨_, _, h⟩) | ⟨_, h⟩) <;> cases h
def numSet (n : Nat) : PySem.W.Frag → Hp → Addr → Prop := fun _ H a => H a = some (NumO a n)
theorem numSet_stab (n : Nat) (K : PySem.W.Frag) : StabP (numSet n K) := fun _ _ _ k h => k _ _ h nmut_num
/-- a set that grows: what it has is asked of S, how many of n -/
def tScI (wi : TI) (g : TG) (tt : TT) (te : TE) (vs : List Nat) : TE := fun σ H Q => wi σ H fun J H1 => ∀ D, H1 D = none → ∃ W : Nat → Nat → Hp → Prop, (∃ m, W 0 m (upd H1 D (.set (fun _ => false) 0))) ∧ ∀ i m H, W i m H →
  (J.stop i H ∧ ∃ S n, H D = some (.set S n) ∧ n < scanBound ∧ Q (.ref D) (upd H D (NumO D n))) ∨ (J.go i H ∧ ∃ Nx : Hp → Prop, (∀ H', Nx H' → ∃ m', m' < m ∧ W (i + 1) m' H') ∧ ∀ x H', J.yld i H x H' → g x (L2.wipe σ vs) H' fun σ2 H2 => L2.wipe σ2 vs = L2.wipe σ vs ∧ tt σ2 H2 fun b H3 =>
    if b = true then te σ2 H3 fun y H4 => ∃ (k : Int) (S : Int → Bool) (n : Nat), y = .int k ∧ H4 D = some (.set S n) ∧ n + 1 < scanBound ∧ Nx (upd H4 D (.set (fun j => S j || decide (j = k)) (if S k = true then n else n + 1))) else Nx H3)
section
variable {X : Cx}
theorem putI {pins : List (Addr × Obj)} {σ : L2.St} {H : Hp} {s : Shared} {E : Value → Shared → Prop} {D : Addr} {S : Int → Bool} {n : Nat} {k : Int} {y : Value} {Q : Value → Shared → Prop} (I : Inv X pins σ H s) (hD : H D = some (.set S n)) (room : n + 1 < scanBound) (ry : RelV (.int k) y)
    (h : ∀ s', Inv X pins σ (upd H D (.set (fun j => S j || decide (j = k)) (if S k = true then n else n + 1))) s' → Q .none s') : wpAny (model X.prog X.w) X.A (call (.builtin "set.add") [.ref D, y]) Q E s := by
  obtain ⟨tk, rfl⟩ := ry
  have R : s.heap.SetOf (intKind X.prog X.w) D S n := I.hok D _ hD
  refine call_set_add (intKind_is X.prog X.w k tk) rfl R room fun h' sb new => ?_
  have there : ∃ u, h'.get? D = some u := by
    have ⟨o, _, _, _, ho, _⟩ := new
    exact ⟨o, ho⟩
  exact h _ (I.write (e := D) (t' := s.toks + 1) (by rw [hD]; trivial) (.inl rfl) (fun b u hb hu => (sb.2 b hb).trans hu) there new)
theorem shutI {pins : List (Addr × Obj)} {σ : L2.St} {H : Hp} {s : Shared} {D : Addr} {S : Int → Bool} {n : Nat} (I : Inv X pins σ H s) (hD : H D = some (.set S n)) (hn : n < scanBound) : Inv X pins σ (upd H D (NumO D n)) s := by
  obtain ⟨o, es, ep, t, ho, hx, hd, _, _, _, hf, hs⟩ := (show s.heap.SetOf (intKind X.prog X.w) D S n from I.hok D _ hD)
  exact I.write (e := D) (h' := s.heap) (t' := s.toks) (by rw [hD]; trivial) (.inl rfl) (fun b u hb hu => hu) ⟨o, ho⟩ (show ObjOk X.prog X.w _ _ _ (.ext _) from ⟨⟨o, es, ep, t, ho, hx, hd, hf, hs, hn⟩, ⟨o, ho⟩, fun h1 h2 p q => let ⟨o, es, ep, t, g, r⟩ := p; ⟨o, es, ep, t, q o g, r⟩⟩)

/-- the comprehension, walked by what a turn is to reach -/
theorem pe_scI {elt tg iter : Expr} {ifs : List Expr} {scope : Scope} {own : List (Str × Nat)} {pos : Pos} {wi : TI} {g : TG} {tt : TT} {te : TE} (calm : X.calm = true) (uniq : X.N.Nodup) (walks : PI X tg iter wi) (blk : BlkOk X.N X.env.scope scope own)
    (goal : ∀ (s : Shared) (H : Hp) (C : Addr) (cl : List (Str × Addr)) (fp : List Addr), PG (X.blk s H scope (compEnvC scope cl C X.env) fp) tg g) (tests : ∀ (s : Shared) (H : Hp) (C : Addr) (cl : List (Str × Addr)) (fp : List Addr), PTs (X.blk s H scope (compEnvC scope cl C X.env) fp) ifs tt)
    (item : ∀ (s : Shared) (H : Hp) (C : Addr) (cl : List (Str × Addr)) (fp : List Addr), PE (X.blk s H scope (compEnvC scope cl C X.env) fp) elt te) (folds : ∀ x, foldedSetIterable iter X.env x = pure x := by intro _; rfl) :
    PE X (.SetComp elt [⟨tg, iter, ifs, 0⟩] scope pos) (tScI wi g tt te (own.map (·.2))) := by
  refine ⟨fun pins s σ H Q I h => ?_⟩
  rw [PpSet.eval_SetComp]
  have cells : ∀ y ∈ scope.names, y.2 = .free → ∃ c, X.env.cells.lookup y.1 = some c := fun y hy e => (blk.free y hy e).elim (fun k => I.ok.has _ (.inl k)) fun k => I.ok.has _ (.inr k)
  refine wpAny_comprehension_free (use := none) rfl folds (closure_ok cells) blk.kind (fun y hy e => by rw [blk.uniq y hy, e]) (thn (walks.run pins s σ H _ I h) fun _ s1 hx => thn hx fun _ s2 h2 => ?_)
  obtain ⟨it, fp, tn, J, H2, rfl, I2, T, st2, f2, q⟩ := h2
  refine PpSet.newSet_ok (newEnv_comp ?_)
  -- the new set at D, the block's names at C
  obtain ⟨D, hD⟩ : ∃ D, D = s2.heap.objs.size := ⟨_, rfl⟩
  obtain ⟨Z, hZ⟩ : ∃ Z : Shared, Z = { s2 with heap := s2.heap.push { cls := .type "set", dict := none, data := .set #[] 0 (.fresh 0 0 (!X.w.params.followText "set-order")) } } := ⟨_, rfl⟩
  obtain ⟨HD, hHD⟩ : ∃ HD, HD = upd H2 D (.set (fun _ => false) 0) := ⟨_, rfl⟩
  rw [← hD, ← hZ]
  have noD : H2 D = none := I2.hok.fresh (Nat.le_of_eq hD.symm)
  obtain ⟨W, ⟨m0, w0⟩, turn⟩ := q D noD
  rw [← hHD] at w0
  have zh : Z.heap = s2.heap.push { cls := .type "set", dict := none, data := .set #[] 0 (.fresh 0 0 (!X.w.params.followText "set-order")) } := by rw [hZ]
  have new : Z.heap.SetOf (intKind X.prog X.w) D (fun _ => false) 0 := by
    rw [zh, hD]
    exact (setR_fresh X.w).setOf
  have IZ : Inv X pins σ HD Z := by
    rw [hHD]
    have z := I2.laid (t' := s2.toks) (a := D) (o := .set (fun _ => false) 0) (h' := Z.heap) (fun b o e => by rw [zh]; exact Heap.get?_push_of_some _ e) (Nat.le_of_eq hD.symm) new
    have ez : ({ s2 with heap := Z.heap, toks := s2.toks } : Shared) = Z := by rw [hZ]
    rw [ez] at z
    exact z
  have under : ∀ b ∈ fp, b < s2.heap.objs.size := fun b hb => let ⟨_, e, _⟩ := T.obj _ _ st2 b hb; Heap.lt_size e
  have fZ : ∀ b ∈ fp, FpOk X pins HD b ∧ b < Z.heap.objs.size := fun b hb => ⟨⟨by rw [hHD, upd_ne (by rw [hD]; exact Nat.ne_of_lt (under b hb))]; exact (f2 b hb).1, (f2 b hb).2⟩, by rw [zh, Heap.size_push]; exact Nat.lt_succ_of_lt (under b hb)⟩
  have stZ : tn 0 Z.heap := T.keep _ _ _ st2 fun b _ o e => by rw [zh]; exact Heap.get?_push_of_some _ e
  have IB := block_start IZ blk uniq fZ
  have free0 : ∀ b ∈ fp, HD b = none := fun b hb => (fZ b hb).1.1
  obtain ⟨C, hC⟩ : ∃ C, C = Z.heap.objs.size := ⟨_, rfl⟩
  obtain ⟨ce, hce⟩ : ∃ ce, ce = compEnvC scope (cellsFrom (Z.heap.objs.size + 1) scope.names (cloFrom X.env.cells scope.names [])) Z.heap.objs.size X.env := ⟨_, rfl⟩
  have pg := goal Z HD Z.heap.objs.size (cellsFrom (Z.heap.objs.size + 1) scope.names (cloFrom X.env.cells scope.names [])) fp
  have pt := tests Z HD Z.heap.objs.size (cellsFrom (Z.heap.objs.size + 1) scope.names (cloFrom X.env.cells scope.names [])) fp
  have pe := item Z HD Z.heap.objs.size (cellsFrom (Z.heap.objs.size + 1) scope.names (cloFrom X.env.cells scope.names [])) fp
  rw [← hce] at pg pt pe IB
  obtain ⟨B, hB⟩ : ∃ B : Shared, B = { Z with heap := pushCells (Z.heap.push { cls := .type "dict", data := .dict #[] }) scope.names } := ⟨_, rfl⟩
  show codeAny _ _ (.compStart (.SetComp elt [⟨tg, iter, ifs, 0⟩] scope pos) 0 (.ref it) (.ref D) (compEnvC scope (cellsFrom (Z.heap.objs.size + 1) scope.names (cloFrom X.env.cells scope.names [])) Z.heap.objs.size X.env)) (compPost (model X.prog X.w) X.A X.xe none (EP X pins σ Q) (.ref D) Z.heap.objs.size) { Z with heap := pushCells (Z.heap.push { cls := .type "dict", data := .dict #[] }) scope.names }
  rw [← hce, ← hB]
  rw [← hB] at IB
  have at_ : ce.locals = Z.heap.objs.size := by subst hce; rfl
  have stB : tn 0 B.heap := T.keep _ _ _ stZ fun b _ o e => by rw [hB]; exact pushCells_keeps _ _ _ _ (Heap.get?_push_of_some _ e)
  have still : ∀ {σ' : L2.St} {H' : Hp} {s' : Shared}, Inv (X.blk Z HD scope ce fp) [] σ' H' s' → (∀ b ∈ fp, H' b = none) → ∀ b ∈ fp, FpOk (X.blk Z HD scope ce fp) [] H' b := fun {_ _ _} I' hn b hb =>
    ⟨hn b hb, (I'.ok.exf b hb).1, I'.ok.exfs b hb, .inl hb, fun x c e => (I'.ok.exf b hb).2 x c e, fun p hp => absurd (show p ∈ ([] : List (Addr × Obj)) ++ [] from hp) (by simp)⟩
  have loop : codeAny (model X.prog X.w) X.A (.compLoop (.SetComp elt [⟨tg, iter, ifs, 0⟩] scope pos) 0 (.ref it) (.ref D) ce) (compPost (model X.prog X.w) X.A X.xe none (EP X pins σ Q) (.ref D) Z.heap.objs.size) B := by
    refine PpSet.compLoopS_any (fun m s' => ∃ i H', Inv (X.blk Z HD scope ce fp) [] (L2.wipe σ (own.map (·.2))) H' s' ∧ tn i s'.heap ∧ (∀ b ∈ fp, H' b = none) ∧ W i m H') ?_ m0 ⟨0, HD, IB, stB, free0, w0⟩
    rintro m s5 ⟨i, H5, I5, st5, n5, w5⟩
    rcases turn i m H5 w5 with ⟨stop, S, n, hS, hn, qq⟩ | ⟨go, Nx, hNx, step⟩
    · refine thnF (T.done (X.blk Z HD scope ce fp) rfl rfl rfl calm i [] s5 _ H5 (fun _ _ => False) I5 (still I5 n5) st5 stop) fun r s6 ⟨hr, I6⟩ => ?_
      subst hr
      have out : Inv X pins σ H5 s6 := IZ.call' (ch := fp) I6.os I6.base I6.hok I6.bare fun b hb => ⟨(fZ b hb).1.2.2.2.1, (fZ b hb).1.2.1, (fZ b hb).1.2.2.2.2.1, (fZ b hb).1.2.2.2.2.2⟩
      have shut := shutI out hS hn
      have noC : upd H5 D (NumO D n) Z.heap.objs.size = none := by
        have ne : Z.heap.objs.size ≠ D := by rw [zh, Heap.size_push, hD]; exact Nat.succ_ne_self _
        rw [upd_ne ne]
        have z : H5 ce.locals = none := I6.free
        rw [at_] at z
        exact z
      obtain ⟨k, hk, _⟩ := I6.loc
      have hk : s6.heap.Ns ce.locals k := hk
      rw [at_] at hk
      obtain ⟨f0, f1, f2, f3, f4, f5⟩ := IZ.fpOk (Nat.le_refl _) noC
      exact ⟨k, hk, fun h'' sb => ⟨.ref D, _, shut.turned (t' := s6.toks) (fun b o hb e => (sb.2 b hb).trans e) f0 f1 f3 f4 f5, rfl, qq⟩⟩
    · refine thnF (T.item (X.blk Z HD scope ce fp) rfl rfl rfl calm i [] s5 _ H5 (fun _ _ => False) I5 (still I5 n5) st5 go) fun r s6 ⟨u, hr, h6⟩ => ?_
      subst hr
      refine thnF h6 fun _ s7 ⟨x, H7, I7, r7, y7, st7, n7⟩ => ?_
      refine thnF (pg.run _ s7 _ H7 x u _ (I7.pinned (still I7 n7) (T.obj _ _ st7)) r7 (step x H7 y7)) fun _ s8 ⟨σ8, H8, I8, hw8, q8⟩ => ?_
      refine thnF (pt.run _ s8 σ8 H8 _ I8 q8) fun b s9 ⟨H9, I9, q9⟩ => ?_
      have again : ∀ {s' : Shared} {H' : Hp}, Inv (X.blk Z HD scope ce fp) ([] ++ pinsAt fp s7.heap) σ8 H' s' → Nx H' → ∃ k, k < m ∧ ∃ i H', Inv (X.blk Z HD scope ce fp) [] (L2.wipe σ (own.map (·.2))) H' s' ∧ tn i s'.heap ∧ (∀ b ∈ fp, H' b = none) ∧ W i k H' := fun {s' H'} I' nx => by
        obtain ⟨k, hk, w'⟩ := hNx H' nx
        have keep : ∀ b ∈ fp, ∀ o, s7.heap.get? b = some o → s'.heap.get? b = some o ∧ H' b = none := fun b hb o e =>
          let z := I'.pin (b, o) (List.mem_append_right _ (List.mem_append_right _ (mem_pinsAt hb e)))
          ⟨z.1, z.2.1⟩
        refine ⟨k, hk, i + 1, H', (I'.unpinned (pins := [])).weak (by rw [← hw8, wipe_length]) (fun j v e => ?_), T.keep _ _ _ st7 fun b hb o e => (keep b hb o e).1, fun b hb => let ⟨o, e, _⟩ := T.obj _ _ st7 b hb; (keep b hb o e).2, w'⟩
        rw [← hw8] at e
        exact (wipe_some e).1
      cases b with
      | false => exact again I9 q9
      | true => exact thnF (pe.run _ s9 σ8 H9 _ I9 q9) fun z s10 ⟨_, H10, I10, r10, k, S, n, ey, hS, hn, nx⟩ => putI (X := X.blk Z HD scope ce fp) I10 hS hn (ey ▸ r10) fun s11 I11 => again I11 nx
  exact PpSet.codeAny_compStart_set loop (T.self X.A 0 _ _ _ stB loop)
end

/-! ### how many unlike ones -/
def unlikeF (s : List Int) : List Int → List Int
  | [] => s
  | k :: l => unlikeF (if k ∈ s then s else s ++ [k]) l
theorem unlikeF_snoc : ∀ (l s : List Int) (k : Int), unlikeF s (l ++ [k]) = if k ∈ unlikeF s l then unlikeF s l else unlikeF s l ++ [k]
  | [], s, k => rfl
  | x :: l, s, k => unlikeF_snoc l _ k
theorem mem_unlikeF : ∀ (l s : List Int) (x : Int), x ∈ unlikeF s l ↔ x ∈ s ∨ x ∈ l
  | [], s, x => by simp [unlikeF]
  | k :: l, s, x => by
    rw [unlikeF, mem_unlikeF l]
    by_cases h : k ∈ s
    · rw [if_pos h, List.mem_cons]
      exact ⟨fun z => z.imp id .inr, fun z => z.elim .inl fun z => z.elim (fun e => .inl (e ▸ h)) .inr⟩
    · rw [if_neg h, List.mem_append, List.mem_singleton, List.mem_cons, or_assoc]
theorem unlikeF_len : ∀ (l s : List Int), (unlikeF s l).length ≤ s.length + l.length
  | [], s => Nat.le_refl _
  | k :: l, s => by
    have := unlikeF_len l (if k ∈ s then s else s ++ [k])
    rw [unlikeF, List.length_cons]
    split at this
    · rw [if_pos (by assumption)]
      omega
    · rw [if_neg (by assumption)]
      rw [List.length_append, List.length_singleton] at this
      omega
theorem unlikeF_all : ∀ (l s : List Int), (unlikeF s l).length = s.length + l.length ↔ l.Nodup ∧ ∀ x ∈ l, x ∉ s
  | [], s => by simp [unlikeF]
  | k :: l, s => by
    rw [unlikeF, List.length_cons, List.nodup_cons]
    by_cases h : k ∈ s
    · rw [if_pos h]
      have := unlikeF_len l s
      exact ⟨fun e => absurd e (by omega), fun e => absurd h (e.2 k List.mem_cons_self)⟩
    · rw [if_neg h]
      have ih := unlikeF_all l (s ++ [k])
      rw [List.length_append, List.length_singleton] at ih
      rw [show s.length + (l.length + 1) = s.length + 1 + l.length by omega, ih]
      constructor
      · rintro ⟨h1, h2⟩
        refine ⟨⟨fun hk => h2 k hk (by simp), h1⟩, fun x hx hs => ?_⟩
        rcases List.mem_cons.mp hx with rfl | hx
        · exact h hs
        · exact h2 x hx (by simp [hs])
      · rintro ⟨⟨h1, h2⟩, h3⟩
        refine ⟨h2, fun x hx hs => ?_⟩
        rcases List.mem_append.mp hs with hs | hs
        · exact h3 x (List.mem_cons_of_mem _ hx) hs
        · rw [List.mem_singleton.mp hs] at hx
          exact h1 hx
/-- how many unlike ones -/
def unlike (l : List Int) : Nat := (unlikeF [] l).length
theorem unlike_all {l : List Int} : unlike l = l.length ↔ l.Nodup := by
  have := unlikeF_all l []
  unfold unlike
  simpa using this
theorem unlike_snoc (l : List Int) (k : Int) : unlike (l ++ [k]) = if k ∈ l then unlike l else unlike l + 1 := by
  unfold unlike
  rw [unlikeF_snoc]
  have : k ∈ unlikeF [] l ↔ k ∈ l := by rw [mem_unlikeF]; simp
  by_cases h : k ∈ l
  · rw [if_pos (this.mpr h), if_pos h]
  · rw [if_neg (fun z => h (this.mp z)), if_neg h, List.length_append, List.length_singleton]
theorem unlike_le (l : List Int) : unlike l ≤ l.length := by
  have := unlikeF_len l []
  simpa [unlike] using this
def growS (l : List Int) : Int → Bool := fun j => decide (j ∈ l)
theorem grow_snoc (l : List Int) (k : Int) : (fun j => growS l j || decide (j = k)) = growS (l ++ [k]) := by
  funext j
  unfold growS
  by_cases h1 : j ∈ l <;> by_cases h2 : j = k <;> simp [h1, h2]

/-! ### over data -/
def dScI (w : DIt) (g : DG) (tt : DT) (te : DE) (vs : List Nat) : DE := fun ρ S post => w ρ S fun xs C S1 => ∃ I : Nat → List Int → Store → Prop, I 0 [] S1 ∧ (∀ i acc S, i ≤ xs.length → I i acc S → C S) ∧
  (∀ (i : Nat) (d : D) (acc : List Int) (S : Store), xs[i]? = some d → I i acc S → g d (wipeD ρ vs) S fun ρ2 S2 => tt ρ2 S2 fun b S3 => if b = true then te ρ2 S3 fun y S4 => ∃ k : Int, y = .int k ∧ acc.length ≤ 1000 ∧ I (i + 1) (acc ++ [k]) S4 else I (i + 1) acc S3) ∧
  ∀ acc S, I xs.length acc S → acc.length ≤ 1001 ∧ post (.opq (numSet (unlike acc))) S
theorem lift_scI {K : PySem.W.Frag} {w : DIt} {g : DG} {tt : DT} {te : DE} {vs ws : List Nat} (hws : ∀ i ∈ ws, i ∈ vs) {σ : L2.St} {H : Hp} {Q : VK} : liftE K (dScI w g tt te vs) σ H Q → tScI (liftI K w) (liftW K ws g) (liftT K tt) (liftE K te) vs σ H Q := by
  rintro ⟨A, ρ, S, post, n, s, h, k⟩
  refine ⟨A, ρ, S, _, n, s, h, fun J H' A' xs C S' e s' ok ⟨I, i0, iC, step, done⟩ => ?_⟩
  intro Dl hDl
  refine ⟨fun i m H2 => m = xs.length - i ∧ i ≤ xs.length ∧ ∃ A2 S2 acc, Ext H' A' H2 A2 ∧ RelS K H2 A2 S2 ∧ Dl ∉ A2 ∧ H2 Dl = some (.set (growS acc) (unlike acc)) ∧ I i acc S2, ⟨xs.length, by simp, Nat.zero_le _, A', S', [], Ext.same (same_upd hDl), s'.same (same_upd hDl), s'.notin hDl, upd_same, i0⟩, ?_⟩
  rintro i m H2 ⟨rfl, hi, A2, S2, acc, e2, s2, hn2, hd2, p2⟩
  obtain ⟨st, go⟩ := ok H2 A2 S2 e2 s2 (iC i acc S2 hi p2)
  by_cases hlt : i < xs.length
  · have hx : xs[i]? = some xs[i] := List.getElem?_eq_getElem hlt
    obtain ⟨g1, g2⟩ := go i _ hx
    refine .inr ⟨g1, fun H3 => ∃ A3 S3 acc3, Ext H' A' H3 A3 ∧ RelS K H3 A3 S3 ∧ Dl ∉ A3 ∧ H3 Dl = some (.set (growS acc3) (unlike acc3)) ∧ I (i + 1) acc3 S3, fun H3 ⟨A3, S3, acc3, q⟩ => ⟨xs.length - (i + 1), by omega, rfl, hlt, A3, S3, acc3, q⟩, fun x H3 hy => ?_⟩
    obtain ⟨same, rx⟩ := g2 x H3 hy
    have e3 : Ext H2 A2 H3 A2 := Ext.same same
    have n3 : RelN K H3 A2 (wipeD ρ vs) (L2.wipe σ vs) := ((n.ext e).ext e2).ext e3 |>.wipe vs
    refine ⟨A2, wipeD ρ vs, S2, xs[i], _, n3, s2.same same, rx, step i _ acc S2 hx p2, fun σ4 H4 A4 ρ4 S4 e4 n4 s4 hw p4 => ?_⟩
    have hww : L2.wipe σ4 vs = L2.wipe σ vs := by
      rw [hw vs hws]
      have idem : ∀ (us : List Nat) (τ : L2.St), (∀ i ∈ us, i ∈ vs) → L2.wipe (L2.wipe τ us) vs = L2.wipe τ vs := by
        intro us
        induction us with
        | nil => intro τ _; rfl
        | cons u us ih =>
          intro τ hu
          show L2.wipe ((L2.wipe τ us).set u none) vs = _
          rw [wipe_set _ u none vs (hu u List.mem_cons_self)]
          exact ih τ fun i hi => hu i (List.mem_cons_of_mem _ hi)
      exact idem vs σ fun _ h => h
    refine ⟨hww, A4, ρ4, S4, _, n4, s4, p4, fun b H5 A5 S5 e5 s5 p5 => ?_⟩
    have stay : ∀ {H6 : Hp} {A6 : List Addr}, Ext H2 A2 H6 A6 → H6 Dl = some (.set (growS acc) (unlike acc)) ∧ Dl ∉ A6 := fun {H6 A6} e6 => by
      refine ⟨?_, fun hm => ?_⟩
      · rcases e6.keep _ _ hd2 with q | ⟨q, _⟩ | ⟨_, q⟩
        · exact q
        · exact absurd q hn2
        · cases q
      · obtain ⟨B, rfl, f⟩ := e6.pre
        rcases List.mem_append.mp hm with hm | hm
        · exact hn2 hm
        · obtain ⟨_, q⟩ := f _ hm _ hd2
          cases q
    cases b with
    | true =>
      refine ⟨A5, ρ4, S5, _, n4.ext e5, s5, p5, fun y H6 A6 d6 S6 e6 s6 r6 ⟨k, ek, hl, p6⟩ => ?_⟩
      subst ek
      have e26 : Ext H2 A2 H6 A6 := ((e3.trans e4).trans e5).trans e6
      obtain ⟨q1, q2⟩ := stay e26
      have mu : LdO (.set (growS acc) (unlike acc)) := .inr (.inr ⟨_, _, rfl⟩)
      have ex : Ext H' A' H6 A6 := e2.trans e26
      have le := unlike_le acc
      refine ⟨k, growS acc, unlike acc, r6, q1, by show _ < 4096; omega, A6, S6, acc ++ [k], ex.out hDl, s6.out q2 q1 mu, q2, ?_, p6⟩
      rw [upd_same, grow_snoc, unlike_snoc]
      unfold growS
      simp only [decide_eq_true_eq]
    | false =>
      have e25 : Ext H2 A2 H5 A5 := (e3.trans e4).trans e5
      obtain ⟨q1, q2⟩ := stay e25
      exact ⟨A5, S5, acc, e2.trans e25, s5, q2, q1, p5⟩
  · have ei : i = xs.length := by omega
    subst ei
    obtain ⟨small, p3⟩ := done acc S2 p2
    have le := unlike_le acc
    refine .inl ⟨st, _, _, hd2, by show _ < 4096; omega, ?_⟩
    have ex := e.trans e2
    have mu : LdO (.set (growS acc) (unlike acc)) := .inr (.inr ⟨_, _, rfl⟩)
    exact k (.ref Dl) _ A2 (.opq (numSet (unlike acc))) S2 (e.trans (e2.out hDl)) (s2.out hn2 hd2 mu) ⟨Dl, rfl, upd_same, numSet_stab _ K⟩ p3
section
variable {X : Cx} {pos : Pos}
theorem de_scI {elt tg iter : Expr} {ifs : List Expr} {scope : Scope} {own : List (Str × Nat)} {w : DIt} {g : DG} {tt : DT} {te : DE} {ws : List Nat} (hws : ∀ i ∈ ws, i ∈ own.map (·.2)) (hc : X.calm = true) (hN : X.N.Nodup) (hi : PI X tg iter (liftI X.K w)) (ok : BlkOk X.N X.env.scope scope own)
    (hg : ∀ (s : Shared) (H : Hp) (C : Addr) (cl : List (Str × Addr)) (fp : List Addr), PG (X.blk s H scope (compEnvC scope cl C X.env) fp) tg (liftW X.K ws g)) (ht : ∀ (s : Shared) (H : Hp) (C : Addr) (cl : List (Str × Addr)) (fp : List Addr), PTs (X.blk s H scope (compEnvC scope cl C X.env) fp) ifs (liftT X.K tt))
    (he : ∀ (s : Shared) (H : Hp) (C : Addr) (cl : List (Str × Addr)) (fp : List Addr), PE (X.blk s H scope (compEnvC scope cl C X.env) fp) elt (liftE X.K te)) (hs : ∀ x, foldedSetIterable iter X.env x = pure x := by intro _; rfl) :
    PE X (.SetComp elt [⟨tg, iter, ifs, 0⟩] scope pos) (liftE X.K (dScI w g tt te (own.map (·.2)))) :=
  pe_mono (pe_scI hc hN hi ok hg ht he hs) fun _ _ _ => lift_scI hws
end
/-! ### len of it -/
def cLenS : DC := fun ds S post => ∃ n : Nat, ds = [.opq (numSet n)] ∧ post (.int n) S
def rLenS : List V → Hp → VK → Prop := fun xs H Q => ∃ (a : Addr) (n : Nat), xs = [.ref a] ∧ H a = some (NumO a n) ∧ Q (.int n) H
theorem call_lenSet {X : Cx} : CallR X (.builtin "len") rLenS := by
  intro pins s σ H xs us Q I r ⟨a, n, ex, ha, q⟩
  subst ex
  obtain ⟨u, rfl, ru⟩ := vals1 r
  obtain rfl : u = Value.ref a := ru
  obtain ⟨⟨o, es, ep, t, ho, hx, hd, hf, hn, hb⟩, _⟩ := (show ObjOk X.prog X.w H s.heap a (.ext _) from I.hok a _ ha)
  have hb' : n < 4096 := hb
  exact call_len_set ho hx hd hf (by rw [hn]; omega) ⟨.int n, H, I.tok _, ⟨_, by rw [hn]⟩, q⟩
theorem rul_lenS {K : PySem.W.Frag} : RulC K cLenS rLenS := by
  intro H A S ds vs post Q s r ⟨n, e, h⟩ k
  subst e
  obtain ⟨v, rfl, rv⟩ := rels1 r
  obtain ⟨a, rfl, ha, _⟩ := rv
  exact ⟨a, n, rfl, ha, k.now (d := .int n) s rfl h⟩
theorem go_lenS {n : Nat} {S : Store} {post : DK} (h : post (.int n) S) : cLenS [.opq (numSet n)] S post := ⟨n, rfl, h⟩
end DL
/-! ZZ: a tuple times 1; == of tuples that hold lists. -/
namespace DL
open PySem PySem.Spec PyProof.Rows L2
variable [HasT]
theorem mul_one_same (l : Addr) (items : Array Value) (n : Nat) (dd : Option Addr) (sl : Array (Option Value)) (u : Tok) :
    Meets (Builtin.«tuple.__mul__» ⟨[.ref l, .int 1 u], []⟩) (fun _ R s => s.heap.get? l = some { cls := .type "tuple", dict := dd, data := .seq items n, slots := sl } ∧ R (.ok (.ret (Value.ref l))) s) :=
  .of_wp fun prog w A R s h => by
    obtain ⟨hp, g, d, tk, os⟩ := s
    obtain ⟨hl, h⟩ := h
    have f1 := AutoSeq1.idx_int
    have c1 : (items.isEmpty || (1 : Int) == 1) = true := by simp
    wp_walk using wpAny_loadPart' hl
    repeat (first
      | (refine wpAny_ite_false (decide_eq_false (by decide)) ?_; wp_walk using wpAny_loadPart' hl)
      | (refine wpAny_ite_true (decide_eq_true c1) ?_; wp_walk using wpAny_loadPart' hl))
    exact ⟨_, rfl, h⟩
def rMul1 (K : PySem.W.Frag) : R2 := fun x y H Q => ∃ (a : Addr) (zs : List V), x = .ref a ∧ y = .int 1 ∧ SqT K H a zs ∧ Q (.ref a) H
theorem op_mul1 {X : Cx} : OpR X (binaryOp .Mult) (rMul1 X.K) := by
  intro pz sh τ HH x y vx ux QQ iz r1 r2 hh
  obtain ⟨a, zs, rfl, rfl, hT, qq⟩ := hh
  cases r1
  obtain ⟨tk, rfl⟩ := r2
  obtain ⟨vz, rv, ⟨⟨cz, dz, dat, sz⟩, at_, c1, n, d1⟩, big⟩ := iz.tuple hT
  simp only at c1 d1
  subst c1 d1
  have mul := mul_one_same a vz.toArray n dz sz tk
  have call1 := int_rmul_tuple 1 tk a vz.toArray n dz sz
  refine wpAny_binaryOp_repeat_ref (T := "tuple") (U := "int")
    (by decide) ⟨_, at_, rfl⟩
    (fun s' => typeIs_int s' 1 tk) noFill_tuple_mul
    F.fills_int_mul F.slot_int_rmul
    repeat_tuple F.slot_int_index.lookup ?_
  refine call_meets F.slot_int_rmul (typeIs_int sh 1 tk)
    F.entry_int_rmul (F.args_int_rmul_2 _ _) call1 ⟨at_, rfl, ⟨_, at_, rfl⟩, ?_⟩
  refine call_meets F.slot_tuple_mul ⟨_, at_, rfl⟩
    F.entry_tuple_mul (F.args_tuple_mul_2 _ _) mul ⟨at_, ?_⟩
  exact ⟨.ref a, HH, iz, rfl, qq⟩
def oMul3 : D2 := fun x y S post => match x, y with
  | .tup xs, .int j => xs ≠ [] ∧ 1 ≤ j ∧ j ≤ 1000 ∧ xs.length ≤ 1000 ∧ post (.tup (List.replicate j.toNat xs).flatten) S
  | x, y => oMul x y S post
theorem op_mul3 {X : Cx} : OpR X (binaryOp .Mult) (fun x y H Q => (rI CMul (fun i j => .int (i * j)) x y H Q ∨ rMulP X.K x y H Q) ∨ rMul1 X.K x y H Q) := OpR.or op_mul2 op_mul1
theorem rul_mul3 {K : PySem.W.Frag} : Rul2 K oMul3 (fun x y H Q => (rI CMul (fun i j => .int (i * j)) x y H Q ∨ rMulP K x y H Q) ∨ rMul1 K x y H Q) := by
  intro H A S d1 d2 v1 v2 post Q s r1 r2 h k
  by_cases c : ∃ xs j, d1 = .tup xs ∧ d2 = .int j
  · obtain ⟨xs, j, rfl, rfl⟩ := c
    obtain ⟨h0, h1, h2, h3, h4⟩ := h
    by_cases e : j = 1
    · subst e
      obtain ⟨a, vs, rfl, ht, hv⟩ := r1
      cases (show v2 = .int 1 from r2)
      refine .inr ⟨a, vs, rfl, rfl, ht.sq, ?_⟩
      have ex : (List.replicate (1 : Int).toNat xs).flatten = xs := by simp
      rw [ex] at h4
      exact k.now (d := .tup xs) s ⟨a, vs, rfl, ht, hv⟩ h4
    · exact .inl (rul_mul2 H A S (.tup xs) (.int j) v1 v2 post Q s r1 r2 (show oMul2 _ _ S post from ⟨h0, by omega, h2, h3, h4⟩) k)
  · have h' : oMul2 d1 d2 S post := by
      unfold oMul2
      split
      · exact absurd ⟨_, _, rfl, rfl⟩ c
      · unfold oMul3 at h
        split at h
        · exact absurd ⟨_, _, rfl, rfl⟩ c
        · exact h
    exact .inl (rul_mul2 H A S d1 d2 v1 v2 post Q s r1 r2 h' k)
theorem go_mul3_int {i j : Int} {S : Store} {post : DK} : oMul3 (.int i) (.int j) S post ↔ CMul i j ∧ post (.int (i * j)) S := Iff.rfl
theorem go_mul3_tup {xs : List D} {j : Int} {S : Store} {post : DK} : oMul3 (.tup xs) (.int j) S post ↔ xs ≠ [] ∧ 1 ≤ j ∧ j ≤ 1000 ∧ xs.length ≤ 1000 ∧ post (.tup (List.replicate j.toNat xs).flatten) S := Iff.rfl

/-! ### == of tuples whose parts are plain or lists of plain things -/
def datasOf (S : Store) : List D → List PyData → Prop
  | [], ps => ps = []
  | d :: ds, ps => ∃ p qs, ps = p :: qs ∧ dataOf S d p ∧ datasOf S ds qs
def dataT (S : Store) (x : D) (p : PyData) : Prop := dataOf S x p ∨ ∃ ds ps, x = .tup ds ∧ p = .tuple ps ∧ datasOf S ds ps
theorem datasOf.rel {K : PySem.W.Frag} {H : Hp} {A : List Addr} {S : Store} (s : RelS K H A S) : ∀ {ds : List D} {ps : List PyData} {vs : List V}, datasOf S ds ps → RelDs K H A ds vs → DpAll K H vs ps
  | [], ps, vs, q, r => by
    rw [show ps = [] from q, show vs = [] from r]
    exact .nil
  | d :: ds, ps, vs, ⟨p, qs, e1, h1, h2⟩, ⟨v, us, e2, r1, r2⟩ => by
    rw [e1, e2]
    exact .cons (h1.rel s r1) (datasOf.rel s h2 r2)
theorem dataT.rel {K : PySem.W.Frag} {H : Hp} {A : List Addr} {S : Store} {x : D} {p : PyData} {v : V} (s : RelS K H A S) (q : dataT S x p) (r : RelD K H A x v) : Dp K H v p := by
  rcases q with q | ⟨ds, ps, rfl, rfl, h⟩
  · exact q.rel s r
  · obtain ⟨a, vs, rfl, h1, h2⟩ := r
    exact .tup h1.sq (h.rel s h2)
def oEqT (neg : Bool) : D2 := fun x y S post => match x, y with
  | .int i, .int j => post (.bl (neg ^^ decide (i = j))) S
  | .str i, .str j => post (.bl (neg ^^ decide (i = j))) S
  | .bl i, .bl j => post (.bl (neg ^^ decide (i = j))) S
  | x, y => ∃ p q, dataT S x p ∧ dataT S y q ∧ SeqAt.shaped p = true ∧ SeqAt.shaped q = true ∧ post (.bl (neg ^^ PyData.eqv p q)) S
theorem rul_eqT {K : PySem.W.Frag} : Rul2 K (oEqT false) (rEq2 K) := by
  intro H A S d1 d2 v1 v2 post Q s r1 r2 h k
  unfold oEqT at h
  split at h
  · exact rul_eq H A S _ _ v1 v2 post Q s r1 r2 h k
  · exact rul_eq H A S _ _ v1 v2 post Q s r1 r2 h k
  · exact rul_eq H A S _ _ v1 v2 post Q s r1 r2 h k
  · obtain ⟨p, q, h1, h2, g1, g2, hp⟩ := h
    exact .inr ⟨p, q, h1.rel s r1, h2.rel s r2, g1, g2, fin_bool s k hp (by simp)⟩
theorem rul_neT {K : PySem.W.Frag} : Rul2 K (oEqT true) (rNe2 K) := by
  intro H A S d1 d2 v1 v2 post Q s r1 r2 h k
  unfold oEqT at h
  split at h
  · exact rul_ne H A S _ _ v1 v2 post Q s r1 r2 h k
  · exact rul_ne H A S _ _ v1 v2 post Q s r1 r2 h k
  · exact rul_ne H A S _ _ v1 v2 post Q s r1 r2 h k
  · obtain ⟨p, q, h1, h2, g1, g2, hp⟩ := h
    exact .inr ⟨p, q, h1.rel s r1, h2.rel s r2, g1, g2, fin_bool s k hp (by simp)⟩
end DL
namespace DL
open PySem PySem.Spec PyProof.Rows L2
variable [HasT]
def scK (g : DG) (tt : DT) (te : DE) (vs : List Nat) (ρ : DEnv) (post : DK) (xs : List D) (C : Store → Prop) (S1 : Store) : Prop := ∃ I : Nat → List Int → Store → Prop, I 0 [] S1 ∧ (∀ i acc S, i ≤ xs.length → I i acc S → C S) ∧
  (∀ (i : Nat) (d : D) (acc : List Int) (S : Store), xs[i]? = some d → I i acc S → g d (wipeD ρ vs) S fun ρ2 S2 => tt ρ2 S2 fun b S3 => if b = true then te ρ2 S3 fun y S4 => ∃ k : Int, y = .int k ∧ acc.length ≤ 1000 ∧ I (i + 1) (acc ++ [k]) S4 else I (i + 1) acc S3) ∧
  ∀ acc S, I xs.length acc S → acc.length ≤ 1001 ∧ post (.opq (numSet (unlike acc))) S
theorem go_sc {w : DIt} {g : DG} {tt : DT} {te : DE} {vs : List Nat} {ρ : DEnv} {S : Store} {post : DK} : dScI w g tt te vs ρ S post = w ρ S (scK g tt te vs ρ post) := rfl
theorem sc_map {g : DG} {tt : DT} {te : DE} {vs : List Nat} {ρ : DEnv} {post : DK} {C : Store → Prop} {S1 : Store} {xs : List D} (v : D → Int) (hC : C S1) (hl : xs.length ≤ 1000)
    (step : ∀ (a : D) (acc : List Int) (J : List Int → Store → Prop), a ∈ xs → acc.length ≤ 1000 → J (acc ++ [v a]) S1 →
      g a (wipeD ρ vs) S1 fun ρ2 S2 => tt ρ2 S2 fun b S3 => if b = true then te ρ2 S3 fun y S4 => ∃ k : Int, y = .int k ∧ acc.length ≤ 1000 ∧ J (acc ++ [k]) S4 else J acc S3)
    (fin : post (.opq (numSet (unlike (xs.map v)))) S1) : scK g tt te vs ρ post xs C S1 := by
  refine ⟨fun i acc S => S = S1 ∧ acc = (xs.take i).map v, ⟨rfl, rfl⟩, fun i acc S _ h => by rw [h.1]; exact hC, fun i d acc S hd h => ?_, fun acc S h => ?_⟩
  · obtain ⟨rfl, rfl⟩ := h
    have lt := (List.getElem?_eq_some_iff.mp hd).1
    refine step d _ (fun acc S' => S' = S ∧ acc = (xs.take (i + 1)).map v) (List.mem_of_getElem? hd) ?_ ⟨rfl, ?_⟩
    · rw [List.length_map, List.length_take]
      omega
    · rw [List.take_add_one, hd, List.map_append]
      rfl
  · obtain ⟨rfl, rfl⟩ := h
    rw [List.take_length]
    exact ⟨by rw [List.length_map]; omega, fin⟩
theorem lc_map {g : DG} {tt : DT} {te : DE} {vs : List Nat} {ρ : DEnv} {post : DK} {C : Store → Prop} {S1 : Store} {xs : List D} (v : D → D) (hC : C S1) (hl : xs.length ≤ 100000)
    (step : ∀ (a : D) (acc : List D) (J : List D → Store → Prop), a ∈ xs → acc.length ≤ 100000 → J (acc ++ [v a]) S1 →
      g a (wipeD ρ vs) S1 fun ρ2 S2 => tt ρ2 S2 fun b S3 => if b = true then te ρ2 S3 fun y S4 => acc.length ≤ 100000 ∧ J (acc ++ [y]) S4 else J acc S3)
    (fin : post (.lr S1.length) (S1 ++ [.lst (xs.map v)])) : lcK g tt te vs ρ post xs C S1 := by
  refine lc_inv (fun i acc S => S = S1 ∧ acc = (xs.take i).map v) ⟨rfl, rfl⟩ (fun i acc S _ h => by rw [h.1]; exact hC) (fun i d acc S hd h => ?_) fun acc S h => ?_
  · obtain ⟨rfl, rfl⟩ := h
    have lt := (List.getElem?_eq_some_iff.mp hd).1
    refine step d _ (fun acc S' => S' = S ∧ acc = (xs.take (i + 1)).map v) (List.mem_of_getElem? hd) ?_ ⟨rfl, ?_⟩
    · rw [List.length_map, List.length_take]
      omega
    · rw [List.take_add_one, hd, List.map_append]
      rfl
  · obtain ⟨rfl, rfl⟩ := h
    rw [List.take_length]
    exact fin
end DL
/-! YA: type(x) is int, and the like. -/
namespace DL
open PySem PySem.Spec PyProof.Rows L2
variable [HasT]

theorem tyD_B {K : PySem.W.Frag} {H : Hp} {A : List Addr} {S : Store} {t : String} (s : RelS K H A S) : ∀ {d : D} {v : V}, RelD K H A d v → tyD S d = some t → TyB K H v t
  | .non, v, r, h => by cases h; cases (show v = .non from r); constructor
  | .bl _, v, r, h => by cases h; cases (show v = .bl _ from r); constructor
  | .int _, v, r, h => by cases h; cases (show v = .int _ from r); constructor
  | .str _, v, r, h => by cases h; cases (show v = .str _ from r); constructor
  | .tup _, v, ⟨a, vs, e, p, _⟩, h => by
    cases h
    subst e
    exact .tup p.sq
  | .ztup _, v, ⟨a, vs, e, p, _⟩, h => by
    cases h
    subst e
    exact .tup p
  | .lr n, v, ⟨a, e, ha⟩, h => by
    subst e
    simp only [tyD] at h
    cases q : S[n]? with
    | none => rw [q] at h; cases h
    | some en =>
      rw [q] at h
      have r := s.get q ha
      cases en with
      | lst ds => cases h; obtain ⟨vs, h1, _⟩ := r; exact .lst (.inl (.inl h1))
      | dct kvs => cases h; obtain ⟨vs, h1, _⟩ := r; exact .dK h1
  | .rl _, _, _, h => by cases h
  | .exc _ _ _ _, _, _, h => by cases h
  | .opq _, _, _, h => by cases h
def dTyIs (n : String) (te : DE) : DE := fun ρ S post => te ρ S fun d S1 => ∃ t, tyD S1 d = some t ∧ post (.bl (decide (t = n))) S1
section
variable {X : Cx} {e : Expr} {te : DE} {x : Str} {n : String} {p p2 p3 pos : Pos}
theorem de_tyIs (he : PE X e (liftE X.K te)) (hg : Gl X "type") (hm : X.mg "type" = none) (hg2 : Gl X x) (hm2 : X.mg x = none) (hv : bootBuiltins x = some (.type n))
    (hn : x ≠ "__name__" := by decide) (hd : (x == ("__debug__" : Str)) = false := by decide)
    (h1 : starEach [e] X.env = (false, eval e X.env) :: starEach [] X.env := by rfl) (hpl : (backTo p3 (starEach [] X.env)).any (·.1) = false := by rfl) (hmk : behindInMarks .Is (.Name x p2) = false := by rfl) :
    PE X (.Compare (.Call (.Name "type" p) [e] [] p3) [.Is] [.Name x p2] pos) (liftE X.K (dTyIs n te)) := by
  refine pe_mono (pe_cmpR op_isTyB (pe_callTy call_type1 hg hm (by rfl) (pa_cons he pa_nil h1) (by decide) (by decide) h1 hpl) (pe_bltn (v := .ty n) hg2 hm2 hv rfl hn hd) hmk) fun σ H Q ⟨A, ρ, S, post, nn, s, h, k⟩ =>
    ⟨A, ρ, S, _, nn, s, h, fun v H1 A1 d S1 e1 s1 r1 ⟨t, ht, p⟩ => ⟨v, t, rfl, tyD_B s1 r1 ht, t, n, rfl, rfl, k (.bl _) H1 A1 (.bl _) S1 e1 s1 rfl p⟩⟩
end
end DL
/-! YB: <= and >= of tuples of ints. -/
namespace DL
open PySem PySem.Spec PyProof.Rows L2
variable [HasT]

theorem lexAt_shift {e r : Nat → Bool} {z : Bool} : ∀ (k i : Nat), Ob.lexAt e r z (i + 1) k = Ob.lexAt (fun j => e (j + 1)) (fun j => r (j + 1)) z i k
  | 0, i => by rw [Ob.lexAt_zero, Ob.lexAt_zero]
  | k + 1, i => by rw [Ob.lexAt_succ, Ob.lexAt_succ, lexAt_shift k (i + 1)]
theorem lexAt_le : ∀ ns ms : List Int, Ob.lexAt (fun j => decide (ns.getD j 0 = ms.getD j 0)) (fun j => decide (ns.getD j 0 ≤ ms.getD j 0)) (decide (ns.length ≤ ms.length)) 0 (min ns.length ms.length) = !HT.lexLt ms ns
  | [], [] => rfl
  | [], _ :: _ => by simp [Ob.lexAt_zero, HT.lexLt]
  | _ :: _, [] => by simp [Ob.lexAt_zero, HT.lexLt]
  | x :: xs, y :: ys => by
    have e : min (x :: xs).length (y :: ys).length = min xs.length ys.length + 1 := by simp only [List.length_cons]; omega
    rw [e, Ob.lexAt_succ, lexAt_shift]
    have ih := lexAt_le xs ys
    simp only [List.length_cons, Nat.add_le_add_iff_right] at ih ⊢
    have c1 : (fun j => decide ((x :: xs).getD (j + 1) 0 = (y :: ys).getD (j + 1) 0)) = fun j => decide (xs.getD j 0 = ys.getD j 0) := rfl
    have c2 : (fun j => decide ((x :: xs).getD (j + 1) 0 ≤ (y :: ys).getD (j + 1) 0)) = fun j => decide (xs.getD j 0 ≤ ys.getD j 0) := rfl
    rw [c1, c2, ih]
    show (if decide (x = y) = true then _ else decide (x ≤ y)) = !(if y = x then _ else decide (y < x))
    by_cases h : x = y
    · subst h
      simp
    · have h' : ¬ y = x := fun q => h q.symm
      rw [if_neg (by simpa using h), if_neg h']
      by_cases g : x ≤ y
      · rw [decide_eq_true g, decide_eq_false (by omega)]; rfl
      · rw [decide_eq_false g, decide_eq_true (by omega)]; rfl
theorem lexAt_ge : ∀ ns ms : List Int, Ob.lexAt (fun j => decide (ns.getD j 0 = ms.getD j 0)) (fun j => decide (ms.getD j 0 ≤ ns.getD j 0)) (decide (ns.length ≥ ms.length)) 0 (min ns.length ms.length) = !HT.lexLt ns ms
  | [], [] => rfl
  | [], _ :: _ => by simp [Ob.lexAt_zero, HT.lexLt]
  | _ :: _, [] => by simp [Ob.lexAt_zero, HT.lexLt]
  | x :: xs, y :: ys => by
    have e : min (x :: xs).length (y :: ys).length = min xs.length ys.length + 1 := by simp only [List.length_cons]; omega
    rw [e, Ob.lexAt_succ, lexAt_shift]
    have ih := lexAt_ge xs ys
    simp only [List.length_cons, ge_iff_le, Nat.add_le_add_iff_right] at ih ⊢
    have c1 : (fun j => decide ((x :: xs).getD (j + 1) 0 = (y :: ys).getD (j + 1) 0)) = fun j => decide (xs.getD j 0 = ys.getD j 0) := rfl
    have c2 : (fun j => decide ((y :: ys).getD (j + 1) 0 ≤ (x :: xs).getD (j + 1) 0)) = fun j => decide (ys.getD j 0 ≤ xs.getD j 0) := rfl
    rw [c1, c2, ih]
    show (if decide (x = y) = true then _ else decide (y ≤ x)) = !(if x = y then _ else decide (x < y))
    by_cases h : x = y
    · subst h
      simp
    · rw [if_neg (by simpa using h), if_neg h]
      by_cases g : y ≤ x
      · rw [decide_eq_true g, decide_eq_false (by omega)]; rfl
      · rw [decide_eq_false g, decide_eq_true (by omega)]; rfl
def rGeT (K : PySem.W.Frag) : R2 := fun x y H Q => ∃ a b ns ms, x = .ref a ∧ y = .ref b ∧ SqT K H a (ns.map V.int) ∧ SqT K H b (ms.map V.int) ∧ Q (.bl (!HT.lexLt ns ms)) H
theorem op_geT {X : Cx} (hu : X.A.units < cLine) : OpR X (compareOp .GtE) (rGeT X.K) := by
  intro pins s σ H x y v u Q I rx ry h
  obtain ⟨a, b, ns, ms, rfl, rfl, ha, hb, q⟩ := h
  cases rx
  cases ry
  obtain ⟨its, r1, p1, _⟩ := I.tuple ha
  obtain ⟨its2, r2, p2, _⟩ := I.tuple hb
  have i1 : IntsAre its ns := Vals.ints r1
  have i2 : IntsAre its2 ms := Vals.ints r2
  have e1 : its.toArray.size = ns.length := by rw [List.size_toArray]; exact i1.length
  have e2 : its2.toArray.size = ms.length := by rw [List.size_toArray]; exact i2.length
  have at1 : ∀ j (h1 : j < its.toArray.size), ∃ t, its.toArray[j] = .int (ns.getD j 0) t := fun j h1 => PyProof.Rows.IntsAre.int_at i1 _ _ (by simp at h1; simp [h1])
  have at2 : ∀ j (h1 : j < its2.toArray.size), ∃ t, its2.toArray[j] = .int (ms.getD j 0) t := fun j h1 => PyProof.Rows.IntsAre.int_at i2 _ _ (by simp at h1; simp [h1])
  have R := Ob.RcOp.tuples_ge (A := X.A) (s := s) (e := fun j => decide (ns.getD j 0 = ms.getD j 0)) (r := fun j => decide (ms.getD j 0 ≤ ns.getD j 0)) p1 p2 hu (fun j h1 h2 => by
    obtain ⟨t, et⟩ := at1 j h1
    obtain ⟨t', et'⟩ := at2 j h2
    rw [et, et']
    have z : (ns.getD j 0 == ms.getD j 0) = decide (ns.getD j 0 = ms.getD j 0) := by
      by_cases q : ns.getD j 0 = ms.getD j 0
      · rw [decide_eq_true q]; exact beq_iff_eq.mpr q
      · rw [decide_eq_false q]; exact beq_eq_false_iff_ne.mpr q
    rw [← z]
    exact SeqAt.EqAt.int_int _ _ _ _) (fun j h1 h2 _ => by
    obtain ⟨t, et⟩ := at1 j h1
    obtain ⟨t', et'⟩ := at2 j h2
    rw [et, et']
    exact Ob.RcOp.ge_int _ _ _ _)
  rw [e1, e2, lexAt_ge] at R
  have z : wpAny (model X.prog X.w) X.A (compareOp .GtE (.ref a) (.ref b)) (EP X pins σ Q) X.xe s := R X.prog X.w X.xe (EP X pins σ Q) ⟨.bl _, H, I, rfl, q⟩
  exact z
/-- int or tuple compared; `f` of ints, `g` of tuples -/
def oCmp2 (f : Int → Int → Bool) (g : List Int → List Int → Bool) : D2 := fun x y S post => (match x, y with
  | .int i, .int j => post (.bl (f i j)) S
  | _, _ => False) ∨ ∃ ns ms : List Int, x = .tup (ns.map .int) ∧ y = .tup (ms.map .int) ∧ post (.bl (g ns ms)) S
def oLe2 : D2 := oCmp2 (fun i j => decide (i ≤ j)) fun ns ms => !HT.lexLt ms ns
def oGe2 : D2 := oCmp2 (fun i j => decide (j ≤ i)) fun ns ms => !HT.lexLt ns ms
def rLe2 (K : PySem.W.Frag) : R2 := fun x y H Q => rI0 (fun i j => .bl (decide (i ≤ j))) x y H Q ∨ rLeT K x y H Q
def rGe2 (K : PySem.W.Frag) : R2 := fun x y H Q => rI0 (fun i j => .bl (decide (j ≤ i))) x y H Q ∨ rGeT K x y H Q
theorem op_le2 {X : Cx} (hu : X.A.units + 64 < cLine) : OpR X (compareOp .LtE) (rLe2 X.K) := OpR.or op_le (op_leT (by omega))
theorem op_ge2 {X : Cx} (hu : X.A.units + 64 < cLine) : OpR X (compareOp .GtE) (rGe2 X.K) := OpR.or op_ge (op_geT (by omega))
theorem rul_le2 {K : PySem.W.Frag} : Rul2 K oLe2 (rLe2 K) := by
  intro H A S d1 d2 v1 v2 post Q s r1 r2 h k
  rcases h with h | ⟨ns, ms, rfl, rfl, p⟩
  · cases d1 <;> cases d2 <;> try exact False.elim h
    rename_i i j
    cases (show v1 = .int i from r1)
    cases (show v2 = .int j from r2)
    exact .inl ⟨i, j, rfl, rfl, k.now (d := .bl _) s rfl h⟩
  · obtain ⟨a, us, e1, h1, w1⟩ := r1
    obtain ⟨b, ws, e2, h2, w2⟩ := r2
    have q1 := rels_int w1
    have q2 := rels_int w2
    subst q1 q2
    exact .inr ⟨a, b, ns, ms, e1, e2, h1.sq, h2.sq, by rw [lexAt_le]; exact k.now (d := .bl _) s rfl p⟩
theorem rul_ge2 {K : PySem.W.Frag} : Rul2 K oGe2 (rGe2 K) := by
  intro H A S d1 d2 v1 v2 post Q s r1 r2 h k
  rcases h with h | ⟨ns, ms, rfl, rfl, p⟩
  · cases d1 <;> cases d2 <;> try exact False.elim h
    rename_i i j
    cases (show v1 = .int i from r1)
    cases (show v2 = .int j from r2)
    exact .inl ⟨i, j, rfl, rfl, k.now (d := .bl _) s rfl h⟩
  · obtain ⟨a, us, e1, h1, w1⟩ := r1
    obtain ⟨b, ws, e2, h2, w2⟩ := r2
    have q1 := rels_int w1
    have q2 := rels_int w2
    subst q1 q2
    exact .inr ⟨a, b, ns, ms, e1, e2, h1.sq, h2.sq, k.now (d := .bl _) s rfl p⟩
theorem go_leI {i j : Int} {S : Store} {post : DK} (h : post (.bl (decide (i ≤ j))) S) : oLe2 (.int i) (.int j) S post := .inl h
theorem go_geI {i j : Int} {S : Store} {post : DK} (h : post (.bl (decide (j ≤ i))) S) : oGe2 (.int i) (.int j) S post := .inl h
theorem go_leT {ns ms : List Int} {S : Store} {post : DK} (h : post (.bl (!HT.lexLt ms ns)) S) : oLe2 (.tup (ns.map .int)) (.tup (ms.map .int)) S post := .inr ⟨ns, ms, rfl, rfl, h⟩
theorem go_geT {ns ms : List Int} {S : Store} {post : DK} (h : post (.bl (!HT.lexLt ns ms)) S) : oGe2 (.tup (ns.map .int)) (.tup (ms.map .int)) S post := .inr ⟨ns, ms, rfl, rfl, h⟩
end DL
namespace KA
open PySem PySem.Spec PyProof.Rows L2 DL
variable [HasT]
def topS (i : Nat) : Stmt := PySem.Challenge.pw_onlyforced_k23_letters_and_rows_made.main.body.getD i (.Pass ⟨0, 0, 0, 0⟩)
abbrev s_number_within : Stmt := topS 8
theorem sc_number_within : FnScope ["thing", "low", "high"] ["thing", "low", "high"] (defScope s_number_within) := ⟨rfl, rfl, rfl, by decide +kernel, rfl, by decide +kernel, by decide +kernel⟩
abbrev s_tuple_sized : Stmt := topS 10
theorem sc_tuple_sized : FnScope ["thing", "low", "high"] ["thing", "low", "high"] (defScope s_tuple_sized) := ⟨rfl, rfl, rfl, by decide +kernel, rfl, by decide +kernel, by decide +kernel⟩
abbrev s_sizes_fault : Stmt := topS 15
theorem sc_sizes_fault : FnScope ["thing", "index", "many"] ["thing"] (defScope s_sizes_fault) := ⟨rfl, rfl, rfl, by decide +kernel, rfl, by decide +kernel, by decide +kernel⟩
abbrev s_made_sizes : Stmt := topS 16
theorem sc_made_sizes : FnScope ["thing", "fault"] ["thing"] (defScope s_made_sizes) := ⟨rfl, rfl, rfl, by decide +kernel, rfl, by decide +kernel, by decide +kernel⟩
abbrev s_setting_of : Stmt := topS 17
theorem sc_setting_of : FnScope ["sizes", "thing"] ["sizes", "thing"] (defScope s_setting_of) := ⟨rfl, rfl, rfl, by decide +kernel, rfl, by decide +kernel, by decide +kernel⟩
abbrev s_rises : Stmt := topS 11
theorem sc_rises : FnScope ["parts", "one", "two"] ["parts"] (defScope s_rises) := ⟨rfl, rfl, rfl, by decide +kernel, rfl, by decide +kernel, by decide +kernel⟩
abbrev s_settings_rise : Stmt := topS 19
theorem sc_settings_rise : FnScope ["sizes", "thing", "part"] ["sizes", "thing"] (defScope s_settings_rise) := ⟨rfl, rfl, rfl, by decide +kernel, rfl, by decide +kernel, by decide +kernel⟩
abbrev s_lot_of : Stmt := topS 20
theorem sc_lot_of : FnScope ["sizes", "thing"] ["sizes", "thing"] (defScope s_lot_of) := ⟨rfl, rfl, rfl, by decide +kernel, rfl, by decide +kernel, by decide +kernel⟩
abbrev s_made_lot : Stmt := topS 21
theorem sc_made_lot : FnScope ["sizes", "thing"] ["sizes", "thing"] (defScope s_made_lot) := ⟨rfl, rfl, rfl, by decide +kernel, rfl, by decide +kernel, by decide +kernel⟩
abbrev s_plain_pair : Stmt := topS 9
theorem sc_plain_pair : FnScope ["thing"] ["thing"] (defScope s_plain_pair) := ⟨rfl, rfl, rfl, by decide +kernel, rfl, by decide +kernel, by decide +kernel⟩
abbrev s_worth_of : Stmt := topS 18
theorem sc_worth_of : FnScope ["sizes", "setting", "thing"] ["sizes", "setting", "thing"] (defScope s_worth_of) := ⟨rfl, rfl, rfl, by decide +kernel, rfl, by decide +kernel, by decide +kernel⟩
abbrev s_has_worth : Stmt := topS 23
theorem sc_has_worth : FnScope ["sizes", "thing"] ["sizes", "thing"] (defScope s_has_worth) := ⟨rfl, rfl, rfl, by decide +kernel, rfl, by decide +kernel, by decide +kernel⟩
abbrev s_plain_number : Stmt := topS 7
theorem sc_plain_number : FnScope ["thing"] ["thing"] (defScope s_plain_number) := ⟨rfl, rfl, rfl, by decide +kernel, rfl, by decide +kernel, by decide +kernel⟩
abbrev s_house_number : Stmt := topS 26
theorem sc_house_number : FnScope ["thing"] ["thing"] (defScope s_house_number) := ⟨rfl, rfl, rfl, by decide +kernel, rfl, by decide +kernel, by decide +kernel⟩
abbrev s_plain_stamp : Stmt := topS 27
theorem sc_plain_stamp : FnScope ["thing"] ["thing"] (defScope s_plain_stamp) := ⟨rfl, rfl, rfl, by decide +kernel, rfl, by decide +kernel, by decide +kernel⟩
abbrev s_entry_of : Stmt := topS 28
theorem sc_entry_of : FnScope ["sizes", "thing"] ["sizes", "thing"] (defScope s_entry_of) := ⟨rfl, rfl, rfl, by decide +kernel, rfl, by decide +kernel, by decide +kernel⟩
abbrev s_must_be_row : Stmt := topS 29
theorem sc_must_be_row : FnScope ["sizes", "lot", "thing", "index", "setting"] ["sizes", "lot", "thing"] (defScope s_must_be_row) := ⟨rfl, rfl, rfl, by decide +kernel, rfl, by decide +kernel, by decide +kernel⟩
abbrev s_made_row : Stmt := topS 30
theorem sc_made_row : FnScope ["sizes", "lot", "thing"] ["sizes", "lot", "thing"] (defScope s_made_row) := ⟨rfl, rfl, rfl, by decide +kernel, rfl, by decide +kernel, by decide +kernel⟩
abbrev s_must_be_letter : Stmt := topS 31
theorem sc_must_be_letter : FnScope ["sizes", "thing", "span", "entries", "last", "index", "entry"] ["sizes", "thing"] (defScope s_must_be_letter) := ⟨rfl, rfl, rfl, by decide +kernel, rfl, by decide +kernel, by decide +kernel⟩
abbrev s_made_letter : Stmt := topS 32
theorem sc_made_letter : FnScope ["sizes", "thing"] ["sizes", "thing"] (defScope s_made_letter) := ⟨rfl, rfl, rfl, by decide +kernel, rfl, by decide +kernel, by decide +kernel⟩
abbrev s_ltake : Stmt := topS 35
theorem sc_ltake : FnScope ["jar", "top", "drawn"] ["jar", "top"] (defScope s_ltake) := ⟨rfl, rfl, rfl, by decide +kernel, rfl, by decide +kernel, by decide +kernel⟩
abbrev s_lone : Stmt := topS 36
theorem sc_lone : FnScope ["jar", "things"] ["jar", "things"] (defScope s_lone) := ⟨rfl, rfl, rfl, by decide +kernel, rfl, by decide +kernel, by decide +kernel⟩
abbrev s_lheard : Stmt := topS 46
theorem sc_lheard : FnScope ["call", "told", "e"] ["call"] (defScope s_lheard) := ⟨rfl, rfl, rfl, by decide +kernel, rfl, by decide +kernel, by decide +kernel⟩
abbrev s_lsizes_right : Stmt := topS 54
theorem sc_lsizes_right : FnScope ["jar", "sizes", "at", "lot", "odd", "thing", "far"] ["jar", "sizes"] (defScope s_lsizes_right) := ⟨rfl, rfl, rfl, by decide +kernel, rfl, by decide +kernel, by decide +kernel⟩
abbrev s_lis_below : Stmt := topS 40
theorem sc_lis_below : FnScope ["x", "top"] ["x", "top"] (defScope s_lis_below) := ⟨rfl, rfl, rfl, by decide +kernel, rfl, by decide +kernel, by decide +kernel⟩
abbrev s_lis_stamp : Stmt := topS 41
theorem sc_lis_stamp : FnScope ["x"] ["x"] (defScope s_lis_stamp) := ⟨rfl, rfl, rfl, by decide +kernel, rfl, by decide +kernel, by decide +kernel⟩
abbrev s_lis_entry : Stmt := topS 42
theorem sc_lis_entry : FnScope ["sizes", "x"] ["sizes", "x"] (defScope s_lis_entry) := ⟨rfl, rfl, rfl, by decide +kernel, rfl, by decide +kernel, by decide +kernel⟩
abbrev s_lis_lot : Stmt := topS 43
theorem sc_lis_lot : FnScope ["sizes", "x", "one", "at"] ["sizes", "x"] (defScope s_lis_lot) := ⟨rfl, rfl, rfl, by decide +kernel, rfl, by decide +kernel, by decide +kernel⟩
abbrev s_lrow_due : Stmt := topS 44
theorem sc_lrow_due : FnScope ["sizes", "lot", "thing", "at"] ["sizes", "lot", "thing"] (defScope s_lrow_due) := ⟨rfl, rfl, rfl, by decide +kernel, rfl, by decide +kernel, by decide +kernel⟩
abbrev s_lbent_lot : Stmt := topS 50
theorem sc_lbent_lot : FnScope ["jar", "sizes", "lot", "n", "found"] ["jar", "sizes", "lot"] (defScope s_lbent_lot) := ⟨rfl, rfl, rfl, by decide +kernel, rfl, by decide +kernel, by decide +kernel⟩
abbrev s_lbent_entry : Stmt := topS 49
theorem sc_lbent_entry : FnScope ["jar", "sizes", "entry", "i", "a", "stamp", "c", "h", "way", "odd"] ["jar", "sizes", "entry"] (defScope s_lbent_entry) := ⟨rfl, rfl, rfl, by decide +kernel, rfl, by decide +kernel, by decide +kernel⟩
abbrev s_lbent_entries : Stmt := topS 51
theorem sc_lbent_entries : FnScope ["jar", "sizes", "entries", "way", "at"] ["jar", "sizes", "entries"] (defScope s_lbent_entries) := ⟨rfl, rfl, rfl, by decide +kernel, rfl, by decide +kernel, by decide +kernel⟩
abbrev s_ldrawn_stamp : Stmt := topS 47
theorem sc_ldrawn_stamp : FnScope ["jar", "count"] ["jar"] (defScope s_ldrawn_stamp) := ⟨rfl, rfl, rfl, by decide +kernel, rfl, by decide +kernel, by decide +kernel⟩
abbrev s_ldrawn_entries : Stmt := topS 48
theorem sc_ldrawn_entries : FnScope ["jar", "sizes", "lot", "i"] ["jar", "sizes", "lot"] (defScope s_ldrawn_entries) := ⟨rfl, rfl, rfl, by decide +kernel, rfl, by decide +kernel, by decide +kernel⟩
abbrev s_lsome : Stmt := topS 37
theorem sc_lsome : FnScope ["jar", "things", "thing"] ["jar", "things"] (defScope s_lsome) := ⟨rfl, rfl, rfl, by decide +kernel, rfl, by decide +kernel, by decide +kernel⟩
abbrev s_ldrawn_lot : Stmt := topS 39
theorem sc_ldrawn_lot : FnScope ["jar", "many", "found", "i"] ["jar", "many"] (defScope s_ldrawn_lot) := ⟨rfl, rfl, rfl, by decide +kernel, rfl, by decide +kernel, by decide +kernel⟩
abbrev s_lrows_right : Stmt := topS 52
theorem sc_lrows_right : FnScope ["jar", "sizes", "lot", "row", "odd", "other"] ["jar", "sizes"] (defScope s_lrows_right) := ⟨rfl, rfl, rfl, by decide +kernel, rfl, by decide +kernel, by decide +kernel⟩
abbrev s_lletter_due : Stmt := topS 45
theorem sc_lletter_due : FnScope ["sizes", "thing", "last", "at", "one"] ["sizes", "thing"] (defScope s_lletter_due) := ⟨rfl, rfl, rfl, by decide +kernel, rfl, by decide +kernel, by decide +kernel⟩
abbrev s_lletters_right : Stmt := topS 53
theorem sc_lletters_right : FnScope ["jar", "sizes", "span", "entries", "letter", "odd", "far", "others", "one"] ["jar", "sizes"] (defScope s_lletters_right) := ⟨rfl, rfl, rfl, by decide +kernel, rfl, by decide +kernel, by decide +kernel⟩
abbrev s_ldrawn_sizes : Stmt := topS 38
theorem sc_ldrawn_sizes : FnScope ["jar", "most", "high", "found", "turn"] ["jar", "most", "high"] (defScope s_ldrawn_sizes) := ⟨rfl, rfl, rfl, by decide +kernel, rfl, by decide +kernel, by decide +kernel⟩
abbrev s_lpool : Stmt := topS 34
theorem sc_lpool : FnScope ["script", "k", "cell", "big", "mixed"] ["script", "k"] (defScope s_lpool) := ⟨rfl, rfl, rfl, by decide +kernel, rfl, by decide +kernel, by decide +kernel⟩
abbrev s_law : Stmt := topS 55
theorem sc_law : FnScope ["script", "k", "jar", "sizes"] ["script"] (defScope s_law) := ⟨rfl, rfl, rfl, by decide +kernel, rfl, by decide +kernel, by decide +kernel⟩
structure Cst (mg : Str → Option Value) : Prop where
  c_MOST_WORTHS : ∃ t, mg "MOST_WORTHS" = some (.int (6) t)
  c_MOST_SETTINGS : ∃ t, mg "MOST_SETTINGS" = some (.int (24) t)
  c_MOST_HOUSE : ∃ t, mg "MOST_HOUSE" = some (.int (99) t)
/-- where the classes stand -/
structure CL where
  c_BadSizes : Addr
  c_BadLot : Addr
  c_BadRow : Addr
  c_BadLetter : Addr
  c_Refused : Addr
structure Clm (mg : Str → Option Value) (cl : CL) : Prop where
  g_BadSizes : mg "BadSizes" = some (.ref cl.c_BadSizes)
  g_BadLot : mg "BadLot" = some (.ref cl.c_BadLot)
  g_BadRow : mg "BadRow" = some (.ref cl.c_BadRow)
  g_BadLetter : mg "BadLetter" = some (.ref cl.c_BadLetter)
  g_Refused : mg "Refused" = some (.ref cl.c_Refused)
structure Clf (K : PySem.W.Frag) (cl : CL) : Prop where
  t_BadSizes : CauC K cl.c_BadSizes
  t_BadLot : CauC K cl.c_BadLot
  t_BadRow : CauC K cl.c_BadRow
  t_BadLetter : CauC K cl.c_BadLetter
  h_Refused : HanC K cl.c_Refused
  h_BadLetter : HanC K cl.c_BadLetter
  h_BadRow : HanC K cl.c_BadRow
  h_BadLot : HanC K cl.c_BadLot
  h_BadSizes : HanC K cl.c_BadSizes
  s_BadSizes_Refused : PySem.W.subIn K (.ref cl.c_BadSizes) (.ref cl.c_Refused) = some true
  s_BadSizes_BadLetter : PySem.W.subIn K (.ref cl.c_BadSizes) (.ref cl.c_BadLetter) = some false
  s_BadSizes_BadRow : PySem.W.subIn K (.ref cl.c_BadSizes) (.ref cl.c_BadRow) = some false
  s_BadSizes_BadLot : PySem.W.subIn K (.ref cl.c_BadSizes) (.ref cl.c_BadLot) = some false
  s_BadSizes_BadSizes : PySem.W.subIn K (.ref cl.c_BadSizes) (.ref cl.c_BadSizes) = some true
  v_BadSizes : PySem.W.subIn K (.ref cl.c_BadSizes) (.type "ValueError") = some true
  s_BadLot_Refused : PySem.W.subIn K (.ref cl.c_BadLot) (.ref cl.c_Refused) = some true
  s_BadLot_BadLetter : PySem.W.subIn K (.ref cl.c_BadLot) (.ref cl.c_BadLetter) = some false
  s_BadLot_BadRow : PySem.W.subIn K (.ref cl.c_BadLot) (.ref cl.c_BadRow) = some false
  s_BadLot_BadLot : PySem.W.subIn K (.ref cl.c_BadLot) (.ref cl.c_BadLot) = some true
  s_BadLot_BadSizes : PySem.W.subIn K (.ref cl.c_BadLot) (.ref cl.c_BadSizes) = some false
  v_BadLot : PySem.W.subIn K (.ref cl.c_BadLot) (.type "ValueError") = some true
  s_BadRow_Refused : PySem.W.subIn K (.ref cl.c_BadRow) (.ref cl.c_Refused) = some true
  s_BadRow_BadLetter : PySem.W.subIn K (.ref cl.c_BadRow) (.ref cl.c_BadLetter) = some false
  s_BadRow_BadRow : PySem.W.subIn K (.ref cl.c_BadRow) (.ref cl.c_BadRow) = some true
  s_BadRow_BadLot : PySem.W.subIn K (.ref cl.c_BadRow) (.ref cl.c_BadLot) = some false
  s_BadRow_BadSizes : PySem.W.subIn K (.ref cl.c_BadRow) (.ref cl.c_BadSizes) = some false
  v_BadRow : PySem.W.subIn K (.ref cl.c_BadRow) (.type "ValueError") = some true
  s_BadLetter_Refused : PySem.W.subIn K (.ref cl.c_BadLetter) (.ref cl.c_Refused) = some true
  s_BadLetter_BadLetter : PySem.W.subIn K (.ref cl.c_BadLetter) (.ref cl.c_BadLetter) = some true
  s_BadLetter_BadRow : PySem.W.subIn K (.ref cl.c_BadLetter) (.ref cl.c_BadRow) = some false
  s_BadLetter_BadLot : PySem.W.subIn K (.ref cl.c_BadLetter) (.ref cl.c_BadLot) = some false
  s_BadLetter_BadSizes : PySem.W.subIn K (.ref cl.c_BadLetter) (.ref cl.c_BadSizes) = some false
  v_BadLetter : PySem.W.subIn K (.ref cl.c_BadLetter) (.type "ValueError") = some true
abbrev s_init : Stmt := clsFirst (topS 1)
theorem sc_init : FnScope ["self", "what"] ["self", "what"] (defScope s_init) := ⟨rfl, rfl, rfl, by decide +kernel, rfl, by decide +kernel, by decide +kernel⟩
theorem ok_initC {P : Program} {w : World} {K : PySem.W.Frag} {mg : Str → Option Value} {base : Heap} {f : Addr} {fd : FuncData} (F : Fun K "__init__" "Refused.__init__" s_init f fd) : FnOk P w K mg base CX0 1 f fd ["self", "what"] (spInit K) :=
  ok_init F sc_init fun cdv A outer s H E => pss_one (ps_ost (pv 0) (pv 1))
structure Bl (mg : Str → Option Value) : Prop where
  type_ : mg "type" = none
  int_ : mg "int" = none
  isinstance_ : mg "isinstance" = none
  tuple_ : mg "tuple" = none
  len_ : mg "len" = none
  enumerate_ : mg "enumerate" = none
  zip_ : mg "zip" = none
  all_ : mg "all" = none
  repr_ : mg "repr" = none
  bool_ : mg "bool" = none
  range_ : mg "range" = none
  min_ : mg "min" = none
  max_ : mg "max" = none
abbrev jar (x y : Int) : Ent := .lst [.int x, .int y]
def JOk (x y : Int) : Prop := 0 ≤ x ∧ 0 ≤ y ∧ y < 2147483647
theorem mod_in (a : Int) {m : Int} (h : 0 < m) : 0 ≤ a % m ∧ a % m < m := ⟨Int.emod_nonneg _ (by omega), Int.emod_lt_of_pos _ h⟩
abbrev endsD (S : Store) (post : DK) : DEnds := ⟨fun _ S' => fnEnd S post .non S', fnEnd S post, fun _ _ => False, fun _ _ => False, fun _ _ _ _ => False⟩
local macro_rules | `(tactic| walk_at "dgo") => `(tactic| simp only [dRevT, go_mul2_int, go_mul2_tup, go_mul3_int, go_mul3_tup, go_sc, dPar2, dTru, go_istup, go_islr, dSl, dPart, dNoPart, go_sl_tup, go_sl_lr, go_pop, go_popK, go_ext, go_extK, dAugS, go_augK, dChain, dIsTy, dTyIs, oDivW, go_add_tup, go_add2_int, go_add2_lr, go_zip2, go_zip2K, go_enum1, go_enum1K, go_tupA, dRaise, dTry, dRetX, dDropX, dAsgX, dToX, dToXs, dCallX, dConsX, dCallAX, dWhatS, dIsX, endsX, noX, D.lr.injEq, D.int.injEq, D.bl.injEq, D.str.injEq, D.tup.injEq, reduceCtorEq, false_and, and_false, exists_false, or_false, false_or, and_assoc, exists_and_left, exists_and_right, dSeq, dAsg, dRet, dRetN, dDrop, dIfS, dNext, dVar, dC, DL.gName, DL.gSub, dOp, dUn, dCons, dNil, dTup, dLst, dCB, dTest, dAnd, dOr, dNot, dAndV, dOrV, dNotV, dIf, dYes, dCall, dCallK, dGc0, dPar3, oSub, oMul, oMod, oDiv, oPow, oLt, oLe, oGt, oGe, oNeg, cMin, cMax, startD, jar, endsD, tI, dE, tE,
  go_lc, go_for, go_seq, go_rng1, go_rng1K, go_rng2, go_rng2K, go_ez, go_ezK, go_zip3, go_zip3K,
  go_ix_lr, go_ix_tup, go_ix_rl, go_at0, go_at1, go_at2, go_ix0, go_ix1, go_ix20, go_ix21, go_int_int, go_int_bl, go_2c, go_2I, go_2J, go_1J, go_add, go_add_lr, go_set, go_len, go_tuple, go_list, go_eq_int, go_eq_bl, go_eq_str, go_gtup, go_gztup, go_gcons, go_gnil, go_bl, go_app, go_app0, go_app1, seqOf_tup, seqOf_rl, seqOf_lr,
  List.getElem?_cons_zero, List.getElem?_cons_succ, List.map_cons, List.map_nil, List.length_cons, List.length_nil, List.cons_append, List.nil_append, List.replicate_succ, List.replicate_zero, Nat.reduceAdd, Nat.reduceSub, Nat.zero_add, Option.some.injEq, Ent.lst.injEq, exists_eq_left', exists_eq_left, exists_eq', List.set_cons_zero, List.set_cons_succ, true_and, and_true, Bool.false_xor, Bool.true_xor, decide_eq_true_eq, ite_true, ite_false, Bool.false_eq_true, List.length_map,
  wipeD, below, belows, belowE, belows_ints, List.take_zero, List.take_succ_cons, List.take_nil, List.all_nil, List.all_cons, Bool.and_true, Bool.and_self])
local macro_rules | `(tactic| walk_at "dgo1") => `(tactic| simp only [dRevT, go_mul2_int, go_mul2_tup, go_mul3_int, go_mul3_tup, go_sc, dPar2, dTru, go_istup, go_islr, dSl, dPart, dNoPart, go_sl_tup, go_sl_lr, go_pop, go_popK, go_ext, go_extK, dAugS, go_augK, dChain, dIsTy, dTyIs, oDivW, go_add_tup, go_add2_int, go_add2_lr, go_zip2, go_zip2K, go_enum1, go_enum1K, go_tupA, dRaise, dTry, dRetX, dDropX, dAsgX, dToX, dToXs, dCallX, dConsX, dCallAX, dWhatS, dIsX, endsX, noX, D.lr.injEq, D.int.injEq, D.bl.injEq, D.str.injEq, D.tup.injEq, reduceCtorEq, false_and, and_false, exists_false, or_false, false_or, and_assoc, exists_and_left, exists_and_right, dAsg, dRet, dRetN, dDrop, dIfS, dNext, dVar, dC, DL.gName, DL.gSub, dOp, dUn, dCons, dNil, dTup, dLst, dCB, dTest, dAnd, dOr, dNot, dAndV, dOrV, dNotV, dIf, dYes, dCall, dCallK, dGc0, dPar3, oSub, oMul, oMod, oDiv, oPow, oLt, oLe, oGt, oGe, oNeg, cMin, cMax, startD, jar, endsD, tI, dE, tE,
  go_lc, go_for, go_seq, go_rng1, go_rng1K, go_rng2, go_rng2K, go_ez, go_ezK, go_zip3, go_zip3K,
  go_ix_lr, go_ix_tup, go_ix_rl, go_at0, go_at1, go_at2, go_ix0, go_ix1, go_ix20, go_ix21, go_int_int, go_int_bl, go_2c, go_2I, go_2J, go_1J, go_add, go_add_lr, go_set, go_len, go_tuple, go_list, go_eq_int, go_eq_bl, go_eq_str, go_gtup, go_gztup, go_gcons, go_gnil, go_bl, go_app, go_app0, go_app1, seqOf_tup, seqOf_rl, seqOf_lr,
  List.getElem?_cons_zero, List.getElem?_cons_succ, List.map_cons, List.map_nil, List.length_cons, List.length_nil, List.cons_append, List.nil_append, List.replicate_succ, List.replicate_zero, Nat.reduceAdd, Nat.reduceSub, Nat.zero_add, Option.some.injEq, Ent.lst.injEq, exists_eq_left', exists_eq_left, exists_eq', List.set_cons_zero, List.set_cons_succ, true_and, and_true, Bool.false_xor, Bool.true_xor, decide_eq_true_eq, ite_true, ite_false, Bool.false_eq_true, List.length_map,
  wipeD, below, belows, belowE, belows_ints, List.take_zero, List.take_succ_cons, List.take_nil, List.all_nil, List.all_cons, Bool.and_true, Bool.and_self])
/-! _law_take -/
def b_ltake : DS :=
  (dSeq (dIfS (dTest (dOp oGt (dOp oIx (dVar 0) (dC (.int 0))) (dC (.int 0)))) (dSeq (dAsg (dOp oMod (dCB cInt (dCons (dOp oIx (dVar 0) (dC (.int 0))) dNil)) (dVar 1)) (gName 2))
    (dSeq (dAsg (dOp oDivW (dOp oIx (dVar 0) (dC (.int 0))) (dVar 1)) (gSub (dVar 0) (dC (.int 0)) setSeq))
    (dRet (dVar 2)))) dNext)
    (dSeq (dAsg (dOp oMod (dCB cInt (dCons (dOp oAdd2 (dOp oMul2 (dOp oIx (dVar 0) (dC (.int 1))) (dC (.int 39373))) (dC (.int 7))) dNil)) (dC (.int 2147483647))) (gSub (dVar 0) (dC (.int 1)) setSeq))
    (dRet (dOp oMod (dCB cInt (dCons (dOp oDivW (dOp oMod (dCB cInt (dCons (dOp oMul2 (dOp oIx (dVar 0) (dC (.int 1))) (dOp oIx (dVar 0) (dC (.int 1)))) dNil)) (dC (.int 2147483629))) (dC (.int 32))) dNil)) (dVar 1)))))
def sp_ltake : DSp := fun ds S post => ∃ top x y, ds = [.lr 0, .int top] ∧ S = [jar x y] ∧ JOk x y ∧ 1 ≤ top ∧ top < 4611686018427387904 ∧ ∀ r x' y', JOk x' y' → 0 ≤ r → r < top → post (.int r) [jar x' y']
theorem len_ltake : ∀ ds S post, sp_ltake ds S post → ds.length = 2 := by
  rintro _ _ _ ⟨_, _, _, rfl, _⟩
  rfl
theorem end_jar {x y x' y' : Int} {d : D} {post : DK} (hd : below 0 d = true) (h : post d [jar x' y']) : fnEnd [jar x y] post d [jar x' y'] := end_same rfl (below_mono (Nat.zero_le _) d hd) (by simp [belowE, belows, below]) h
theorem hd_ltake : ∀ ds S post, sp_ltake ds S post → b_ltake (endsD S post) (startD ["jar", "top", "drawn"] ds) S := by
  rintro ds S post ⟨top, x, y, rfl, rfl, ⟨hx, hy, hy2⟩, h1, h2, h⟩
  unfold b_ltake
  walk_at "dgo"
  split
  · exact ⟨by omega, ⟨by omega, by omega⟩, end_jar (by simp [below]) (h _ _ _ ⟨Int.ediv_nonneg hx (by omega), hy, hy2⟩ (mod_in _ (by omega)).1 (mod_in _ (by omega)).2)⟩
  · have q := mod_in (y * 39373 + 7) (m := 2147483647) (by decide)
    generalize (y * 39373 + 7) % 2147483647 = z at q ⊢
    refine ⟨.inl ⟨by omega, by omega⟩, by decide, .inl ⟨by omega, by omega⟩, by decide, ⟨by decide, by decide⟩, by omega, end_jar (by simp [below]) (h _ _ _ ⟨hx, q.1, q.2⟩ (mod_in _ (by omega)).1 (mod_in _ (by omega)).2)⟩
theorem call_take {S : Store} {j : Nat} {x y top : Int} {post : DK} (hj : S[j]? = some (jar x y)) (hk : JOk x y) (h1 : 1 ≤ top) (h2 : top < 4611686018427387904) (h : ∀ r x' y', JOk x' y' → 0 ≤ r → r < top → post (.int r) (S.set j (jar x' y'))) : callD sp_ltake [.lr j, .int top] S post :=
  call_one hj (by simp [belows, below]) (by simp [belowE, belows, below]) ⟨top, x, y, rfl, rfl, hk, h1, h2, fun r x' y' k a b => by simpa [ren, setAll, renE, rens] using h r x' y' k a b⟩
theorem ok_ltake {P : Program} {w : World} {K : PySem.W.Frag} {mg : Str → Option Value} {base : Heap} {f : Addr} {fd : FuncData} (F : Fun K "_law_take" "_law_take" s_ltake f fd) (W : Bl mg) :
    FnG P w K mg base CX0 1 f fd ["jar", "top"] (spL K sp_ltake) := by
  refine fn_okG (tb := b_ltake) F sc_ltake len_ltake (fun cdv A outer s H E hgd hr => ?_) hd_ltake
  have sc := sc_ltake
  have hu := hr.units
  have hu1 := Nat.lt_of_le_of_lt (Nat.add_le_add_left (show 1 ≤ 64 by decide) _) hu
  have hu65 := units65 hr
  exact (dss_cons (ds_if (dt_cmp op_gt rul_gt (de_ix ix_seq rul_ix (de_var 0) de_int) de_int (nomark _)) (dss_cons (ds_set 2 sc.nd (de_op op_mod rul_mod (de_callTy call_int1 rul_int (by rfl) W.int_ PyProof.Rows.boot_int (da_cons (de_ix ix_seq rul_ix (de_var 0) de_int) da_nil)) (de_var 1)))
      (dss_cons (ds_asg (de_op op_fdivW rul_divW (de_ix ix_seq rul_ix (de_var 0) de_int) (de_var 1)) (dg_sub (de_var 0) de_int set_list rul_set))
      (dss_one (ds_ret (de_var 2))))) dss_nil)
      (dss_cons (ds_asg (de_op op_mod rul_mod (de_callTy call_int1 rul_int (by rfl) W.int_ PyProof.Rows.boot_int (da_cons (de_op op_add4 rul_add4 (de_op op_mul2 rul_mul2 (de_ix ix_seq rul_ix (de_var 0) de_int) de_int) de_int) da_nil)) de_int) (dg_sub (de_var 0) de_int set_list rul_set))
      (dss_one (ds_ret (de_op op_mod rul_mod (de_callTy call_int1 rul_int (by rfl) W.int_ PyProof.Rows.boot_int (da_cons (de_op op_fdivW rul_divW (de_op op_mod rul_mod (de_callTy call_int1 rul_int (by rfl) W.int_ PyProof.Rows.boot_int (da_cons (de_op op_mul2 rul_mul2 (de_ix ix_seq rul_ix (de_var 0) de_int) (de_ix ix_seq rul_ix (de_var 0) de_int)) da_nil)) de_int) de_int) da_nil)) (de_var 1))))))
/-! _law_one -/
def b_lone : DS :=
  (dRet (dOp oIx (dVar 1) (dCall sp_ltake (dCons (dVar 0) (dCons (dCB cLen (dCons (dVar 1) dNil)) dNil)))))
def sp_lone : DSp := fun ds S post => ∃ x y xs, ds = [.lr 0, .lr 1] ∧ S = [jar x y, .lst xs] ∧ JOk x y ∧ xs ≠ [] ∧ xs.length ≤ 100000 ∧ belows 0 xs = true ∧ ∀ d ∈ xs, ∀ x' y', JOk x' y' → post d [jar x' y', .lst xs]
theorem len_lone : ∀ ds S post, sp_lone ds S post → ds.length = 2 := by
  rintro _ _ _ ⟨_, _, _, rfl, _⟩
  rfl
theorem hd_lone : ∀ ds S post, sp_lone ds S post → b_lone (endsD S post) (startD ["jar", "things"] ds) S := by
  rintro ds S post ⟨x, y, xs, rfl, rfl, hj, h0, h1, hb, h⟩
  unfold b_lone
  walk_at "dgo"
  have hp : 0 < xs.length := List.length_pos_iff.mpr h0
  refine call_take (j := 0) rfl hj (by omega) (by omega) fun r x' y' hj' a b => ?_
  walk_at "dgo"
  have hr : r.toNat < xs.length := by omega
  refine ⟨xs[r.toNat], atI_of a (List.getElem?_eq_getElem hr), ?_⟩
  have hm : xs[r.toNat] ∈ xs := List.getElem_mem hr
  exact end_same rfl (below_mono (Nat.zero_le _) _ (belows_iff.mp hb _ hm)) (by simp [belowE, belows, below, belows_mono (Nat.zero_le _) _ hb]) (h _ hm x' y' hj')
theorem call_lone {S : Store} {j k : Nat} {x y : Int} {xs : List D} {post : DK} (hjk : j ≠ k) (hj : S[j]? = some (jar x y)) (hk : S[k]? = some (.lst xs)) (ok : JOk x y) (h0 : xs ≠ []) (h1 : xs.length ≤ 100000) (hb : belows 0 xs = true) (h : ∀ d ∈ xs, ∀ x' y', JOk x' y' → post d (S.set j (jar x' y'))) : callD sp_lone [.lr j, .lr k] S post := by
  refine call_two hjk hj hk (by simp [belows]) (by simp [belowE, belows, below]) hb ⟨x, y, xs, rfl, rfl, ok, h0, h1, hb, fun d hd x' y' ok' => ?_⟩
  have e : (S.set j (jar x' y')).set k (.lst xs) = S.set j (jar x' y') := by
    have hkl := (List.getElem?_eq_some_iff.mp hk).1
    have : (S.set j (jar x' y'))[k]? = some (.lst xs) := by
      rw [List.getElem?_set_ne hjk]
      exact hk
    obtain ⟨hl, he⟩ := List.getElem?_eq_some_iff.mp this
    rw [← he]
    exact List.set_getElem_self hl
  simp only [List.take_succ_cons, List.take_zero, List.drop_succ_cons, List.drop_zero, List.map_cons, List.map_nil, setAll, List.append_nil]
  rw [ren_below _ d (belows_iff.mp hb d hd), renE_below _ (jar x' y') (by simp [belowE, belows, below]), renE_below _ (.lst xs) hb, e]
  exact h d hd x' y' ok'
theorem ok_lone {P : Program} {w : World} {K : PySem.W.Frag} {mg : Str → Option Value} {base : Heap} {f : Addr} {fd : FuncData} (F : Fun K "_law_one" "_law_one" s_lone f fd) (W : Bl mg) (C_ltake : CalG P w K mg base 1 "_law_take" sp_ltake) :
    FnG P w K mg base CX0 2 f fd ["jar", "things"] (spL K sp_lone) := by
  refine fn_okG (tb := b_lone) F sc_lone len_lone (fun cdv A outer s H E hgd hr => ?_) hd_lone
  have sc := sc_lone
  have hu := hr.units
  have hu1 := Nat.lt_of_le_of_lt (Nat.add_le_add_left (show 1 ≤ 64 by decide) _) hu
  have hu65 := units65 hr
  exact (dss_one (ds_ret (de_ix ix_seq rul_ix (de_var 1) (de_cal C_ltake hgd hr (by decide) (by rfl) (da_cons (de_var 0) (da_cons (de_callB call_len_seq rul_len (by rfl) W.len_ PySem.boot_len (da_cons (de_var 1) da_nil)) da_nil))))))
/-! _law_pool -/
def b_lpool : DS :=
  (dSeq (dAsg (dC (.int 0)) (gName 2))
    (dSeq (dIfS (dTest (dOp oLt (dVar 1) (dCB cLen (dCons (dVar 0) dNil)))) (dAsg (dOp oIx (dVar 0) (dVar 1)) (gName 2)) (dIfS (dTest (dOp (oEq true) (dVar 0) (dLst dNil))) (dAsg (dOp oIx (dVar 0) (dC (.int 0))) (gName 2)) dNext))
    (dSeq (dAsg (dCB cMax (dCons (dCB cInt (dCons (dVar 2) dNil)) (dCons (dCB cInt (dCons (dOp oSub (dUn oNeg (dC (.int 1))) (dVar 2)) dNil)) dNil))) (gName 3))
    (dSeq (dAsg (dOp oMod (dCB cInt (dCons (dOp oMul2 (dOp oAdd2 (dOp oAdd2 (dOp oAdd2 (dOp oMod (dCB cInt (dCons (dVar 3) dNil)) (dC (.int 2147483629))) (dOp oMul2 (dOp oMul2 (dC (.int 7919)) (dVar 1)) (dVar 1))) (dOp oMul2 (dC (.int 31)) (dVar 1))) (dC (.int 17))) (dC (.int 48271))) dNil)) (dC (.int 2147483647))) (gName 4))
    (dRet (dLst (dCons (dOp oMul2 (dVar 3) (dCB cInt (dCons (dAndV (dOp oGe (dVar 3) (dOp oPow (dC (.int 10)) (dC (.int 18)))) (dOp oLt (dVar 1) (dCB cLen (dCons (dVar 0) dNil)))) dNil))) (dCons (dVar 4) dNil))))))))
def sp_lpool : DSp := fun ds S post => ∃ (ns : List Int) (k : Int), ds = [.rl (ns.map .int), .int k] ∧ S = [] ∧ ns.length ≤ 1000 ∧ 0 ≤ k ∧ k ≤ 1000 ∧ ∀ x y, JOk x y → post (.lr 0) [jar x y]
theorem len_lpool : ∀ ds S post, sp_lpool ds S post → ds.length = 2 := by
  rintro _ _ _ ⟨_, _, rfl, _⟩
  rfl
theorem pool_jar {post : DK} (h : ∀ x y, JOk x y → post (.lr 0) [jar x y]) {S1 : Store} {a b c : Int} (ha : 0 ≤ a) (hc : c = 0 ∨ c = 1) : CMul a c ∧ 2 ≤ 100000 ∧ fnEnd [] post (.lr S1.length) (S1 ++ [.lst [.int (a * c), .int (b % 2147483647)]]) := by
  have q := mod_in b (m := 2147483647) (by decide)
  have e : 0 ≤ a * c := by
    rcases hc with rfl | rfl
    · rw [Int.mul_zero]; exact Int.le_refl _
    · rw [Int.mul_one]; exact ha
  refine ⟨.inr ?_, by decide, end_new0 (by simp [belowE, belows, below]) (h _ _ ⟨e, q.1, q.2⟩)⟩
  rcases hc with rfl | rfl <;> decide
theorem hd_lpool : ∀ ds S post, sp_lpool ds S post → b_lpool (endsD S post) (startD ["script", "k", "cell", "big", "mixed"] ds) S := by
  rintro ds S post ⟨ns, k, rfl, rfl, hn, h1, h2, h⟩
  have one : ∀ p : Prop, [Decidable p] → (if p then (1 : Int) else 0) = 0 ∨ (if p then (1 : Int) else 0) = 1 := fun p _ => by
    by_cases hp : p
    · exact .inr (if_pos hp)
    · exact .inl (if_neg hp)
  have c1 : CMul 7919 k := .inl ⟨by decide, by decide⟩
  have c2 : CMul (7919 * k) k := .inr ⟨by omega, by omega⟩
  have c3 : CMul 31 k := .inl ⟨by decide, by decide⟩
  have c4 : ∀ z : Int, CMul z 48271 := fun z => .inr ⟨by decide, by decide⟩
  have c5 : CPow 10 18 := ⟨by decide, by decide, by decide⟩
  unfold b_lpool
  walk_at "dgo"
  split
  · rename_i hk
    have hk' : k.toNat < ns.length := by omega
    refine ⟨.int ns[k.toNat], atI_of h1 (by rw [List.getElem?_map, List.getElem?_eq_getElem hk']; rfl), ?_⟩
    walk_at "dgo"
    refine ⟨by decide, c1, c2, c3, c4 _, by decide, c5, ?_⟩
    repeat' split
    all_goals first | exact pool_jar h (S1 := []) (by omega) (.inl rfl) | exact pool_jar h (S1 := []) (by omega) (.inr rfl) | exact pool_jar h (S1 := []) (by omega) (one _)
  · refine ⟨by decide, oEq_rl (ys := []) rfl ?_⟩
    walk_at "dgo"
    split
    · rename_i hns
      cases ns with
      | nil => simp at hns
      | cons c cs =>
        refine ⟨.int c, go_at0, ?_⟩
        walk_at "dgo"
        refine ⟨by decide, c1, c2, c3, c4 _, by decide, c5, ?_⟩
        repeat' split
        all_goals first | exact pool_jar h (S1 := [.lst []]) (by omega) (.inl rfl) | exact pool_jar h (S1 := [.lst []]) (by omega) (.inr rfl) | exact pool_jar h (S1 := [.lst []]) (by omega) (one _)
    · refine ⟨by decide, c1, c2, c3, c4 _, by decide, c5, ?_⟩
      repeat' split
      all_goals first | exact pool_jar h (S1 := [.lst []]) (by omega) (.inl rfl) | exact pool_jar h (S1 := [.lst []]) (by omega) (.inr rfl) | exact pool_jar h (S1 := [.lst []]) (by omega) (one _)
theorem call_pool {S : Store} {ns : List Int} {k : Int} {post : DK} (hn : ns.length ≤ 1000) (h1 : 0 ≤ k) (h2 : k ≤ 1000) (h : ∀ x y, JOk x y → post (.lr S.length) (S ++ [jar x y])) : callD sp_lpool [.rl (ns.map .int), .int k] S post :=
  call_pure (by simp [belows, below, belows_ints]) ⟨ns, k, rfl, rfl, hn, h1, h2, fun x y hj => by simpa [ren, renE, rens] using h x y hj⟩
theorem ok_lpool {P : Program} {w : World} {K : PySem.W.Frag} {mg : Str → Option Value} {base : Heap} {f : Addr} {fd : FuncData} (F : Fun K "_law_pool" "_law_pool" s_lpool f fd) (W : Bl mg) :
    FnG P w K mg base CX0 1 f fd ["script", "k"] (spL K sp_lpool) := by
  refine fn_okG (tb := b_lpool) F sc_lpool len_lpool (fun cdv A outer s H E hgd hr => ?_) hd_lpool
  have sc := sc_lpool
  have hu := hr.units
  have hu1 := Nat.lt_of_le_of_lt (Nat.add_le_add_left (show 1 ≤ 64 by decide) _) hu
  have hu65 := units65 hr
  exact (dss_cons (ds_set 2 sc.nd de_int)
      (dss_cons (ds_if (dt_cmp op_lt rul_lt (de_var 1) (de_callB call_len_seq rul_len (by rfl) W.len_ PySem.boot_len (da_cons (de_var 0) da_nil)) (nomark _)) (dss_one (ds_set 2 sc.nd (de_ix ix_seq rul_ix (de_var 0) (de_var 1)))) (dss_one (ds_if (dt_cmp (op_ne2 hu) rul_ne (de_var 0) (de_lst da_nil) (nomark _)) (dss_one (ds_set 2 sc.nd (de_ix ix_seq rul_ix (de_var 0) de_int))) dss_nil)))
      (dss_cons (ds_set 3 sc.nd (de_callB (DL.cr_max rfl) rul_max (by rfl) W.max_ PyProof.Rows.boot_max (da_cons (de_callTy call_int1 rul_int (by rfl) W.int_ PyProof.Rows.boot_int (da_cons (de_var 2) da_nil)) (da_cons (de_callTy call_int1 rul_int (by rfl) W.int_ PyProof.Rows.boot_int (da_cons (de_op op_sub rul_sub (de_un un_neg rul_neg de_int) (de_var 2)) da_nil)) da_nil))))
      (dss_cons (ds_set 4 sc.nd (de_op op_mod rul_mod (de_callTy call_int1 rul_int (by rfl) W.int_ PyProof.Rows.boot_int (da_cons (de_op op_mul2 rul_mul2 (de_op op_add4 rul_add4 (de_op op_add4 rul_add4 (de_op op_add4 rul_add4 (de_op op_mod rul_mod (de_callTy call_int1 rul_int (by rfl) W.int_ PyProof.Rows.boot_int (da_cons (de_var 3) da_nil)) de_int) (de_op op_mul2 rul_mul2 (de_op op_mul2 rul_mul2 de_int (de_var 1)) (de_var 1))) (de_op op_mul2 rul_mul2 de_int (de_var 1))) de_int) de_int) da_nil)) de_int))
      (dss_one (ds_ret (de_lst (da_cons (de_op op_mul2 rul_mul2 (de_var 3) (de_callTy call_int1 rul_int (by rfl) W.int_ PyProof.Rows.boot_int (da_cons (de_and (de_cmp op_ge rul_ge (de_var 3) (de_op op_pow rul_pow de_int de_int) (nomark _)) (de_one (de_cmp op_lt rul_lt (de_var 1) (de_callB call_len_seq rul_len (by rfl) W.len_ PySem.boot_len (da_cons (de_var 0) da_nil)) (nomark _)))) da_nil))) (da_cons (de_var 4) da_nil)))))))))

/-! plain data -/
mutual
def okT : D → Bool
  | .tup ds => okTs ds
  | .non => true
  | .bl _ => true
  | .int _ => true
  | .str _ => true
  | _ => false
def okTs : List D → Bool
  | [] => true
  | d :: ds => okT d && okTs ds
end
theorem okTs_iff : ∀ {ds : List D}, okTs ds = true ↔ ∀ d ∈ ds, okT d = true
  | [] => by simp [okTs]
  | d :: ds => by simp [okTs, okTs_iff (ds := ds)]
mutual
theorem okT_below (n : Nat) : ∀ d : D, okT d = true → below n d = true
  | .tup ds, h => by
    rw [okT] at h
    rw [below]
    exact okTs_below n ds h
  | .non, _ => by rw [below] <;> simp
  | .bl _, _ => by rw [below] <;> simp
  | .int _, _ => by rw [below] <;> simp
  | .str _, _ => by rw [below] <;> simp
  | .ztup _, h => by simp [okT] at h
  | .rl _, h => by simp [okT] at h
  | .lr _, h => by simp [okT] at h
  | .exc _ _ _ _, h => by simp [okT] at h
  | .opq _, h => by simp [okT] at h
theorem okTs_below (n : Nat) : ∀ ds : List D, okTs ds = true → belows n ds = true
  | [], _ => by rw [belows]
  | d :: ds, h => by
    rw [okTs, Bool.and_eq_true] at h
    rw [belows, okT_below n d h.1, okTs_below n ds h.2]
    rfl
end
def tyN : D → String
  | .tup _ => "tuple"
  | .bl _ => "bool"
  | .int _ => "int"
  | .str _ => "str"
  | _ => "NoneType"
theorem okT_ty {S : Store} : ∀ {d : D}, okT d = true → tyD S d = some (tyN d)
  | .tup ds, h => rfl
  | .non, _ => rfl
  | .bl _, _ => rfl
  | .int _, _ => rfl
  | .str _, _ => rfl
  | .ztup _, h => by simp [okT] at h
  | .rl _, h => by simp [okT] at h
  | .lr _, h => by simp [okT] at h
  | .exc _ _ _ _, h => by simp [okT] at h
  | .opq _, h => by simp [okT] at h
theorem okT_dE (p : Int × Int) : okT (dE p) = true := by simp [okT, okTs, dE]
theorem okT_tE (ps : List (Int × Int)) : okT (tE ps) = true := by
  unfold tE
  rw [okT, okTs_iff]
  intro d hd
  obtain ⟨p, _, rfl⟩ := List.mem_map.mp hd
  exact okT_dE p
theorem kNi : kitB "NoneType" "int" = some false := by decide +kernel
theorem kNb : kitB "NoneType" "bool" = some false := by decide +kernel
theorem kNt : kitB "NoneType" "tuple" = some false := by decide +kernel
theorem kBi : kitB "bool" "int" = some true := by decide +kernel
theorem kBb : kitB "bool" "bool" = some true := by decide +kernel
theorem kBt : kitB "bool" "tuple" = some false := by decide +kernel
theorem kIi : kitB "int" "int" = some true := by decide +kernel
theorem kIb : kitB "int" "bool" = some false := by decide +kernel
theorem kIt : kitB "int" "tuple" = some false := by decide +kernel
theorem kSi : kitB "str" "int" = some false := by decide +kernel
theorem kSb : kitB "str" "bool" = some false := by decide +kernel
theorem kSt : kitB "str" "tuple" = some false := by decide +kernel
theorem kTi : kitB "tuple" "int" = some false := by decide +kernel
theorem kTb : kitB "tuple" "bool" = some false := by decide +kernel
theorem kTt : kitB "tuple" "tuple" = some true := by decide +kernel
/-! plain_number -/
def isInt : D → Bool
  | .int _ => true
  | _ => false
theorem tyN_int (d : D) : decide (tyN d = "int") = isInt d := by cases d <;> simp [tyN, isInt]
theorem tyN_no {d : D} (h : isInt d = false) : ¬ tyN d = "int" := fun e => by
  have := tyN_int d
  rw [h, decide_eq_true e] at this
  cases this
def b_plain_number : DS :=
  (dRet (dTyIs "int" (dVar 0)))
def sp_plain_number : DSp := fun ds S post => ∃ d, ds = [d] ∧ S = [] ∧ okT d = true ∧ post (.bl (isInt d)) []
theorem len_plain_number : ∀ ds S post, sp_plain_number ds S post → ds.length = 1 := by
  rintro _ _ _ ⟨_, rfl, _⟩
  rfl
theorem hd_plain_number : ∀ ds S post, sp_plain_number ds S post → b_plain_number (endsD S post) (startD ["thing"] ds) S := by
  rintro ds S post ⟨d, rfl, rfl, hd, h⟩
  unfold b_plain_number
  walk_at "dgo"
  refine ⟨_, okT_ty hd, ?_⟩
  try rw [tyN_int]
  try simp only [tyN_int]
  exact end_none (by simp [below]) h
theorem call_number {S : Store} {d : D} {post : DK} (hd : okT d = true) (h : post (.bl (isInt d)) S) : callD sp_plain_number [d] S post :=
  call_pure (by simp [belows, okT_below 0 d hd]) ⟨d, rfl, rfl, hd, by simpa [ren] using h⟩
theorem ok_plain_number {P : Program} {w : World} {K : PySem.W.Frag} {mg : Str → Option Value} {base : Heap} {f : Addr} {fd : FuncData} (F : Fun K "plain_number" "plain_number" s_plain_number f fd) (W : Bl mg) :
    FnG P w K mg base CX0 1 f fd ["thing"] (spL K sp_plain_number) := by
  refine fn_okG (tb := b_plain_number) F sc_plain_number len_plain_number (fun cdv A outer s H E hgd hr => ?_) hd_plain_number
  have sc := sc_plain_number
  have hu := hr.units
  have hu1 := Nat.lt_of_le_of_lt (Nat.add_le_add_left (show 1 ≤ 64 by decide) _) hu
  have hu65 := units65 hr
  exact (dss_one (ds_ret (de_tyIs (de_var 0) (by rfl) W.type_ (by rfl) W.int_ (by rfl))))
/-! plain_pair -/
def isPr : D → Bool
  | .tup ds => decide (ds.length = 2)
  | _ => false
def b_plain_pair : DS :=
  (dRet (dAndV (dIsTy "tuple" (dVar 0)) (dOp (oEq false) (dCB cLen (dCons (dVar 0) dNil)) (dC (.int 2)))))
def sp_plain_pair : DSp := fun ds S post => ∃ d, ds = [d] ∧ S = [] ∧ okT d = true ∧ post (.bl (isPr d)) []
theorem len_plain_pair : ∀ ds S post, sp_plain_pair ds S post → ds.length = 1 := by
  rintro _ _ _ ⟨_, rfl, _⟩
  rfl
theorem two_int (n : Nat) : decide ((n : Int) = 2) = decide (n = 2) := by
  by_cases h : n = 2
  · subst h
    rfl
  · have : ¬ ((n : Int) = 2) := by omega
    simp [h, this]
theorem hd_plain_pair : ∀ ds S post, sp_plain_pair ds S post → b_plain_pair (endsD S post) (startD ["thing"] ds) S := by
  rintro ds S post ⟨d, rfl, rfl, hd, h⟩
  unfold b_plain_pair
  walk_at "dgo"
  refine ⟨_, okT_ty hd, ?_⟩
  cases d <;> simp [okT] at hd
  · exact ⟨false, kNt, end_none (by simp [below]) h⟩
  · exact ⟨false, kBt, end_none (by simp [below]) h⟩
  · exact ⟨false, kIt, end_none (by simp [below]) h⟩
  · exact ⟨false, kSt, end_none (by simp [below]) h⟩
  · refine ⟨true, kTt, ?_⟩
    rw [if_pos rfl]
    walk_at "dgo"
    rw [two_int]
    exact end_none (by simp [below]) h
theorem call_pair {S : Store} {d : D} {post : DK} (hd : okT d = true) (h : post (.bl (isPr d)) S) : callD sp_plain_pair [d] S post :=
  call_pure (by simp [belows, okT_below 0 d hd]) ⟨d, rfl, rfl, hd, by simpa [ren] using h⟩
theorem ok_plain_pair {P : Program} {w : World} {K : PySem.W.Frag} {mg : Str → Option Value} {base : Heap} {f : Addr} {fd : FuncData} (F : Fun K "plain_pair" "plain_pair" s_plain_pair f fd) (W : Bl mg) :
    FnG P w K mg base CX0 1 f fd ["thing"] (spL K sp_plain_pair) := by
  refine fn_okG (tb := b_plain_pair) F sc_plain_pair len_plain_pair (fun cdv A outer s H E hgd hr => ?_) hd_plain_pair
  have sc := sc_plain_pair
  have hu := hr.units
  have hu1 := Nat.lt_of_le_of_lt (Nat.add_le_add_left (show 1 ≤ 64 by decide) _) hu
  have hu65 := units65 hr
  exact (dss_one (ds_ret (de_and (de_isTy (de_var 0) (by rfl) W.isinstance_ (by rfl) W.tuple_ (by rfl)) (de_one (de_cmp (op_eq2 hu) rul_eq (de_callB call_len_seq rul_len (by rfl) W.len_ PySem.boot_len (da_cons (de_var 0) da_nil)) de_int (nomark _))))))
/-! plain things: how deep, how long -/
mutual
theorem okT_plain : ∀ d : D, okT d = true → DL.plain d = true
  | .tup ds, h => by
    rw [okT] at h
    rw [DL.plain]
    exact okTs_plain ds h
  | .non, _ => by rw [DL.plain] <;> simp
  | .bl _, _ => by rw [DL.plain] <;> simp
  | .int _, _ => by rw [DL.plain] <;> simp
  | .str _, _ => by rw [DL.plain] <;> simp
  | .ztup _, h => by simp [okT] at h
  | .rl _, h => by simp [okT] at h
  | .lr _, h => by simp [okT] at h
  | .exc _ _ _ _, h => by simp [okT] at h
  | .opq _, h => by simp [okT] at h
theorem okTs_plain : ∀ ds : List D, okTs ds = true → plains ds = true
  | [], _ => by rw [plains]
  | d :: ds, h => by
    rw [okTs, Bool.and_eq_true] at h
    rw [plains, okT_plain d h.1, okTs_plain ds h.2]
    rfl
end
def partsD : D → List D
  | .tup xs => xs
  | _ => []
structure Th (k : Nat) (d : D) : Prop where
  ok : okT d = true
  cl : (toP d).canLay0 = true
  dp : (toP d).depth ≤ k
theorem Th.mono {k k' : Nat} {d : D} (h : Th k d) (hk : k ≤ k') : Th k' d := ⟨h.ok, h.cl, Nat.le_trans h.dp hk⟩
theorem ths_of {k : Nat} : ∀ {ds : List D}, (∀ d ∈ ds, Th k d) → okTs ds = true ∧ PyData.canLayAll0 (toPs ds) = true ∧ PyData.depthAll (toPs ds) ≤ k
  | [], _ => ⟨by rw [okTs], rfl, Nat.zero_le _⟩
  | d :: ds, h => by
    have h1 := h d List.mem_cons_self
    obtain ⟨g1, g2, g3⟩ := ths_of fun e he => h e (List.mem_cons_of_mem _ he)
    refine ⟨by rw [okTs, h1.ok, g1]; rfl, ?_, ?_⟩
    · rw [toPs, PyData.canLayAll0, h1.cl, g2]
      rfl
    · have := h1.dp
      rw [toPs, PyData.depthAll]
      omega
theorem th_tup {k : Nat} {ds : List D} (h : ∀ d ∈ ds, Th k d) : Th (k + 1) (.tup ds) := by
  obtain ⟨h1, h2, h3⟩ := ths_of h
  refine ⟨by rw [okT]; exact h1, by rw [toP, PyData.canLay0]; exact h2, ?_⟩
  rw [toP, PyData.depth]
  omega
theorem th_int {k : Nat} {i : Int} : Th k (.int i) := ⟨rfl, rfl, Nat.zero_le _⟩
theorem th_bl {k : Nat} {b : Bool} : Th k (.bl b) := ⟨rfl, rfl, Nat.zero_le _⟩
theorem th_non {k : Nat} : Th k .non := ⟨rfl, rfl, Nat.zero_le _⟩
theorem th_str {k : Nat} {x : Str} (h : (PyData.str x).canLay0 = true) : Th k (.str x) := ⟨rfl, h, Nat.zero_le _⟩
theorem th_shaped {k : Nat} {d : D} (h : Th k d) (hk : k ≤ 64) : SeqAt.shaped (toP d) = true := by
  unfold SeqAt.shaped
  rw [h.cl, decide_eq_true (Nat.le_trans h.dp hk)]
  rfl
/-- a tuple of things compared with () -/
theorem oEq_nil {neg : Bool} {k : Nat} {xs : List D} {S : Store} {post : DK} (h : ∀ d ∈ xs, Th k d) (hk : k ≤ 60) (p : post (.bl (neg ^^ decide (xs = []))) S) : oEq neg (.tup xs) (.tup []) S post := by
  have t := th_tup h
  refine ⟨_, _, .inl ⟨okT_plain _ t.ok, rfl⟩, .inl ⟨rfl, rfl⟩, th_shaped t (by omega), rfl, ?_⟩
  have e : PyData.eqv (toP (.tup xs)) (toP (.tup [])) = decide (xs = []) := by
    cases xs <;> simp [toP, toPs, PyData.eqv, PyData.eqvAll]
  rw [e]
  exact p
/-- a list of ints compared with [] -/
theorem oEq_lnil {neg : Bool} {xs : List Int} {S : Store} {n m : Nat} {post : DK} (hn : S[n]? = some (.lst (xs.map .int))) (hm : S[m]? = some (.lst [])) (p : post (.bl (neg ^^ decide (xs = []))) S) : oEq neg (.lr n) (.lr m) S post := by
  have t : Th 1 (.tup (xs.map .int)) := th_tup fun d hd => by
    obtain ⟨x, _, rfl⟩ := List.mem_map.mp hd
    exact th_int
  have pl : plains (xs.map D.int) = true := by
    have := okT_plain _ t.ok
    rwa [DL.plain] at this
  refine ⟨_, _, .inr ⟨n, _, rfl, hn, pl, rfl⟩, .inr ⟨m, _, rfl, hm, rfl, rfl⟩, ?_, rfl, ?_⟩
  · have h1 := t.cl
    have h2 := t.dp
    rw [toP, PyData.canLay0] at h1
    rw [toP, PyData.depth] at h2
    unfold SeqAt.shaped
    rw [PyData.canLay0, h1, PyData.depth, decide_eq_true (by omega)]
    rfl
  · have e : PyData.eqv (.list (toPs (xs.map D.int))) (.list (toPs [])) = decide (xs = []) := by
      cases xs <;> simp [toPs, PyData.eqv, PyData.eqvAll]
    rw [e]
    exact p
/-! things of which all numbers have a bound -/
mutual
def bi : D → Bool
  | .tup ds => bis ds
  | .int i => decide (i.natAbs < 2 ^ 90)
  | .non => true
  | .bl _ => true
  | .str _ => true
  | _ => false
def bis : List D → Bool
  | [] => true
  | d :: ds => bi d && bis ds
end
theorem bis_iff : ∀ {ds : List D}, bis ds = true ↔ ∀ d ∈ ds, bi d = true
  | [] => by simp [bis]
  | d :: ds => by simp [bis, bis_iff (ds := ds)]
structure Tb (k : Nat) (d : D) : Prop where
  th : Th k d
  bi : bi d = true
theorem Tb.ok {k : Nat} {d : D} (h : Tb k d) : okT d = true := h.th.ok
theorem Tb.mono {k k' : Nat} {d : D} (h : Tb k d) (hk : k ≤ k') : Tb k' d := ⟨h.th.mono hk, h.bi⟩
theorem thc {P : D → Prop} {d : D} {ds : List D} (h : P d) (hs : ∀ x ∈ ds, P x) : ∀ x ∈ d :: ds, P x := fun x hx => (List.mem_cons.mp hx).elim (fun e => e ▸ h) (hs x)
theorem thn {P : D → Prop} : ∀ x ∈ ([] : List D), P x := fun _ h => nomatch h
theorem tb_tup {k : Nat} {ds : List D} (h : ∀ d ∈ ds, Tb k d) : Tb (k + 1) (.tup ds) := ⟨th_tup fun d hd => (h d hd).th, by rw [KA.bi]; exact bis_iff.mpr fun d hd => (h d hd).bi⟩
theorem tb_int {k : Nat} {i : Int} (h : i.natAbs < 2 ^ 90) : Tb k (.int i) := ⟨th_int, by rw [KA.bi]; exact decide_eq_true h⟩
theorem tb_bl {k : Nat} {b : Bool} : Tb k (.bl b) := ⟨th_bl, rfl⟩
theorem tb_non {k : Nat} : Tb k .non := ⟨th_non, rfl⟩
theorem tb_str {k : Nat} {x : Str} (h : (PyData.str x).canLay0 = true) : Tb k (.str x) := ⟨th_str h, rfl⟩
theorem tb_nil {k : Nat} : Tb (k + 1) (.tup []) := tb_tup thn
theorem tb_1 {k : Nat} {a : D} (ha : Tb k a) : Tb (k + 1) (.tup [a]) := tb_tup (thc ha thn)
theorem tb_2 {k : Nat} {a b : D} (ha : Tb k a) (hb : Tb k b) : Tb (k + 1) (.tup [a, b]) := tb_tup (thc ha (thc hb thn))
theorem tb_3 {k : Nat} {a b c : D} (ha : Tb k a) (hb : Tb k b) (hc : Tb k c) : Tb (k + 1) (.tup [a, b, c]) := tb_tup (thc ha (thc hb (thc hc thn)))
theorem tb_4 {k : Nat} {a b c d : D} (ha : Tb k a) (hb : Tb k b) (hc : Tb k c) (hd : Tb k d) : Tb (k + 1) (.tup [a, b, c, d]) := tb_tup (thc ha (thc hb (thc hc (thc hd thn))))
theorem bi_int {i : Int} (h : bi (.int i) = true) : i.natAbs < 2 ^ 90 := by
  rw [bi] at h
  exact of_decide_eq_true h
/-- a number of up to a hundred bits, shown -/
theorem fine_big {i : Int} (h : i.natAbs < 2 ^ 90) : Fine 90 0 (.int i) := by
  have hl : i.natAbs.log2 < 90 := by
    by_cases h0 : i.natAbs = 0
    · rw [h0]
      decide
    · exact (Nat.log2_lt h0).mpr h
  refine ⟨rfl, ?_, rfl, ?_, rfl, ?_, Nat.le_refl _⟩
  · show decide (i.natAbs.log2 < 1920) = true
    exact decide_eq_true (by omega)
  · show decide ((PyData.shown (.int i)).length ≤ 100) = true
    refine decide_eq_true ?_
    have e := int_text_length_le (a := i) (k := 90) (by decide) hl
    show (Str.ofString (toString i)).length ≤ 100
    rw [PySem.ofString_length]
    omega
  · show (if i == 0 then 0 else i.natAbs.log2 + 1) ≤ 90
    split <;> omega
--@@split
/-! number_within, tuple_sized -/
theorem ren0 {post : DK} {S : Store} {d : D} {f : Nat → Nat} {g : Ent → Ent} (hb : below 0 d = true) (h : post d S) : post (ren f d) (S ++ ([] : Store).map g) := by
  rw [ren_below _ d hb]
  simpa using h
theorem okT0 {d : D} (h : okT d = true) : below 0 d = true := okT_below 0 d h
def numIn (lo hi : Int) : D → Bool
  | .int i => decide (lo ≤ i) && decide (i ≤ hi)
  | _ => false
def b_number_within : DS :=
  (dRet (dAndV (dTyIs "int" (dVar 0)) (dChain oLe oLe (dVar 1) (dVar 0) (dVar 2))))
def sp_number_within : DSp := fun ds S post => ∃ d lo hi, ds = [d, .int lo, .int hi] ∧ S = [] ∧ okT d = true ∧ post (.bl (numIn lo hi d)) []
theorem len_number_within : ∀ ds S post, sp_number_within ds S post → ds.length = 3 := by
  rintro _ _ _ ⟨_, _, _, rfl, _⟩
  rfl
theorem hd_number_within : ∀ ds S post, sp_number_within ds S post → b_number_within (endsD S post) (startD ["thing", "low", "high"] ds) S := by
  rintro ds S post ⟨d, lo, hi, rfl, rfl, hd, h⟩
  unfold b_number_within
  walk_at "dgo"
  refine ⟨_, okT_ty hd, ?_⟩
  cases hi' : isInt d with
  | false =>
    rw [if_neg (tyN_no hi')]
    cases d <;> first | exact end_none (by simp [below]) h | cases hi'
  | true =>
    cases d <;> first | cases hi' | skip
    rename_i i
    rw [if_pos (show tyN (.int i) = "int" from rfl)]
    rw [numIn] at h
    try walk_at "dgo"
    by_cases h1 : lo ≤ i
    · rw [decide_eq_true h1, Bool.true_and] at h
      rw [if_pos h1]
      exact end_none (by simp [below]) h
    · rw [decide_eq_false h1, Bool.false_and] at h
      rw [if_neg h1]
      exact end_none (by simp [below]) h
theorem call_nin {S : Store} {d : D} {lo hi : Int} {post : DK} (hd : okT d = true) (h : post (.bl (numIn lo hi d)) S) : callD sp_number_within [d, .int lo, .int hi] S post :=
  call_pure (by simp [belows, okT0 hd, below]) ⟨d, lo, hi, rfl, rfl, hd, by simpa [ren] using h⟩
theorem ok_number_within {P : Program} {w : World} {K : PySem.W.Frag} {mg : Str → Option Value} {base : Heap} {f : Addr} {fd : FuncData} (F : Fun K "number_within" "number_within" s_number_within f fd) (W : Bl mg) :
    FnG P w K mg base CX0 1 f fd ["thing", "low", "high"] (spL K sp_number_within) := by
  refine fn_okG (tb := b_number_within) F sc_number_within len_number_within (fun cdv A outer s H E hgd hr => ?_) hd_number_within
  have sc := sc_number_within
  have hu := hr.units
  have hu1 := Nat.lt_of_le_of_lt (Nat.add_le_add_left (show 1 ≤ 64 by decide) _) hu
  have hu65 := units65 hr
  exact (dss_one (ds_ret (de_and (de_tyIs (de_var 0) (by rfl) W.type_ (by rfl) W.int_ (by rfl)) (de_one (de_chain op_le rul_le op_le rul_le (de_var 1) (de_var 0) (de_var 2))))))
def tupIn (lo hi : Int) : D → Bool
  | .tup xs => decide (lo ≤ (xs.length : Int)) && decide ((xs.length : Int) ≤ hi)
  | _ => false
theorem tupIn_true {lo hi : Int} {d : D} (h : tupIn lo hi d = true) : ∃ xs, d = .tup xs ∧ lo ≤ (xs.length : Int) ∧ (xs.length : Int) ≤ hi := by
  cases d <;> first | (simp [tupIn] at h; exact ⟨_, rfl, h.1, h.2⟩) | (simp [tupIn] at h)
def b_tuple_sized : DS :=
  (dRet (dAndV (dIsTy "tuple" (dVar 0)) (dChain oLe oLe (dVar 1) (dCB cLen (dCons (dVar 0) dNil)) (dVar 2))))
def sp_tuple_sized : DSp := fun ds S post => ∃ d lo hi, ds = [d, .int lo, .int hi] ∧ S = [] ∧ okT d = true ∧ post (.bl (tupIn lo hi d)) []
theorem len_tuple_sized : ∀ ds S post, sp_tuple_sized ds S post → ds.length = 3 := by
  rintro _ _ _ ⟨_, _, _, rfl, _⟩
  rfl
theorem hd_tuple_sized : ∀ ds S post, sp_tuple_sized ds S post → b_tuple_sized (endsD S post) (startD ["thing", "low", "high"] ds) S := by
  rintro ds S post ⟨d, lo, hi, rfl, rfl, hd, h⟩
  unfold b_tuple_sized
  walk_at "dgo"
  refine ⟨_, okT_ty hd, ?_⟩
  cases d <;> simp [okT] at hd
  · exact ⟨false, kNt, end_none (by simp [below]) h⟩
  · exact ⟨false, kBt, end_none (by simp [below]) h⟩
  · exact ⟨false, kIt, end_none (by simp [below]) h⟩
  · exact ⟨false, kSt, end_none (by simp [below]) h⟩
  · rename_i xs
    refine ⟨true, kTt, ?_⟩
    rw [if_pos (by first | decide | simp)]
    try walk_at "dgo"
    rw [tupIn] at h
    by_cases h1 : lo ≤ (xs.length : Int)
    · rw [decide_eq_true h1, Bool.true_and] at h
      rw [if_pos h1]
      exact end_none (by simp [below]) h
    · rw [decide_eq_false h1, Bool.false_and] at h
      rw [if_neg h1]
      exact end_none (by simp [below]) h
theorem call_tsz {S : Store} {d : D} {lo hi : Int} {post : DK} (hd : okT d = true) (h : post (.bl (tupIn lo hi d)) S) : callD sp_tuple_sized [d, .int lo, .int hi] S post :=
  call_pure (by simp [belows, okT0 hd, below]) ⟨d, lo, hi, rfl, rfl, hd, by simpa [ren] using h⟩
theorem ok_tuple_sized {P : Program} {w : World} {K : PySem.W.Frag} {mg : Str → Option Value} {base : Heap} {f : Addr} {fd : FuncData} (F : Fun K "tuple_sized" "tuple_sized" s_tuple_sized f fd) (W : Bl mg) :
    FnG P w K mg base CX0 1 f fd ["thing", "low", "high"] (spL K sp_tuple_sized) := by
  refine fn_okG (tb := b_tuple_sized) F sc_tuple_sized len_tuple_sized (fun cdv A outer s H E hgd hr => ?_) hd_tuple_sized
  have sc := sc_tuple_sized
  have hu := hr.units
  have hu1 := Nat.lt_of_le_of_lt (Nat.add_le_add_left (show 1 ≤ 64 by decide) _) hu
  have hu65 := units65 hr
  exact (dss_one (ds_ret (de_and (de_isTy (de_var 0) (by rfl) W.isinstance_ (by rfl) W.tuple_ (by rfl)) (de_one (de_chain op_le rul_le op_le rul_le (de_var 1) (de_callB call_len_seq rul_len (by rfl) W.len_ PySem.boot_len (da_cons (de_var 0) da_nil)) (de_var 2))))))
/-! the first index at which something fails -/
def fstN (f : Nat → D → Bool) (xs : List D) : Option Int := ((List.range xs.length).find? (fun i => !f i (xs.getD i .non))).map fun i : Nat => (i : Int)
theorem range_find {p : Nat → Bool} : ∀ {n i : Nat}, i < n → (∀ j, j < i → p j = false) → p i = true → (List.range n).find? p = some i
  | 0, _, h, _, _ => by omega
  | n + 1, i, h, h1, h2 => by
    rw [List.range_succ, List.find?_append]
    by_cases hi : i < n
    · rw [range_find hi h1 h2]
      rfl
    · have e : i = n := by omega
      subst e
      have : (List.range i).find? p = none := List.find?_eq_none.mpr fun j hj => by
        rw [List.mem_range] at hj
        rw [h1 j hj]
        decide
      rw [this, Option.none_or, List.find?_cons_of_pos h2]
theorem fstN_at {f : Nat → D → Bool} {xs : List D} {i : Nat} {d : D} (hd : xs[i]? = some d) (h1 : ∀ j, j < i → f j (xs.getD j .non) = true) (h2 : f i d = false) : fstN f xs = some (i : Int) := by
  have hi := (List.getElem?_eq_some_iff.mp hd).1
  unfold fstN
  rw [range_find (i := i) hi (fun j hj => by rw [h1 j hj]; rfl) (by rw [List.getD_eq_getElem?_getD, hd]; show (!f i d) = true; rw [h2]; rfl)]
  rfl
theorem fstN_none {f : Nat → D → Bool} {xs : List D} (h : ∀ j, j < xs.length → f j (xs.getD j .non) = true) : fstN f xs = none := by
  unfold fstN
  have : (List.range xs.length).find? (fun i => !f i (xs.getD i .non)) = none := List.find?_eq_none.mpr fun j hj => by
    rw [List.mem_range] at hj
    rw [h j hj]
    decide
  rw [this]
  rfl
theorem fstN_all {f : Nat → D → Bool} {xs : List D} (h : fstN f xs = none) {j : Nat} {d : D} (hd : xs[j]? = some d) : f j d = true := by
  have hj := (List.getElem?_eq_some_iff.mp hd).1
  unfold fstN at h
  rw [Option.map_eq_none_iff] at h
  have := List.find?_eq_none.mp h j (List.mem_range.mpr hj)
  rw [List.getD_eq_getElem?_getD, hd] at this
  simpa using this
theorem fstN_ge {f : Nat → D → Bool} {xs : List D} {k : Int} (h : fstN f xs = some k) : 0 ≤ k ∧ k < xs.length := by
  unfold fstN at h
  rw [Option.map_eq_some_iff] at h
  obtain ⟨i, hi, rfl⟩ := h
  have := List.mem_range.mp (List.mem_of_find?_eq_some hi)
  omega
def optI : Option Int → D
  | some i => .int i
  | none => .non
theorem optI_below (o : Option Int) : below 0 (optI o) = true := by cases o <;> simp [optI, below]
theorem go_isN {neg : Bool} {o : Option Int} {S : Store} {post : DK} : oIsN neg (optI o) .non S post ↔ post (.bl (neg ^^ o.isNone)) S := by cases o <;> exact Iff.rfl
theorem getD_of {α : Type} {xs : List α} {i : Nat} {d z : α} (h : xs[i]? = some d) : xs.getD i z = d := by rw [List.getD_eq_getElem?_getD, h]; rfl
theorem drop_cons {α : Type} {xs : List α} {i : Nat} {d : α} (h : xs[i]? = some d) : xs.drop i = d :: xs.drop (i + 1) := by
  obtain ⟨hi, rfl⟩ := List.getElem?_eq_some_iff.mp h
  exact List.drop_eq_getElem_cons hi
/-! sizes_fault, is_sizes, made_sizes -/
def sizesF (d : D) : Option Int := if tupIn 1 24 d = true then fstN (fun _ x => numIn 1 6 x) (partsD d) else some (-1)
def b_sizes_fault : DS :=
  (dSeq (dIfS (dNot (dTest (dCall sp_tuple_sized (dCons (dVar 0) (dCons (dC (.int 1)) (dCons (dC (.int 24)) dNil)))))) (dRet (dUn oNeg (dC (.int 1)))) dNext)
    (dSeq (dFor (wEnum1 (dCons (dVar 0) dNil)) (gTup 2 (gCons (gName 1) (gCons (gName 2) gNil))) (dIfS (dNot (dTest (dCall sp_number_within (dCons (dVar 2) (dCons (dC (.int 1)) (dCons (dC (.int 6)) dNil)))))) (dRet (dVar 1)) dNext))
    (dRet (dC .non))))
def sp_sizes_fault : DSp := fun ds S post => ∃ d, ds = [d] ∧ S = [] ∧ okT d = true ∧ post (optI (sizesF d)) []
theorem len_sizes_fault : ∀ ds S post, sp_sizes_fault ds S post → ds.length = 1 := by
  rintro _ _ _ ⟨_, rfl, _⟩
  rfl
theorem hd_sizes_fault : ∀ ds S post, sp_sizes_fault ds S post → b_sizes_fault (endsD S post) (startD ["thing", "index", "many"] ds) S := by
  rintro ds S post ⟨d, rfl, rfl, hd, h⟩
  unfold b_sizes_fault
  walk_at "dgo"
  refine call_tsz hd ?_
  walk_at "dgo"
  cases ht : tupIn 1 24 d with
  | false =>
    have e : sizesF d = some (-1) := by unfold sizesF; rw [ht]; rfl
    rw [e] at h
    rw [if_pos (by first | decide | simp)]
    exact end_none (by simp [below]) h
  | true =>
    obtain ⟨xs, rfl, h1, h2⟩ := tupIn_true ht
    have e : sizesF (.tup xs) = fstN (fun _ x => numIn 1 6 x) xs := by unfold sizesF; rw [ht]; rfl
    rw [e] at h
    rw [if_neg (by decide)]
    rw [okT, okTs_iff] at hd
    refine ⟨xs, seqOf_tup.mpr rfl, by omega, for_inv (fun i ρ S => ∃ a b, ρ = [some (.tup xs), a, b] ∧ S = [] ∧ ∀ j, j < i → numIn 1 6 (xs.getD j .non) = true) ⟨none, none, rfl, rfl, fun j hj => by omega⟩ (fun _ _ _ _ _ => seqOf_tup.mpr rfl) (fun i d ρ S hdi hI => ?_) fun ρ S hI => ?_⟩
    · obtain ⟨a, b, rfl, rfl, hI⟩ := hI
      obtain ⟨x, hx, rfl⟩ := enum1D_get hdi
      try walk_at "dgo"
      refine call_nin (hd x (List.mem_of_getElem? hx)) ?_
      try walk_at "dgo"
      cases hn : numIn 1 6 x with
      | false =>
        rw [fstN_at hx hI hn] at h
        rw [if_pos (by first | decide | simp)]
        exact end_none (by simp [below]) h
      | true =>
        rw [if_neg (by decide)]
        refine ⟨⟨_, _, rfl⟩, fun j hj => ?_⟩
        by_cases e : j = i
        · subst e
          rw [getD_of hx]
          exact hn
        · exact hI j (by omega)
    · obtain ⟨a, b, rfl, rfl, hI⟩ := hI
      rw [enum1D_len] at hI
      rw [fstN_none hI] at h
      try walk_at "dgo"
      exact end_none (by simp [below]) h
theorem call_sizesF {S : Store} {d : D} {post : DK} (hd : okT d = true) (h : post (optI (sizesF d)) S) : callD sp_sizes_fault [d] S post :=
  call_pure (by simp [belows, okT0 hd]) ⟨d, rfl, rfl, hd, ren0 (optI_below _) h⟩
theorem ok_sizes_fault {P : Program} {w : World} {K : PySem.W.Frag} {mg : Str → Option Value} {base : Heap} {f : Addr} {fd : FuncData} (F : Fun K "sizes_fault" "sizes_fault" s_sizes_fault f fd) (W : Bl mg) (Z : Cst mg) (C_number_within : CalG P w K mg base 1 "number_within" sp_number_within) (C_tuple_sized : CalG P w K mg base 1 "tuple_sized" sp_tuple_sized) :
    FnG P w K mg base CX0 2 f fd ["thing"] (spL K sp_sizes_fault) := by
  refine fn_okG (tb := b_sizes_fault) F sc_sizes_fault len_sizes_fault (fun cdv A outer s H E hgd hr => ?_) hd_sizes_fault
  have sc := sc_sizes_fault
  have hu := hr.units
  have hu1 := Nat.lt_of_le_of_lt (Nat.add_le_add_left (show 1 ≤ 64 by decide) _) hu
  have hu65 := units65 hr
  exact (dss_cons (ds_if (dt_not (dt_val (de_cal C_tuple_sized hgd hr (by decide) (by rfl) (da_cons (de_var 0) (da_cons de_int (da_cons (de_gint (by rfl) Z.c_MOST_SETTINGS) da_nil)))))) (dss_one (ds_ret (de_un un_neg rul_neg de_int))) dss_nil)
      (dss_cons (ds_for PassesOwn.never rfl (di_enum1 (by rfl) W.enumerate_ (da_cons (de_var 0) da_nil)) (dg_tup rfl (dgs_cons (dg_name 1 sc.nd) (dgs_cons (dg_name 2 sc.nd) dgs_nil))) (dss_one (ds_if (dt_not (dt_val (de_cal C_number_within hgd hr (by decide) (by rfl) (da_cons (de_var 2) (da_cons de_int (da_cons (de_gint (by rfl) Z.c_MOST_WORTHS) da_nil)))))) (dss_one (ds_ret (de_var 1))) dss_nil)))
      (dss_one (ds_ret de_non))))
def Sizes24 (zs : List Int) : Prop := 1 ≤ zs.length ∧ zs.length ≤ 24 ∧ ∀ z ∈ zs, 1 ≤ z ∧ z ≤ 6
def intsD (d : D) : List Int := (partsD d).map fun | .int i => i | _ => 0
theorem numIn_int {lo hi : Int} {d : D} (h : numIn lo hi d = true) : ∃ i, d = .int i ∧ lo ≤ i ∧ i ≤ hi := by
  cases d <;> first | (simp [numIn] at h; exact ⟨_, rfl, h.1, h.2⟩) | (simp [numIn] at h)
theorem all_ints : ∀ {xs : List D}, (∀ d ∈ xs, ∃ i, d = D.int i) → xs = (xs.map fun | .int i => i | _ => 0).map D.int
  | [], _ => rfl
  | d :: xs, h => by
    obtain ⟨i, rfl⟩ := h d List.mem_cons_self
    rw [List.map_cons, List.map_cons, ← all_ints fun e he => h e (List.mem_cons_of_mem _ he)]
theorem sizesF_none {d : D} (h : sizesF d = none) : d = tI (intsD d) ∧ Sizes24 (intsD d) := by
  unfold sizesF at h
  cases ht : tupIn 1 24 d with
  | false =>
    rw [ht] at h
    simp at h
  | true =>
    rw [ht, if_pos rfl] at h
    obtain ⟨xs, rfl, h1, h2⟩ := tupIn_true ht
    have hall : ∀ x ∈ xs, ∃ i, x = .int i ∧ 1 ≤ i ∧ i ≤ 6 := fun x hx => by
      obtain ⟨j, hj⟩ := List.mem_iff_getElem?.mp hx
      exact numIn_int (fstN_all (f := fun _ x => numIn 1 6 x) h hj)
    have e : xs = (intsD (.tup xs)).map D.int := all_ints fun x hx => let ⟨i, hi, _⟩ := hall x hx; ⟨i, hi⟩
    refine ⟨?_, ?_, ?_, fun z hz => ?_⟩
    · unfold tI
      rw [← e]
    · unfold intsD
      rw [List.length_map]
      show 1 ≤ xs.length
      omega
    · unfold intsD
      rw [List.length_map]
      show xs.length ≤ 24
      omega
    · have : D.int z ∈ xs := by
        rw [e]
        exact List.mem_map.mpr ⟨z, hz, rfl⟩
      obtain ⟨i, hi, a, b⟩ := hall _ this
      cases hi
      exact ⟨a, b⟩
theorem okT_tI (zs : List Int) : okT (tI zs) = true := by
  unfold tI
  rw [okT, okTs_iff]
  intro d hd
  obtain ⟨i, _, rfl⟩ := List.mem_map.mp hd
  rfl
theorem sizesF_tI {zs : List Int} (h : Sizes24 zs) : sizesF (tI zs) = none := by
  unfold sizesF
  have : tupIn 1 24 (tI zs) = true := by
    obtain ⟨h1, h2, _⟩ := h
    simp only [tI, tupIn, List.length_map, Bool.and_eq_true, decide_eq_true_eq]
    omega
  rw [if_pos this]
  refine fstN_none fun j hj => ?_
  simp only [tI, partsD, List.length_map] at hj ⊢
  rw [getD_of (d := .int zs[j]) (by rw [List.getElem?_map, List.getElem?_eq_getElem hj]; rfl)]
  have := h.2.2 zs[j] (List.getElem_mem hj)
  simp only [numIn, Bool.and_eq_true, decide_eq_true_eq]
  exact this
theorem call_pureX {sp : DSpX} {ds : List D} {S : Store} {post : DK} {ex : Value → D → Store → Prop} (hb : belows 0 ds = true) (h : sp ds [] (fun d S' => post (ren (fun i => S.length + i) d) (S ++ S'.map (renE fun i => S.length + i))) fun c d S' => ex c (ren (fun i => S.length + i) d) (S ++ S'.map (renE fun i => S.length + i))) : callDX sp ds S post ex := by
  have e : rn [] S.length = fun i => S.length + i := by
    funext i
    simp [rn]
  refine ⟨[], ds, [], List.nodup_nil, rens_belows _ ds hb, rfl, fun i n e h1 _ => by simp at h1, ?_⟩
  rw [e]
  exact h
def b_made_sizes (K : PySem.W.Frag) (cl : CL) : DS :=
  (dSeq (dAsg (dCall sp_sizes_fault (dCons (dVar 0) dNil)) (gName 1))
    (dSeq (dIfS (dTest (dOp (oIsN true) (dVar 1) (dC .non))) (dRaise cl.c_BadSizes (dVar 1)) dNext)
    (dRet (dVar 0))))
def sp_made_sizes (cl : CL) : DSpX := fun ds S post ex => ∃ d, ds = [d] ∧ S = [] ∧ okT d = true ∧ (sizesF d = none → post d []) ∧ ∀ k, sizesF d = some k → ex (.ref cl.c_BadSizes) (.int k) []
theorem len_made_sizes {cl : CL} : ∀ ds S post ex, sp_made_sizes cl ds S post ex → ds.length = 1 := by
  rintro _ _ _ _ ⟨_, rfl, _⟩
  rfl
theorem hd_made_sizes {K : PySem.W.Frag} {cl : CL} (hC : Clf K cl) : ∀ ds S post ex, sp_made_sizes cl ds S post ex → b_made_sizes K cl (endsX S post ex) (startD ["thing", "fault"] ds) S := by
  rintro ds S post ex ⟨d, rfl, rfl, hd, h1, h2⟩
  unfold b_made_sizes
  walk_at "dgo"
  refine call_sizesF hd (go_isN.mpr ?_)
  try walk_at "dgo"
  cases hs : sizesF d with
  | none =>
    rw [if_neg (by decide)]
    exact end_none (okT0 hd) (h1 hs)
  | some k =>
    rw [if_pos (by first | decide | simp)]
    exact end_none (by simp [optI, below]) (h2 k hs)
theorem callx_sizes {cl : CL} {d : D} {S : Store} {post : DK} {ex : Value → D → Store → Prop} (hd : okT d = true) (h1 : sizesF d = none → post d S) (h2 : ∀ k, sizesF d = some k → ex (.ref cl.c_BadSizes) (.int k) S) : callDX (sp_made_sizes cl) [d] S post ex :=
  call_pureX (by simp [belows, okT0 hd]) ⟨d, rfl, rfl, hd, fun q => ren0 (okT0 hd) (h1 q), fun k q => by simpa [ren] using h2 k q⟩
theorem ok_made_sizes {P : Program} {w : World} {K : PySem.W.Frag} {mg : Str → Option Value} {base : Heap} {f : Addr} {fd : FuncData} (F : Fun K "made_sizes" "made_sizes" s_made_sizes f fd) (W : Bl mg) (cl : CL) (M : Clm mg cl) (hC : Clf K cl) (C_sizes_fault : CalG P w K mg base 2 "sizes_fault" sp_sizes_fault) (R_BadSizes : RaiC P w K mg base "BadSizes" cl.c_BadSizes) :
    FnG P w K mg base (L2.CX P w) 3 f fd ["thing"] (spLX K (sp_made_sizes cl)) := by
  refine fn_okX (tb := b_made_sizes K cl) F sc_made_sizes len_made_sizes (fun cdv A outer s H E hgd hr => ?_) (hd_made_sizes hC)
  have sc := sc_made_sizes
  have hu := hr.units
  have hu1 := Nat.lt_of_le_of_lt (Nat.add_le_add_left (show 1 ≤ 64 by decide) _) hu
  have hu65 := units65 hr
  have tk := takes_of (X := cxOf (L2.CX P w) P w K mg base ["thing", "fault"] "made_sizes" (defScope s_made_sizes) f cdv A outer s H E) (E := E) rfl rfl rfl rfl
  exact (dss_cons (ds_set 1 sc.nd (de_cal C_sizes_fault hgd hr (by decide) (by rfl) (da_cons (de_var 0) da_nil)))
      (dss_cons (ds_if (dt_cmp op_notN rul_notN (de_var 1) de_non (nomark _)) (dss_one (ds_rai R_BadSizes rfl hr (by decide) tk (by rfl) (de_var 1))) dss_nil)
      (dss_one (ds_ret (de_var 0)))))
/-! setting_of, worth_of -/
theorem numIn_lt {i n : Int} : numIn 0 (n - 1) (.int i) = (decide (0 ≤ i) && decide (i < n)) := by
  rw [numIn]
  congr 1
  by_cases h : i < n
  · rw [decide_eq_true h, decide_eq_true (by omega)]
  · rw [decide_eq_false h, decide_eq_false (by omega)]
def b_setting_of : DS :=
  (dRet (dAndV (dTyIs "int" (dVar 1)) (dChain oLe oLt (dC (.int 0)) (dVar 1) (dCB cLen (dCons (dVar 0) dNil)))))
def sp_setting_of : DSp := fun ds S post => ∃ (zs : List Int) (d : D), ds = [tI zs, d] ∧ S = [] ∧ okT d = true ∧ post (.bl (numIn 0 ((zs.length : Int) - 1) d)) []
theorem len_setting_of : ∀ ds S post, sp_setting_of ds S post → ds.length = 2 := by
  rintro _ _ _ ⟨_, _, rfl, _⟩
  rfl
theorem hd_setting_of : ∀ ds S post, sp_setting_of ds S post → b_setting_of (endsD S post) (startD ["sizes", "thing"] ds) S := by
  rintro ds S post ⟨zs, d, rfl, rfl, hd, h⟩
  unfold b_setting_of
  walk_at "dgo"
  refine ⟨_, okT_ty hd, ?_⟩
  cases hi : isInt d with
  | false =>
    rw [if_neg (tyN_no hi)]
    cases d <;> first | exact end_none (by simp [below]) h | cases hi
  | true =>
    cases d <;> first | cases hi | skip
    rename_i i
    rw [if_pos (show tyN (.int i) = "int" from rfl)]
    try walk_at "dgo"
    rw [numIn_lt] at h
    by_cases h1 : 0 ≤ i
    · rw [decide_eq_true h1, Bool.true_and] at h
      rw [if_pos h1]
      exact end_none (by simp [below]) h
    · rw [decide_eq_false h1, Bool.false_and] at h
      rw [if_neg h1]
      exact end_none (by simp [below]) h
theorem call_sof {S : Store} {zs : List Int} {d : D} {post : DK} (hd : okT d = true) (h : post (.bl (numIn 0 ((zs.length : Int) - 1) d)) S) : callD sp_setting_of [tI zs, d] S post :=
  call_pure (by simp [belows, okT0 hd, below_tI]) ⟨zs, d, rfl, rfl, hd, by simpa [ren] using h⟩
theorem ok_setting_of {P : Program} {w : World} {K : PySem.W.Frag} {mg : Str → Option Value} {base : Heap} {f : Addr} {fd : FuncData} (F : Fun K "setting_of" "setting_of" s_setting_of f fd) (W : Bl mg) :
    FnG P w K mg base CX0 1 f fd ["sizes", "thing"] (spL K sp_setting_of) := by
  refine fn_okG (tb := b_setting_of) F sc_setting_of len_setting_of (fun cdv A outer s H E hgd hr => ?_) hd_setting_of
  have sc := sc_setting_of
  have hu := hr.units
  have hu1 := Nat.lt_of_le_of_lt (Nat.add_le_add_left (show 1 ≤ 64 by decide) _) hu
  have hu65 := units65 hr
  exact (dss_one (ds_ret (de_and (de_tyIs (de_var 1) (by rfl) W.type_ (by rfl) W.int_ (by rfl)) (de_one (de_chain op_le rul_le op_lt rul_lt de_int (de_var 1) (de_callB call_len_seq rul_len (by rfl) W.len_ PySem.boot_len (da_cons (de_var 0) da_nil)))))))
def b_worth_of : DS :=
  (dRet (dAndV (dTyIs "int" (dVar 2)) (dChain oLe oLt (dC (.int 0)) (dVar 2) (dOp oIx (dVar 0) (dVar 1)))))
def sp_worth_of : DSp := fun ds S post => ∃ (zs : List Int) (s : Int) (d : D), ds = [tI zs, .int s, d] ∧ S = [] ∧ okT d = true ∧ 0 ≤ s ∧ s < zs.length ∧ post (.bl (numIn 0 (zs.getD s.toNat 0 - 1) d)) []
theorem len_worth_of : ∀ ds S post, sp_worth_of ds S post → ds.length = 3 := by
  rintro _ _ _ ⟨_, _, _, rfl, _⟩
  rfl
theorem hd_worth_of : ∀ ds S post, sp_worth_of ds S post → b_worth_of (endsD S post) (startD ["sizes", "setting", "thing"] ds) S := by
  rintro ds S post ⟨zs, s, d, rfl, rfl, hd, h1, h2, h⟩
  unfold b_worth_of
  walk_at "dgo"
  have hs : s.toNat < zs.length := by omega
  rw [getD_of (List.getElem?_eq_getElem hs)] at h
  refine ⟨_, okT_ty hd, ?_⟩
  cases hi : isInt d with
  | false =>
    rw [if_neg (tyN_no hi)]
    cases d <;> first | exact end_none (by simp [below]) h | cases hi
  | true =>
    cases d <;> first | cases hi | skip
    rename_i i
    rw [if_pos (show tyN (.int i) = "int" from rfl)]
    try walk_at "dgo"
    rw [numIn_lt] at h
    by_cases h1' : 0 ≤ i
    · rw [decide_eq_true h1', Bool.true_and] at h
      rw [if_pos h1']
      refine ⟨.int zs[s.toNat], atI_of h1 (by rw [List.getElem?_map, List.getElem?_eq_getElem hs]; rfl), ?_⟩
      try walk_at "dgo"
      exact end_none (by simp [below]) h
    · rw [decide_eq_false h1', Bool.false_and] at h
      rw [if_neg h1']
      exact end_none (by simp [below]) h
theorem call_wof {S : Store} {zs : List Int} {s : Int} {d : D} {post : DK} (hd : okT d = true) (h1 : 0 ≤ s) (h2 : s < zs.length) (h : post (.bl (numIn 0 (zs.getD s.toNat 0 - 1) d)) S) : callD sp_worth_of [tI zs, .int s, d] S post :=
  call_pure (by simp [belows, okT0 hd, below_tI, below]) ⟨zs, s, d, rfl, rfl, hd, h1, h2, by simpa [ren] using h⟩
theorem ok_worth_of {P : Program} {w : World} {K : PySem.W.Frag} {mg : Str → Option Value} {base : Heap} {f : Addr} {fd : FuncData} (F : Fun K "worth_of" "worth_of" s_worth_of f fd) (W : Bl mg) :
    FnG P w K mg base CX0 1 f fd ["sizes", "setting", "thing"] (spL K sp_worth_of) := by
  refine fn_okG (tb := b_worth_of) F sc_worth_of len_worth_of (fun cdv A outer s H E hgd hr => ?_) hd_worth_of
  have sc := sc_worth_of
  have hu := hr.units
  have hu1 := Nat.lt_of_le_of_lt (Nat.add_le_add_left (show 1 ≤ 64 by decide) _) hu
  have hu65 := units65 hr
  exact (dss_one (ds_ret (de_and (de_tyIs (de_var 2) (by rfl) W.type_ (by rfl) W.int_ (by rfl)) (de_one (de_chain op_le rul_le op_lt rul_lt de_int (de_var 2) (de_ix ix_seq rul_ix (de_var 0) (de_var 1)))))))
--@@split
/-! has_worth, edit_fault, is_edit -/
def hasW (zs : List Int) : D → Bool
  | .tup [.int s, b] => decide (0 ≤ s) && decide (s ≤ (zs.length : Int) - 1) && numIn 0 (zs.getD s.toNat 0 - 1) b
  | _ => false
def stg : D → Int
  | .tup (.int s :: _) => s
  | _ => 0
def b_has_worth : DS :=
  (dRet (dAndV (dCall sp_plain_pair (dCons (dVar 1) dNil)) (dAndV (dCall sp_setting_of (dCons (dVar 0) (dCons (dOp oIx (dVar 1) (dC (.int 0))) dNil))) (dCall sp_worth_of (dCons (dVar 0) (dCons (dOp oIx (dVar 1) (dC (.int 0))) (dCons (dOp oIx (dVar 1) (dC (.int 1))) dNil)))))))
def sp_has_worth : DSp := fun ds S post => ∃ (zs : List Int) (d : D), ds = [tI zs, d] ∧ S = [] ∧ okT d = true ∧ post (.bl (hasW zs d)) []
theorem len_has_worth : ∀ ds S post, sp_has_worth ds S post → ds.length = 2 := by
  rintro _ _ _ ⟨_, _, rfl, _⟩
  rfl
theorem isPr_two {d : D} (h : isPr d = true) : ∃ a b, d = .tup [a, b] := by
  cases d <;> simp [isPr] at h
  rename_i xs
  match xs, h with
  | [a, b], _ => exact ⟨a, b, rfl⟩
theorem hasW_pr {zs : List Int} {d : D} (h : isPr d = false) : hasW zs d = false := by
  unfold hasW
  split
  · simp [isPr] at h
  · rfl
theorem hasW_two {zs : List Int} {a b : D} : hasW zs (.tup [a, b]) = (numIn 0 ((zs.length : Int) - 1) a && numIn 0 (zs.getD (stg (.tup [a, b])).toNat 0 - 1) b) := by
  cases a <;> simp [hasW, numIn, stg]
theorem hd_has_worth : ∀ ds S post, sp_has_worth ds S post → b_has_worth (endsD S post) (startD ["sizes", "thing"] ds) S := by
  rintro ds S post ⟨zs, d, rfl, rfl, hd, h⟩
  unfold b_has_worth
  walk_at "dgo"
  refine call_pair hd ?_
  walk_at "dgo"
  cases hp : isPr d with
  | false =>
    rw [hasW_pr hp] at h
    rw [if_neg (by decide)]
    exact end_none (by simp [below]) h
  | true =>
    rw [if_pos (by first | decide | simp)]
    obtain ⟨a, b, rfl⟩ := isPr_two hp
    rw [hasW_two] at h
    rw [okT, okTs_iff] at hd
    have ha := hd a (by simp)
    have hb := hd b (by simp)
    walk_at "dgo"
    refine call_sof ha ?_
    try walk_at "dgo"
    cases hn : numIn 0 ((zs.length : Int) - 1) a with
    | false =>
      rw [hn, Bool.false_and] at h
      rw [if_neg (by decide)]
      exact end_none (by simp [below]) h
    | true =>
      rw [hn, Bool.true_and] at h
      rw [if_pos (by first | decide | simp)]
      obtain ⟨s, rfl, h1, h2⟩ := numIn_int hn
      try walk_at "dgo"
      exact call_wof hb h1 (by omega) (end_none (by simp [below]) h)
theorem call_hasW {S : Store} {zs : List Int} {d : D} {post : DK} (hd : okT d = true) (h : post (.bl (hasW zs d)) S) : callD sp_has_worth [tI zs, d] S post :=
  call_pure (by simp [belows, okT0 hd, below_tI]) ⟨zs, d, rfl, rfl, hd, by simpa [ren] using h⟩
theorem ok_has_worth {P : Program} {w : World} {K : PySem.W.Frag} {mg : Str → Option Value} {base : Heap} {f : Addr} {fd : FuncData} (F : Fun K "has_worth" "has_worth" s_has_worth f fd) (W : Bl mg) (C_plain_pair : CalG P w K mg base 1 "plain_pair" sp_plain_pair) (C_setting_of : CalG P w K mg base 1 "setting_of" sp_setting_of) (C_worth_of : CalG P w K mg base 1 "worth_of" sp_worth_of) :
    FnG P w K mg base CX0 2 f fd ["sizes", "thing"] (spL K sp_has_worth) := by
  refine fn_okG (tb := b_has_worth) F sc_has_worth len_has_worth (fun cdv A outer s H E hgd hr => ?_) hd_has_worth
  have sc := sc_has_worth
  have hu := hr.units
  have hu1 := Nat.lt_of_le_of_lt (Nat.add_le_add_left (show 1 ≤ 64 by decide) _) hu
  have hu65 := units65 hr
  exact (dss_one (ds_ret (de_and (de_cal C_plain_pair hgd hr (by decide) (by rfl) (da_cons (de_var 1) da_nil)) (de_and (de_cal C_setting_of hgd hr (by decide) (by rfl) (da_cons (de_var 0) (da_cons (de_ix ix_seq rul_ix (de_var 1) de_int) da_nil))) (de_one (de_cal C_worth_of hgd hr (by decide) (by rfl) (da_cons (de_var 0) (da_cons (de_ix ix_seq rul_ix (de_var 1) de_int) (da_cons (de_ix ix_seq rul_ix (de_var 1) de_int) da_nil)))))))))
theorem hasW_true {zs : List Int} {d : D} (h : hasW zs d = true) : ∃ s w z : Int, d = dE (s, w) ∧ 0 ≤ s ∧ s < zs.length ∧ zs[s.toNat]? = some z ∧ 0 ≤ w ∧ w < z := by
  unfold hasW at h
  split at h
  · rename_i s b
    rw [Bool.and_eq_true, Bool.and_eq_true, decide_eq_true_eq, decide_eq_true_eq] at h
    obtain ⟨⟨h1, h2⟩, h3⟩ := h
    obtain ⟨w, rfl, h4, h5⟩ := numIn_int h3
    have hs : s.toNat < zs.length := by omega
    have hz := List.getElem?_eq_getElem hs
    rw [getD_of hz] at h5
    exact ⟨s, w, _, rfl, h1, by omega, hz, h4, by omega⟩
  · cases h
--@@split
/-! rises, of a tuple or a list -/
def risesI (xs : List Int) : Bool := (List.range (xs.length - 1)).all fun i => decide (xs.getD i 0 < xs.getD (i + 1) 0)
/-- all([..]) of what a comprehension makes -/
theorem map_bl {n : Nat} {f : Nat → Bool} : ((List.range n).map f).map D.bl = (List.range n).map fun i => D.bl (f i) := by
  rw [List.map_map]
  rfl
theorem all_id_map {n : Nat} {f : Nat → Bool} : ((List.range n).map f).all id = (List.range n).all f := by
  rw [List.all_map]
  rfl
theorem go_all {n : Nat} {f : Nat → Bool} {S : Store} {post : DK} (h : post (.bl ((List.range n).all f)) (S ++ [.lst ((List.range n).map fun i => D.bl (f i))])) : cAll [.lr S.length] (S ++ [.lst ((List.range n).map fun i => D.bl (f i))]) post :=
  ⟨_, (List.range n).map f, rfl, seqOf_lr.mpr (by rw [map_bl, List.getElem?_append_right (Nat.le_refl _), Nat.sub_self]; rfl), (fun _ q => nomatch q), by rw [all_id_map]; exact h⟩
theorem range_all {α : Type} (f : α → Bool) (z : α) : ∀ xs : List α, (List.range xs.length).all (fun i => f (xs.getD i z)) = xs.all f := by
  intro xs
  have e : (List.range xs.length).map (fun i => xs.getD i z) = xs := by
    refine List.ext_getElem (by simp) fun i h1 h2 => ?_
    simp
    rw [List.getElem?_eq_getElem h2]
    rfl
  conv => rhs; rw [← e]
  rw [List.all_map]
  rfl
theorem risesI_true {xs : List Int} (h : ∀ j, j < xs.length - 1 → xs.getD j 0 < xs.getD (j + 1) 0) : risesI xs = true := by
  unfold risesI
  rw [List.all_eq_true]
  intro i hi
  exact decide_eq_true (h i (List.mem_range.mp hi))
theorem risesI_false {xs : List Int} {i : Nat} (hi : i < xs.length - 1) (h : xs.getD (i + 1) 0 ≤ xs.getD i 0) : risesI xs = false := by
  unfold risesI
  rw [List.all_eq_false]
  exact ⟨i, List.mem_range.mpr hi, by rw [decide_eq_false (by omega)]; decide⟩
def b_rises : DS :=
  (dSeq (dFor (wZip2 (dCons (dVar 0) (dCons (dSl (dVar 0) (dPart (dC (.int 1))) dNoPart) dNil))) (gTup 2 (gCons (gName 1) (gCons (gName 2) gNil))) (dIfS (dTest (dOp oGe (dVar 1) (dVar 2))) (dRet (dC (.bl false))) dNext))
    (dRet (dC (.bl true))))
def sp_rises : DSp := fun ds S post => ∃ (x : D) (xs : List Int), ds = [x] ∧ (x = tI xs ∧ S = [] ∨ x = .lr 0 ∧ S = [.lst (xs.map .int)]) ∧ xs.length ≤ 1000 ∧ post (.bl (risesI xs)) S
theorem len_rises : ∀ ds S post, sp_rises ds S post → ds.length = 1 := by
  rintro _ _ _ ⟨_, _, rfl, _⟩
  rfl
theorem hd_rises : ∀ ds S post, sp_rises ds S post → b_rises (endsD S post) (startD ["parts", "one", "two"] ds) S := by
  rintro ds S post ⟨x, xs, rfl, hx, hl, h⟩
  unfold b_rises
  have hz : (zip2D (xs.map D.int) (DL.cutD (xs.map D.int) (some 1) none)).length = xs.length - 1 := by
    rw [zip2D_len, cut_from (by decide), List.length_drop, List.length_map]
    show min _ (xs.length - 1) = _
    omega
  have at2 : ∀ {i : Nat} {d : D}, (zip2D (xs.map D.int) (DL.cutD (xs.map D.int) (some 1) none))[i]? = some d → i < xs.length - 1 ∧ d = .ztup [.int (xs.getD i 0), .int (xs.getD (i + 1) 0)] := fun {i d} hi => by
    have li := (List.getElem?_eq_some_iff.mp hi).1
    rw [hz] at li
    obtain ⟨a, b, h1, h2, rfl⟩ := zip2D_get hi
    rw [cut_from (by decide), ← List.map_drop] at h2
    obtain ⟨p, hp, _, rfl⟩ := int_at h1
    obtain ⟨q, hq, _, rfl⟩ := int_at h2
    rw [List.getElem?_drop] at hq
    have hq' : xs[i + 1]? = some q := by rw [← hq]; congr 1; show _ = 1 + i; omega
    rw [getD_of hp, getD_of hq']
    exact ⟨li, rfl⟩
  rcases hx with ⟨rfl, rfl⟩ | ⟨rfl, rfl⟩
  · rw [go_seqS]
    try walk_at "dgo1"
    refine for_inv (fun i ρ S => ∃ a b, ρ = [some (tI xs), a, b] ∧ S = [] ∧ ∀ j, j < i → xs.getD j 0 < xs.getD (j + 1) 0) ⟨none, none, rfl, rfl, fun j hj => by omega⟩ (fun _ _ _ _ _ => by first | exact trivial | exact ⟨seqOf_tup.mpr rfl, seqOf_tup.mpr rfl⟩) (fun i d ρ S hd hI => ?_) fun ρ S hI => ?_
    · obtain ⟨a, b, rfl, rfl, hI⟩ := hI
      obtain ⟨li, rfl⟩ := at2 hd
      try walk_at "dgo1"
      by_cases hg : xs.getD (i + 1) 0 ≤ xs.getD i 0
      · rw [if_pos hg]
        rw [risesI_false li hg] at h
        exact end_none (by simp [below]) h
      · rw [if_neg hg]
        refine ⟨⟨_, _, rfl⟩, fun j hj => ?_⟩
        by_cases e : j = i
        · subst e
          omega
        · exact hI j (by omega)
    · obtain ⟨a, b, rfl, rfl, hI⟩ := hI
      rw [hz] at hI
      rw [risesI_true hI] at h
      try walk_at "dgo1"
      exact end_none (by simp [below]) h
  · have b0 : belowE 0 (Ent.lst (xs.map D.int)) = true := by simp [belowE, belows_ints]
    have bl : ∀ n, belowE n (Ent.lst (xs.map D.int)) = true := fun n => by simp [belowE, belows_ints]
    rw [go_seqS]
    try walk_at "dgo1"
    refine for_inv (fun i ρ S => ∃ a b, ρ = [some (.lr 0), a, b] ∧ S = [.lst (xs.map .int), .lst (DL.cutD (xs.map D.int) (some 1) none)] ∧ ∀ j, j < i → xs.getD j 0 < xs.getD (j + 1) 0) ⟨none, none, rfl, rfl, fun j hj => by omega⟩ (fun _ _ _ _ hI => by obtain ⟨_, _, _, rfl, _⟩ := hI; first | exact ⟨rfl, rfl⟩ | exact ⟨seqOf_lr.mpr rfl, seqOf_lr.mpr rfl⟩) (fun i d ρ S hd hI => ?_) fun ρ S hI => ?_
    · obtain ⟨a, b, rfl, rfl, hI⟩ := hI
      obtain ⟨li, rfl⟩ := at2 hd
      try walk_at "dgo1"
      by_cases hg : xs.getD (i + 1) 0 ≤ xs.getD i 0
      · rw [if_pos hg]
        rw [risesI_false li hg] at h
        exact end_take (by simp [below]) (by simp [bl]) h
      · rw [if_neg hg]
        refine ⟨⟨_, _, rfl⟩, fun j hj => ?_⟩
        by_cases e : j = i
        · subst e
          omega
        · exact hI j (by omega)
    · obtain ⟨a, b, rfl, rfl, hI⟩ := hI
      rw [hz] at hI
      rw [risesI_true hI] at h
      try walk_at "dgo1"
      exact end_take (by simp [below]) (by simp [bl]) h
theorem call_rises {S : Store} {xs : List Int} {post : DK} (hl : xs.length ≤ 1000) (h : post (.bl (risesI xs)) S) : callD sp_rises [tI xs] S post :=
  call_pure (by simp [belows, below_tI]) ⟨_, xs, rfl, .inl ⟨rfl, rfl⟩, hl, by simpa [ren] using h⟩
theorem call_risesL {S : Store} {j : Nat} {xs : List Int} {post : DK} (hj : S[j]? = some (.lst (xs.map .int))) (hl : xs.length ≤ 1000) (h : post (.bl (risesI xs)) S) : callD sp_rises [.lr j] S post :=
  call_one hj (by simp [belows]) (by simp [belowE, belows_ints]) ⟨_, xs, rfl, .inr ⟨rfl, rfl⟩, hl, by
    have e : renE (rn [j] S.length) (.lst (xs.map D.int)) = .lst (xs.map D.int) := renE_below _ _ (by simp [belowE, belows_ints])
    have k : setAll [j] [.lst (xs.map D.int)] S = S := by
      simp only [setAll]
      obtain ⟨hl, he⟩ := List.getElem?_eq_some_iff.mp hj
      rw [← he]
      exact List.set_getElem_self hl
    simpa [ren, e, k] using h⟩
theorem ok_rises {P : Program} {w : World} {K : PySem.W.Frag} {mg : Str → Option Value} {base : Heap} {f : Addr} {fd : FuncData} (F : Fun K "rises" "rises" s_rises f fd) (W : Bl mg) :
    FnG P w K mg base CX0 1 f fd ["parts"] (spL K sp_rises) := by
  refine fn_okG (tb := b_rises) F sc_rises len_rises (fun cdv A outer s H E hgd hr => ?_) hd_rises
  have sc := sc_rises
  have hu := hr.units
  have hu1 := Nat.lt_of_le_of_lt (Nat.add_le_add_left (show 1 ≤ 64 by decide) _) hu
  have hu65 := units65 hr
  exact (dss_cons (ds_for PassesOwn.never rfl (di_zip2 (by rfl) W.zip_ (da_cons (de_var 0) (da_cons (de_sl (de_var 0) (do_some de_int) do_none) da_nil))) (dg_tup rfl (dgs_cons (dg_name 1 sc.nd) (dgs_cons (dg_name 2 sc.nd) dgs_nil))) (dss_one (ds_if (dt_cmp op_ge rul_ge (de_var 1) (de_var 2) (nomark _)) (dss_one (ds_ret de_bl)) dss_nil)))
      (dss_one (ds_ret de_bl)))
--@@split
/-! settings_rise, lot_of, made_lot -/
def isTup : D → Bool
  | .tup _ => true
  | _ => false
/-- a tuple of rising settings -/
def srD (zs : List Int) (d : D) : Bool := isTup d && ((partsD d).all (numIn 0 ((zs.length : Int) - 1)) && risesI (intsD d))
def b_settings_rise : DS :=
  (dSeq (dIfS (dNot (dTest (dIsTy "tuple" (dVar 1)))) (dRet (dC (.bl false))) dNext)
    (dRet (dAndV (dGc0 (dCB cAll (dCons (dLc (wSeq (dVar 1)) (gName 2) dYes (dCall sp_setting_of (dCons (dVar 0) (dCons (dVar 2) dNil))) [2]) dNil))) (dCall sp_rises (dCons (dVar 1) dNil)))))
def sp_settings_rise : DSp := fun ds S post => ∃ (zs : List Int) (d : D), ds = [tI zs, d] ∧ S = [] ∧ okT d = true ∧ (partsD d).length ≤ 1000 ∧ post (.bl (srD zs d)) []
theorem len_settings_rise : ∀ ds S post, sp_settings_rise ds S post → ds.length = 2 := by
  rintro _ _ _ ⟨_, _, rfl, _⟩
  rfl
theorem all_in {lo hi : Int} {xs : List D} (h : xs.all (numIn lo hi) = true) : D.tup xs = tI (intsD (.tup xs)) := by
  have e : xs = (intsD (.tup xs)).map D.int := all_ints fun x hx => let ⟨i, hi, _⟩ := numIn_int (List.all_eq_true.mp h x hx); ⟨i, hi⟩
  unfold tI
  rw [← e]
theorem hd_settings_rise : ∀ ds S post, sp_settings_rise ds S post → b_settings_rise (endsD S post) (startD ["sizes", "thing", "part"] ds) S := by
  rintro ds S post ⟨zs, d, rfl, rfl, hd, hl, h⟩
  unfold b_settings_rise
  rw [go_seqS]
  try walk_at "dgo1"
  refine ⟨_, okT_ty hd, ?_⟩
  cases d <;> simp [okT] at hd
  · exact ⟨false, kNt, by rw [if_pos (by decide)]; exact end_none (by simp [below]) h⟩
  · exact ⟨false, kBt, by rw [if_pos (by decide)]; exact end_none (by simp [below]) h⟩
  · exact ⟨false, kIt, by rw [if_pos (by decide)]; exact end_none (by simp [below]) h⟩
  · exact ⟨false, kSt, by rw [if_pos (by decide)]; exact end_none (by simp [below]) h⟩
  · rename_i xs
    rw [okTs_iff] at hd
    have hl' : xs.length ≤ 1000 := hl
    refine ⟨true, kTt, ?_⟩
    rw [if_neg (by decide)]
    try walk_at "dgo1"
    refine lc_pure (fun _ => true) (fun i => .bl (numIn 0 ((zs.length : Int) - 1) (xs.getD i .non))) trivial (by omega) (fun i d acc J hi ha g1 _ => ?_) ?_
    · rw [getD_of hi] at g1
      try walk_at "dgo1"
      exact call_sof (hd d (List.mem_of_getElem? hi)) ⟨ha, g1 rfl⟩
    · rw [flt_all]
      refine go_all ?_
      try walk_at "dgo1"
      rw [range_all]
      unfold srD at h
      cases hx : xs.all (numIn 0 ((zs.length : Int) - 1)) with
      | false =>
        have e : (isTup (.tup xs) && ((partsD (.tup xs)).all (numIn 0 ((zs.length : Int) - 1)) && risesI (intsD (.tup xs)))) = false := by
          show (true && (xs.all _ && _)) = false
          rw [hx]
          rfl
        rw [e] at h
        rw [if_neg (by decide)]
        exact end_none (by simp [below]) h
      | true =>
        have e : (isTup (.tup xs) && ((partsD (.tup xs)).all (numIn 0 ((zs.length : Int) - 1)) && risesI (intsD (.tup xs)))) = risesI (intsD (.tup xs)) := by
          show (true && (xs.all _ && _)) = _
          rw [hx]
          rfl
        rw [e] at h
        rw [if_pos (by first | decide | simp)]
        rw [all_in hx]
        exact call_rises (by unfold intsD; rw [List.length_map]; exact hl') (end_none (by simp [below]) h)
theorem call_srise {S : Store} {zs : List Int} {d : D} {post : DK} (hd : okT d = true) (hl : (partsD d).length ≤ 1000) (h : post (.bl (srD zs d)) S) : callD sp_settings_rise [tI zs, d] S post :=
  call_pure (by simp [belows, okT0 hd, below_tI]) ⟨zs, d, rfl, rfl, hd, hl, by simpa [ren] using h⟩
theorem ok_settings_rise {P : Program} {w : World} {K : PySem.W.Frag} {mg : Str → Option Value} {base : Heap} {f : Addr} {fd : FuncData} (F : Fun K "settings_rise" "settings_rise" s_settings_rise f fd) (W : Bl mg) (C_setting_of : CalG P w K mg base 1 "setting_of" sp_setting_of) (C_rises : CalG P w K mg base 1 "rises" sp_rises) :
    FnG P w K mg base CX0 2 f fd ["sizes", "thing"] (spL K sp_settings_rise) := by
  refine fn_okG (tb := b_settings_rise) F sc_settings_rise len_settings_rise (fun cdv A outer s H E hgd hr => ?_) hd_settings_rise
  have sc := sc_settings_rise
  have hu := hr.units
  have hu1 := Nat.lt_of_le_of_lt (Nat.add_le_add_left (show 1 ≤ 64 by decide) _) hu
  have hu65 := units65 hr
  exact (dss_cons (ds_if (dt_not (dt_val (de_isTy (de_var 1) (by rfl) W.isinstance_ (by rfl) W.tuple_ (by rfl)))) (dss_one (ds_ret de_bl)) dss_nil)
      (dss_one (ds_ret (de_and (de_gc0 (de_callB (cr_all rfl) rul_all (by rfl) W.all_ PyProof.Rows.boot_all (da_cons (de_lc (own := [("part", 2)]) (ws := [2]) (by decide) rfl sc.nd (di_seq (de_var 1)) (blkOk_by (by rfl)) (fun _ _ _ _ _ => (dg_name 2 sc.nd)) (fun _ _ _ _ _ => dts_nil) (fun _ _ _ _ _ => (de_cal C_setting_of hgd hr (by decide) (by rfl) (da_cons (de_var 0) (da_cons (de_var 2) da_nil))))) da_nil))) (de_one (de_cal C_rises hgd hr (by decide) (by rfl) (da_cons (de_var 1) da_nil)))))))
def lotD (zs : List Int) (d : D) : Bool := srD zs d && decide (0 < (partsD d).length)
theorem srD_tup {zs : List Int} {d : D} (h : srD zs d = true) : ∃ xs, d = .tup xs := by
  cases d <;> first | exact ⟨_, rfl⟩ | (simp [srD, isTup] at h)
def b_lot_of : DS :=
  (dRet (dAndV (dCall sp_settings_rise (dCons (dVar 0) (dCons (dVar 1) dNil))) (dOp oGt (dCB cLen (dCons (dVar 1) dNil)) (dC (.int 0)))))
def sp_lot_of : DSp := fun ds S post => ∃ (zs : List Int) (d : D), ds = [tI zs, d] ∧ S = [] ∧ okT d = true ∧ (partsD d).length ≤ 1000 ∧ post (.bl (lotD zs d)) []
theorem len_lot_of : ∀ ds S post, sp_lot_of ds S post → ds.length = 2 := by
  rintro _ _ _ ⟨_, _, rfl, _⟩
  rfl
theorem hd_lot_of : ∀ ds S post, sp_lot_of ds S post → b_lot_of (endsD S post) (startD ["sizes", "thing"] ds) S := by
  rintro ds S post ⟨zs, d, rfl, rfl, hd, hl, h⟩
  unfold b_lot_of
  try walk_at "dgo"
  refine call_srise hd hl ?_
  try walk_at "dgo"
  unfold lotD at h
  cases hs : srD zs d with
  | false =>
    rw [hs, Bool.false_and] at h
    rw [if_neg (by decide)]
    exact end_none (by simp [below]) h
  | true =>
    rw [hs, Bool.true_and] at h
    rw [if_pos rfl]
    obtain ⟨xs, rfl⟩ := srD_tup hs
    try walk_at "dgo"
    have e : decide (0 < (partsD (.tup xs)).length) = decide ((0 : Int) < (xs.length : Int)) := by
      show decide (0 < xs.length) = _
      by_cases q : 0 < xs.length
      · rw [decide_eq_true q, decide_eq_true (by omega)]
      · rw [decide_eq_false q, decide_eq_false (by omega)]
    rw [e] at h
    exact end_none (by simp [below]) h
theorem call_lotof {S : Store} {zs : List Int} {d : D} {post : DK} (hd : okT d = true) (hl : (partsD d).length ≤ 1000) (h : post (.bl (lotD zs d)) S) : callD sp_lot_of [tI zs, d] S post :=
  call_pure (by simp [belows, okT0 hd, below_tI]) ⟨zs, d, rfl, rfl, hd, hl, by simpa [ren] using h⟩
theorem ok_lot_of {P : Program} {w : World} {K : PySem.W.Frag} {mg : Str → Option Value} {base : Heap} {f : Addr} {fd : FuncData} (F : Fun K "lot_of" "lot_of" s_lot_of f fd) (W : Bl mg) (C_settings_rise : CalG P w K mg base 2 "settings_rise" sp_settings_rise) :
    FnG P w K mg base CX0 3 f fd ["sizes", "thing"] (spL K sp_lot_of) := by
  refine fn_okG (tb := b_lot_of) F sc_lot_of len_lot_of (fun cdv A outer s H E hgd hr => ?_) hd_lot_of
  have sc := sc_lot_of
  have hu := hr.units
  have hu1 := Nat.lt_of_le_of_lt (Nat.add_le_add_left (show 1 ≤ 64 by decide) _) hu
  have hu65 := units65 hr
  exact (dss_one (ds_ret (de_and (de_cal C_settings_rise hgd hr (by decide) (by rfl) (da_cons (de_var 0) (da_cons (de_var 1) da_nil))) (de_one (de_cmp op_gt rul_gt (de_callB call_len_seq rul_len (by rfl) W.len_ PySem.boot_len (da_cons (de_var 1) da_nil)) de_int (nomark _))))))
def b_made_lot (K : PySem.W.Frag) (cl : CL) : DS :=
  (dSeq (dIfS (dNot (dTest (dCall sp_lot_of (dCons (dVar 0) (dCons (dVar 1) dNil))))) (dRaise cl.c_BadLot (dUn oNeg (dC (.int 1)))) dNext)
    (dRet (dVar 1)))
def sp_made_lot (cl : CL) : DSpX := fun ds S post ex => ∃ (zs : List Int) (d : D), ds = [tI zs, d] ∧ S = [] ∧ okT d = true ∧ (partsD d).length ≤ 1000 ∧ (lotD zs d = true → post d []) ∧ (lotD zs d = false → ex (.ref cl.c_BadLot) (.int (-1)) [])
theorem len_made_lot {cl : CL} : ∀ ds S post ex, sp_made_lot cl ds S post ex → ds.length = 2 := by
  rintro _ _ _ _ ⟨_, _, rfl, _⟩
  rfl
theorem hd_made_lot {K : PySem.W.Frag} {cl : CL} (hC : Clf K cl) : ∀ ds S post ex, sp_made_lot cl ds S post ex → b_made_lot K cl (endsX S post ex) (startD ["sizes", "thing"] ds) S := by
  rintro ds S post ex ⟨zs, d, rfl, rfl, hd, hl, h1, h2⟩
  unfold b_made_lot
  try walk_at "dgo"
  refine call_lotof hd hl ?_
  try walk_at "dgo"
  cases hs : lotD zs d with
  | false =>
    rw [if_pos (by first | decide | simp)]
    exact end_none (by simp [below]) (h2 hs)
  | true =>
    rw [if_neg (by decide)]
    exact end_none (okT0 hd) (h1 hs)
theorem callx_lot {cl : CL} {zs : List Int} {d : D} {S : Store} {post : DK} {ex : Value → D → Store → Prop} (hd : okT d = true) (hl : (partsD d).length ≤ 1000) (h1 : lotD zs d = true → post d S) (h2 : lotD zs d = false → ex (.ref cl.c_BadLot) (.int (-1)) S) : callDX (sp_made_lot cl) [tI zs, d] S post ex :=
  call_pureX (by simp [belows, okT0 hd, below_tI]) ⟨zs, d, rfl, rfl, hd, hl, fun q => ren0 (okT0 hd) (h1 q), fun q => by simpa [ren] using h2 q⟩
theorem ok_made_lot {P : Program} {w : World} {K : PySem.W.Frag} {mg : Str → Option Value} {base : Heap} {f : Addr} {fd : FuncData} (F : Fun K "made_lot" "made_lot" s_made_lot f fd) (W : Bl mg) (cl : CL) (M : Clm mg cl) (hC : Clf K cl) (C_lot_of : CalG P w K mg base 3 "lot_of" sp_lot_of) (R_BadLot : RaiC P w K mg base "BadLot" cl.c_BadLot) :
    FnG P w K mg base (L2.CX P w) 4 f fd ["sizes", "thing"] (spLX K (sp_made_lot cl)) := by
  refine fn_okX (tb := b_made_lot K cl) F sc_made_lot len_made_lot (fun cdv A outer s H E hgd hr => ?_) (hd_made_lot hC)
  have sc := sc_made_lot
  have hu := hr.units
  have hu1 := Nat.lt_of_le_of_lt (Nat.add_le_add_left (show 1 ≤ 64 by decide) _) hu
  have hu65 := units65 hr
  have tk := takes_of (X := cxOf (L2.CX P w) P w K mg base ["sizes", "thing"] "made_lot" (defScope s_made_lot) f cdv A outer s H E) (E := E) rfl rfl rfl rfl
  exact (dss_cons (ds_if (dt_not (dt_val (de_cal C_lot_of hgd hr (by decide) (by rfl) (da_cons (de_var 0) (da_cons (de_var 1) da_nil))))) (dss_one (ds_rai R_BadLot rfl hr (by decide) tk (by rfl) (de_un un_neg rul_neg de_int))) dss_nil)
      (dss_one (ds_ret (de_var 1))))
--@@split
/-! house_number, plain_stamp, entry_of -/
def b_house_number : DS :=
  (dRet (dCall sp_number_within (dCons (dVar 0) (dCons (dC (.int 0)) (dCons (dC (.int 99)) dNil)))))
def sp_house_number : DSp := fun ds S post => ∃ d, ds = [d] ∧ S = [] ∧ okT d = true ∧ post (.bl (numIn 0 99 d)) []
theorem len_house_number : ∀ ds S post, sp_house_number ds S post → ds.length = 1 := by
  rintro _ _ _ ⟨_, rfl, _⟩
  rfl
theorem hd_house_number : ∀ ds S post, sp_house_number ds S post → b_house_number (endsD S post) (startD ["thing"] ds) S := by
  rintro ds S post ⟨d, rfl, rfl, hd, h⟩
  unfold b_house_number
  try walk_at "dgo"
  exact call_nin hd (end_none (by simp [below]) h)
theorem call_house {S : Store} {d : D} {post : DK} (hd : okT d = true) (h : post (.bl (numIn 0 99 d)) S) : callD sp_house_number [d] S post :=
  call_pure (by simp [belows, okT0 hd]) ⟨d, rfl, rfl, hd, by simpa [ren] using h⟩
theorem ok_house_number {P : Program} {w : World} {K : PySem.W.Frag} {mg : Str → Option Value} {base : Heap} {f : Addr} {fd : FuncData} (F : Fun K "house_number" "house_number" s_house_number f fd) (W : Bl mg) (Z : Cst mg) (C_number_within : CalG P w K mg base 1 "number_within" sp_number_within) :
    FnG P w K mg base CX0 2 f fd ["thing"] (spL K sp_house_number) := by
  refine fn_okG (tb := b_house_number) F sc_house_number len_house_number (fun cdv A outer s H E hgd hr => ?_) hd_house_number
  have sc := sc_house_number
  have hu := hr.units
  have hu1 := Nat.lt_of_le_of_lt (Nat.add_le_add_left (show 1 ≤ 64 by decide) _) hu
  have hu65 := units65 hr
  exact (dss_one (ds_ret (de_cal C_number_within hgd hr (by decide) (by rfl) (da_cons (de_var 0) (da_cons de_int (da_cons (de_gint (by rfl) Z.c_MOST_HOUSE) da_nil))))))
def stD : D → Bool
  | .tup [.int c, h] => decide (0 ≤ c) && numIn 0 99 h
  | _ => false
theorem stD_pr {d : D} (h : isPr d = false) : stD d = false := by
  unfold stD
  split
  · simp [isPr] at h
  · rfl
def b_plain_stamp : DS :=
  (dRet (dAndV (dCall sp_plain_pair (dCons (dVar 0) dNil)) (dAndV (dCall sp_plain_number (dCons (dOp oIx (dVar 0) (dC (.int 0))) dNil)) (dAndV (dOp oGe (dOp oIx (dVar 0) (dC (.int 0))) (dC (.int 0))) (dCall sp_house_number (dCons (dOp oIx (dVar 0) (dC (.int 1))) dNil))))))
def sp_plain_stamp : DSp := fun ds S post => ∃ d, ds = [d] ∧ S = [] ∧ okT d = true ∧ post (.bl (stD d)) []
theorem len_plain_stamp : ∀ ds S post, sp_plain_stamp ds S post → ds.length = 1 := by
  rintro _ _ _ ⟨_, rfl, _⟩
  rfl
theorem hd_plain_stamp : ∀ ds S post, sp_plain_stamp ds S post → b_plain_stamp (endsD S post) (startD ["thing"] ds) S := by
  rintro ds S post ⟨d, rfl, rfl, hd, h⟩
  unfold b_plain_stamp
  try walk_at "dgo"
  refine call_pair hd ?_
  try walk_at "dgo"
  cases hp : isPr d with
  | false =>
    rw [stD_pr hp] at h
    rw [if_neg (by decide)]
    exact end_none (by simp [below]) h
  | true =>
    obtain ⟨a, b, rfl⟩ := isPr_two hp
    rw [if_pos rfl]
    rw [okT, okTs_iff] at hd
    have ha := hd a (by simp)
    have hb := hd b (by simp)
    try walk_at "dgo"
    refine call_number ha ?_
    try walk_at "dgo"
    cases hn : isInt a with
    | false =>
      have e : stD (.tup [a, b]) = false := by cases a <;> first | rfl | cases hn
      rw [e] at h
      rw [if_neg (by decide)]
      exact end_none (by simp [below]) h
    | true =>
      cases a <;> first | cases hn | skip
      rename_i c
      rw [if_pos rfl]
      rw [stD] at h
      try walk_at "dgo"
      by_cases hc : 0 ≤ c
      · rw [decide_eq_true hc, Bool.true_and] at h
        rw [if_pos hc]
        exact call_house hb (end_none (by simp [below]) h)
      · rw [decide_eq_false hc, Bool.false_and] at h
        rw [if_neg hc]
        exact end_none (by simp [below]) h
theorem call_stamp {S : Store} {d : D} {post : DK} (hd : okT d = true) (h : post (.bl (stD d)) S) : callD sp_plain_stamp [d] S post :=
  call_pure (by simp [belows, okT0 hd]) ⟨d, rfl, rfl, hd, by simpa [ren] using h⟩
theorem ok_plain_stamp {P : Program} {w : World} {K : PySem.W.Frag} {mg : Str → Option Value} {base : Heap} {f : Addr} {fd : FuncData} (F : Fun K "plain_stamp" "plain_stamp" s_plain_stamp f fd) (W : Bl mg) (C_plain_pair : CalG P w K mg base 1 "plain_pair" sp_plain_pair) (C_plain_number : CalG P w K mg base 1 "plain_number" sp_plain_number) (C_house_number : CalG P w K mg base 2 "house_number" sp_house_number) :
    FnG P w K mg base CX0 3 f fd ["thing"] (spL K sp_plain_stamp) := by
  refine fn_okG (tb := b_plain_stamp) F sc_plain_stamp len_plain_stamp (fun cdv A outer s H E hgd hr => ?_) hd_plain_stamp
  have sc := sc_plain_stamp
  have hu := hr.units
  have hu1 := Nat.lt_of_le_of_lt (Nat.add_le_add_left (show 1 ≤ 64 by decide) _) hu
  have hu65 := units65 hr
  exact (dss_one (ds_ret (de_and (de_cal C_plain_pair hgd hr (by decide) (by rfl) (da_cons (de_var 0) da_nil)) (de_and (de_cal C_plain_number hgd hr (by decide) (by rfl) (da_cons (de_ix ix_seq rul_ix (de_var 0) de_int) da_nil)) (de_and (de_cmp op_ge rul_ge (de_ix ix_seq rul_ix (de_var 0) de_int) de_int (nomark _)) (de_one (de_cal C_house_number hgd hr (by decide) (by rfl) (da_cons (de_ix ix_seq rul_ix (de_var 0) de_int) da_nil))))))))
def enD (zs : List Int) : D → Bool
  | .tup [a, b, s] => hasW zs (.tup [a, b]) && stD s
  | _ => false
theorem enD_len {zs : List Int} {xs : List D} (h : xs.length ≠ 3) : enD zs (.tup xs) = false := by
  unfold enD
  split
  · rename_i e
    cases e
    exact absurd rfl h
  · rfl
theorem three_of {xs : List D} (h : xs.length = 3) : ∃ a b c, xs = [a, b, c] := by
  match xs, h with
  | [a, b, c], _ => exact ⟨a, b, c, rfl⟩
def b_entry_of : DS :=
  (dRet (dAndV (dCall sp_tuple_sized (dCons (dVar 1) (dCons (dC (.int 3)) (dCons (dC (.int 3)) dNil)))) (dAndV (dCall sp_has_worth (dCons (dVar 0) (dCons (dSl (dVar 1) dNoPart (dPart (dC (.int 2)))) dNil))) (dCall sp_plain_stamp (dCons (dOp oIx (dVar 1) (dC (.int 2))) dNil)))))
def sp_entry_of : DSp := fun ds S post => ∃ (zs : List Int) (d : D), ds = [tI zs, d] ∧ S = [] ∧ okT d = true ∧ post (.bl (enD zs d)) []
theorem len_entry_of : ∀ ds S post, sp_entry_of ds S post → ds.length = 2 := by
  rintro _ _ _ ⟨_, _, rfl, _⟩
  rfl
theorem hd_entry_of : ∀ ds S post, sp_entry_of ds S post → b_entry_of (endsD S post) (startD ["sizes", "thing"] ds) S := by
  rintro ds S post ⟨zs, d, rfl, rfl, hd, h⟩
  unfold b_entry_of
  try walk_at "dgo"
  refine call_tsz hd ?_
  try walk_at "dgo"
  cases ht : tupIn 3 3 d with
  | false =>
    have e : enD zs d = false := by
      cases d <;> first | rfl | skip
      exact enD_len fun q => by
        rw [tupIn] at ht
        rw [q] at ht
        exact absurd ht (by decide)
    rw [e] at h
    rw [if_neg (by decide)]
    exact end_none (by simp [below]) h
  | true =>
    obtain ⟨xs, rfl, h1, h2⟩ := tupIn_true ht
    obtain ⟨a, b, s, rfl⟩ := three_of (xs := xs) (by omega)
    rw [if_pos rfl]
    rw [okT, okTs_iff] at hd
    have hab : okT (.tup [a, b]) = true := by
      rw [okT, okTs_iff]
      intro x hx
      simp at hx
      exact hd x (by rcases hx with rfl | rfl <;> simp)
    try walk_at "dgo"
    rw [cut_to (by decide)]
    show callD sp_has_worth [tI zs, .tup [a, b]] _ _
    refine call_hasW hab ?_
    try walk_at "dgo"
    rw [enD] at h
    cases hw : hasW zs (.tup [a, b]) with
    | false =>
      rw [hw, Bool.false_and] at h
      rw [if_neg (by decide)]
      exact end_none (by simp [below]) h
    | true =>
      rw [hw, Bool.true_and] at h
      rw [if_pos rfl]
      try walk_at "dgo"
      exact call_stamp (hd s (by simp)) (end_none (by simp [below]) h)
theorem call_entry {S : Store} {zs : List Int} {d : D} {post : DK} (hd : okT d = true) (h : post (.bl (enD zs d)) S) : callD sp_entry_of [tI zs, d] S post :=
  call_pure (by simp [belows, okT0 hd, below_tI]) ⟨zs, d, rfl, rfl, hd, by simpa [ren] using h⟩
theorem ok_entry_of {P : Program} {w : World} {K : PySem.W.Frag} {mg : Str → Option Value} {base : Heap} {f : Addr} {fd : FuncData} (F : Fun K "entry_of" "entry_of" s_entry_of f fd) (W : Bl mg) (C_tuple_sized : CalG P w K mg base 1 "tuple_sized" sp_tuple_sized) (C_has_worth : CalG P w K mg base 2 "has_worth" sp_has_worth) (C_plain_stamp : CalG P w K mg base 3 "plain_stamp" sp_plain_stamp) :
    FnG P w K mg base CX0 4 f fd ["sizes", "thing"] (spL K sp_entry_of) := by
  refine fn_okG (tb := b_entry_of) F sc_entry_of len_entry_of (fun cdv A outer s H E hgd hr => ?_) hd_entry_of
  have sc := sc_entry_of
  have hu := hr.units
  have hu1 := Nat.lt_of_le_of_lt (Nat.add_le_add_left (show 1 ≤ 64 by decide) _) hu
  have hu65 := units65 hr
  exact (dss_one (ds_ret (de_and (de_cal C_tuple_sized hgd hr (by decide) (by rfl) (da_cons (de_var 1) (da_cons de_int (da_cons de_int da_nil)))) (de_and (de_cal C_has_worth hgd hr (by decide) (by rfl) (da_cons (de_var 0) (da_cons (de_sl (de_var 1) do_none (do_some de_int)) da_nil))) (de_one (de_cal C_plain_stamp hgd hr (by decide) (by rfl) (da_cons (de_ix ix_seq rul_ix (de_var 1) de_int) da_nil)))))))
theorem enD_true {zs : List Int} {d : D} (h : enD zs d = true) : ∃ (s w c g z : Int), d = .tup [.int s, .int w, .tup [.int c, .int g]] ∧ 0 ≤ s ∧ s < zs.length ∧ zs[s.toNat]? = some z ∧ 0 ≤ w ∧ w < z ∧ 0 ≤ c ∧ 0 ≤ g ∧ g ≤ 99 := by
  unfold enD at h
  split at h
  · rename_i a b st
    rw [Bool.and_eq_true] at h
    obtain ⟨s, w, z, e, h1, h2, h3, h4, h5⟩ := hasW_true h.1
    cases e
    have hs := h.2
    unfold stD at hs
    split at hs
    · rename_i c g
      rw [Bool.and_eq_true, decide_eq_true_eq] at hs
      obtain ⟨i, rfl, g1, g2⟩ := numIn_int hs.2
      exact ⟨s, w, c, i, z, rfl, h1, h2, h3, h4, h5, hs.1, g1, g2⟩
    · cases hs
  · cases h
/-! must_be_row, made_row -/
inductive Wd | sizes | lot | row | letter
def Wd.cls (cl : CL) : Wd → Addr
  | .sizes => cl.c_BadSizes
  | .lot => cl.c_BadLot
  | .row => cl.c_BadRow
  | .letter => cl.c_BadLetter
def Wd.str : Wd → Str
  | .sizes => "sizes"
  | .lot => "lot"
  | .row => "row"
  | .letter => "letter"
def rowF (zs ls : List Int) (d : D) : Option Int := if tupIn ls.length ls.length d = true then fstN (fun i x => enD zs x && decide (stg x = ls.getD i 0)) (partsD d) else some (-1)
def b_must_be_row (K : PySem.W.Frag) (cl : CL) : DS :=
  (dSeq (dIfS (dNot (dTest (dCall sp_tuple_sized (dCons (dVar 2) (dCons (dCB cLen (dCons (dVar 1) dNil)) (dCons (dCB cLen (dCons (dVar 1) dNil)) dNil)))))) (dRaise cl.c_BadRow (dUn oNeg (dC (.int 1)))) dNext)
    (dFor (wEnum1 (dCons (dVar 1) dNil)) (gTup 2 (gCons (gName 3) (gCons (gName 4) gNil))) (dIfS (dOr (dNot (dTest (dCall sp_entry_of (dCons (dVar 0) (dCons (dOp oIx (dVar 2) (dVar 3)) dNil))))) (dTest (dOp (oEq true) (dOp oIx (dOp oIx (dVar 2) (dVar 3)) (dC (.int 0))) (dVar 4)))) (dRaise cl.c_BadRow (dVar 3)) dNext)))
def sp_must_be_row (cl : CL) : DSpX := fun ds S post ex => ∃ (zs ls : List Int) (d : D), ds = [tI zs, tI ls, d] ∧ S = [] ∧ okT d = true ∧ ls.length ≤ 1000 ∧ (rowF zs ls d = none → post .non []) ∧ ∀ k, rowF zs ls d = some k → ex (.ref cl.c_BadRow) (.int k) []
theorem len_must_be_row {cl : CL} : ∀ ds S post ex, sp_must_be_row cl ds S post ex → ds.length = 3 := by
  rintro _ _ _ _ ⟨_, _, _, rfl, _⟩
  rfl
theorem hd_must_be_row {K : PySem.W.Frag} {cl : CL} (hC : Clf K cl) : ∀ ds S post ex, sp_must_be_row cl ds S post ex → b_must_be_row K cl (endsX S post ex) (startD ["sizes", "lot", "thing", "index", "setting"] ds) S := by
  rintro ds S post ex ⟨zs, ls, d, rfl, rfl, hd, hl, h1, h2⟩
  unfold b_must_be_row
  rw [go_seqS]
  try walk_at "dgo1"
  refine call_tsz hd ?_
  try walk_at "dgo1"
  cases ht : tupIn ls.length ls.length d with
  | false =>
    have e : rowF zs ls d = some (-1) := by unfold rowF; rw [ht]; rfl
    rw [if_pos (by first | decide | simp)]
    exact end_none (by simp [below]) (h2 _ e)
  | true =>
    obtain ⟨xs, rfl, l1, l2⟩ := tupIn_true ht
    have e : rowF zs ls (.tup xs) = fstN (fun i x => enD zs x && decide (stg x = ls.getD i 0)) xs := by unfold rowF; rw [ht]; rfl
    rw [e] at h1 h2
    rw [if_neg (by decide)]
    rw [okT, okTs_iff] at hd
    try walk_at "dgo1"
    refine ⟨by omega, for_inv (fun i ρ S => ∃ a b, ρ = [some (tI zs), some (tI ls), some (.tup xs), a, b] ∧ S = [] ∧ ∀ j, j < i → (enD zs (xs.getD j .non) && decide (stg (xs.getD j .non) = ls.getD j 0)) = true) ⟨none, none, rfl, rfl, fun j hj => by omega⟩ (fun _ _ _ _ _ => by first | trivial | exact seqOf_tup.mpr rfl) (fun i d ρ S hdi hI => ?_) fun ρ S hI => ?_⟩
    · obtain ⟨a, b, rfl, rfl, hI⟩ := hI
      obtain ⟨x, hx, rfl⟩ := enum1D_get hdi
      obtain ⟨s, hs, _, rfl⟩ := int_at hx
      have hi : i < ls.length := (List.getElem?_eq_some_iff.mp hs).1
      have hi2 : i < xs.length := by omega
      have hxi := List.getElem?_eq_getElem hi2
      have hox := hd _ (List.getElem_mem hi2)
      generalize xs[i] = x at hxi hox
      try walk_at "dgo1"
      refine ⟨x, atI_of (by omega) (by rw [Int.toNat_natCast]; exact hxi), ?_⟩
      refine call_entry hox ?_
      try walk_at "dgo1"
      cases hn : enD zs x with
      | false =>
        rw [if_pos (by first | decide | simp)]
        exact end_none (by simp [below]) (h2 _ (fstN_at hxi hI (by rw [hn]; rfl)))
      | true =>
        obtain ⟨s', w, c, g, z, rfl, _⟩ := enD_true hn
        rw [if_neg (by decide)]
        refine ⟨_, atI_of (by omega) (by rw [Int.toNat_natCast]; exact hxi), ?_⟩
        try walk_at "dgo1"
        by_cases he : s' = s
        · subst he
          rw [if_neg (by simp)]
          refine ⟨⟨_, _, rfl⟩, fun j hj => ?_⟩
          by_cases e : j = i
          · subst e
            rw [getD_of hxi, getD_of hs, hn, Bool.true_and]
            exact decide_eq_true rfl
          · exact hI j (by omega)
        · rw [if_pos (by simp [he])]
          refine end_none (by simp [below]) (h2 _ (fstN_at hxi hI ?_))
          rw [hn, Bool.true_and, getD_of hs]
          exact decide_eq_false he
    · obtain ⟨a, b, rfl, rfl, hI⟩ := hI
      rw [enum1D_len, List.length_map] at hI
      try walk_at "dgo1"
      exact end_none (by simp [below]) (h1 (fstN_none (f := fun i x => enD zs x && decide (stg x = ls.getD i 0)) fun j hj => hI j (by omega)))
theorem callx_mrow {cl : CL} {zs ls : List Int} {d : D} {S : Store} {post : DK} {ex : Value → D → Store → Prop} (hd : okT d = true) (hl : ls.length ≤ 1000) (h1 : rowF zs ls d = none → post .non S) (h2 : ∀ k, rowF zs ls d = some k → ex (.ref cl.c_BadRow) (.int k) S) : callDX (sp_must_be_row cl) [tI zs, tI ls, d] S post ex :=
  call_pureX (by simp [belows, okT0 hd, below_tI]) ⟨zs, ls, d, rfl, rfl, hd, hl, fun q => by simpa [ren] using h1 q, fun k q => by simpa [ren] using h2 k q⟩
theorem ok_must_be_row {P : Program} {w : World} {K : PySem.W.Frag} {mg : Str → Option Value} {base : Heap} {f : Addr} {fd : FuncData} (F : Fun K "must_be_row" "must_be_row" s_must_be_row f fd) (W : Bl mg) (cl : CL) (M : Clm mg cl) (hC : Clf K cl) (C_entry_of : CalG P w K mg base 4 "entry_of" sp_entry_of) (C_tuple_sized : CalG P w K mg base 1 "tuple_sized" sp_tuple_sized) (R_BadRow : RaiC P w K mg base "BadRow" cl.c_BadRow) :
    FnG P w K mg base (L2.CX P w) 5 f fd ["sizes", "lot", "thing"] (spLX K (sp_must_be_row cl)) := by
  refine fn_okX (tb := b_must_be_row K cl) F sc_must_be_row len_must_be_row (fun cdv A outer s H E hgd hr => ?_) (hd_must_be_row hC)
  have sc := sc_must_be_row
  have hu := hr.units
  have hu1 := Nat.lt_of_le_of_lt (Nat.add_le_add_left (show 1 ≤ 64 by decide) _) hu
  have hu65 := units65 hr
  have tk := takes_of (X := cxOf (L2.CX P w) P w K mg base ["sizes", "lot", "thing", "index", "setting"] "must_be_row" (defScope s_must_be_row) f cdv A outer s H E) (E := E) rfl rfl rfl rfl
  exact (dss_cons (ds_if (dt_not (dt_val (de_cal C_tuple_sized hgd hr (by decide) (by rfl) (da_cons (de_var 2) (da_cons (de_callB call_len_seq rul_len (by rfl) W.len_ PySem.boot_len (da_cons (de_var 1) da_nil)) (da_cons (de_callB call_len_seq rul_len (by rfl) W.len_ PySem.boot_len (da_cons (de_var 1) da_nil)) da_nil)))))) (dss_one (ds_rai R_BadRow rfl hr (by decide) tk (by rfl) (de_un un_neg rul_neg de_int))) dss_nil)
      (dss_one (ds_for (passes_of rfl) rfl (di_enum1 (by rfl) W.enumerate_ (da_cons (de_var 1) da_nil)) (dg_tup rfl (dgs_cons (dg_name 3 sc.nd) (dgs_cons (dg_name 4 sc.nd) dgs_nil))) (dss_one (ds_if (PW.pt (dw_or (dt_not (dt_val (de_cal C_entry_of hgd hr (by decide) (by rfl) (da_cons (de_var 0) (da_cons (de_ix ix_seq rul_ix (de_var 2) (de_var 3)) da_nil))))) (dw_or1 (dt_cmp (op_ne2 hu) rul_ne (de_ix ix_seq rul_ix (de_ix ix_seq rul_ix (de_var 2) (de_var 3)) de_int) (de_var 4) (nomark _))))) (dss_one (ds_rai R_BadRow rfl hr (by decide) tk (by rfl) (de_var 3))) dss_nil)))))
def rowR (d1 d2 d3 : D) : Option (Wd × Int) := match sizesF d1 with
  | some k => some (.sizes, k)
  | none => if lotD (intsD d1) d2 = true then (rowF (intsD d1) (intsD d2) d3).map fun k => (Wd.row, k) else some (.lot, -1)
theorem lotD_true {zs : List Int} {d : D} (h : lotD zs d = true) : d = tI (intsD d) ∧ 1 ≤ (intsD d).length ∧ risesI (intsD d) = true ∧ ∀ i ∈ intsD d, 0 ≤ i ∧ i ≤ (zs.length : Int) - 1 := by
  unfold lotD at h
  rw [Bool.and_eq_true, decide_eq_true_eq] at h
  obtain ⟨xs, rfl⟩ := srD_tup h.1
  have h1 := h.1
  unfold srD at h1
  rw [Bool.and_eq_true, Bool.and_eq_true] at h1
  have e := all_in h1.2.1
  refine ⟨e, ?_, h1.2.2, fun i hi => ?_⟩
  · unfold intsD
    rw [List.length_map]
    exact h.2
  · have hm : D.int i ∈ xs := by
      have : D.tup xs = .tup ((intsD (.tup xs)).map D.int) := e
      injection this with this
      rw [this]
      exact List.mem_map.mpr ⟨i, hi, rfl⟩
    obtain ⟨j, hj, a, b⟩ := numIn_int (List.all_eq_true.mp h1.2.1 _ hm)
    cases hj
    exact ⟨a, b⟩
def b_made_row (K : PySem.W.Frag) (cl : CL) : DS :=
  (dSeq (dDropX (dCallX (sp_must_be_row cl) (dConsX (dCallX (sp_made_sizes cl) (dToXs (dCons (dVar 0) dNil))) (dConsX (dCallX (sp_made_lot cl) (dToXs (dCons (dVar 0) (dCons (dVar 1) dNil)))) (dToXs (dCons (dVar 2) dNil))))))
    (dRet (dVar 2)))
def sp_made_row (cl : CL) : DSpX := fun ds S post ex => ∃ d1 d2 d3, ds = [d1, d2, d3] ∧ S = [] ∧ okT d1 = true ∧ okT d2 = true ∧ okT d3 = true ∧ (partsD d2).length ≤ 1000 ∧ (rowR d1 d2 d3 = none → post d3 []) ∧ ∀ w k, rowR d1 d2 d3 = some (w, k) → ex (.ref (w.cls cl)) (.int k) []
theorem len_made_row {cl : CL} : ∀ ds S post ex, sp_made_row cl ds S post ex → ds.length = 3 := by
  rintro _ _ _ _ ⟨_, _, _, rfl, _⟩
  rfl
theorem hd_made_row {K : PySem.W.Frag} {cl : CL} (hC : Clf K cl) : ∀ ds S post ex, sp_made_row cl ds S post ex → b_made_row K cl (endsX S post ex) (startD ["sizes", "lot", "thing"] ds) S := by
  rintro ds S post ex ⟨d1, d2, d3, rfl, rfl, o1, o2, o3, hl, h1, h2⟩
  unfold b_made_row
  rw [go_seqS]
  try walk_at "dgo1"
  unfold rowR at h1 h2
  refine callx_sizes o1 (fun hs => ?_) fun k hs => ?_
  · rw [hs] at h1 h2
    obtain ⟨e, hz⟩ := sizesF_none hs
    generalize intsD d1 = zs at e hz h1 h2
    subst e
    try walk_at "dgo1"
    refine callx_lot o2 hl (fun hlt => ?_) fun hlt => ?_
    · simp only [hlt, if_true] at h1 h2
      obtain ⟨e2, _⟩ := lotD_true hlt
      have hl2 : (intsD d2).length ≤ 1000 := by unfold intsD; rw [List.length_map]; exact hl
      try walk_at "dgo1"
      generalize intsD d2 = ls at e2 hl2 h1 h2
      subst e2
      refine callx_mrow o3 hl2 (fun hr => ?_) fun k hr => ?_
      · try walk_at "dgo1"
        exact end_none (okT0 o3) (h1 (by rw [hr]; rfl))
      · exact end_none (by simp [below]) (h2 .row k (by rw [hr]; rfl))
    · have e : ¬ (lotD zs d2 = true) := by rw [hlt]; decide
      simp only [if_neg e] at h2
      exact end_none (by simp [below]) (h2 .lot _ rfl)
  · rw [hs] at h2
    exact end_none (by simp [below]) (h2 .sizes k rfl)
theorem callx_row {cl : CL} {d1 d2 d3 : D} {S : Store} {post : DK} {ex : Value → D → Store → Prop} (o1 : okT d1 = true) (o2 : okT d2 = true) (o3 : okT d3 = true) (hl : (partsD d2).length ≤ 1000) (h1 : rowR d1 d2 d3 = none → post d3 S) (h2 : ∀ w k, rowR d1 d2 d3 = some (w, k) → ex (.ref (Wd.cls cl w)) (.int k) S) : callDX (sp_made_row cl) [d1, d2, d3] S post ex :=
  call_pureX (by simp [belows, okT0 o1, okT0 o2, okT0 o3]) ⟨d1, d2, d3, rfl, rfl, o1, o2, o3, hl, fun q => ren0 (okT0 o3) (h1 q), fun w k q => by simpa [ren] using h2 w k q⟩
theorem ok_made_row {P : Program} {w : World} {K : PySem.W.Frag} {mg : Str → Option Value} {base : Heap} {f : Addr} {fd : FuncData} (F : Fun K "made_row" "made_row" s_made_row f fd) (W : Bl mg) (cl : CL) (M : Clm mg cl) (hC : Clf K cl) (C_made_sizes : CalX P w K mg base 3 "made_sizes" (sp_made_sizes cl)) (C_made_lot : CalX P w K mg base 4 "made_lot" (sp_made_lot cl)) (C_must_be_row : CalX P w K mg base 5 "must_be_row" (sp_must_be_row cl)) :
    FnG P w K mg base (L2.CX P w) 6 f fd ["sizes", "lot", "thing"] (spLX K (sp_made_row cl)) := by
  refine fn_okX (tb := b_made_row K cl) F sc_made_row len_made_row (fun cdv A outer s H E hgd hr => ?_) (hd_made_row hC)
  have sc := sc_made_row
  have hu := hr.units
  have hu1 := Nat.lt_of_le_of_lt (Nat.add_le_add_left (show 1 ≤ 64 by decide) _) hu
  have hu65 := units65 hr
  have tk := takes_of (X := cxOf (L2.CX P w) P w K mg base ["sizes", "lot", "thing"] "made_row" (defScope s_made_row) f cdv A outer s H E) (E := E) rfl rfl rfl rfl
  exact (dss_cons (ds_exprX (de_calX C_must_be_row hgd hr (by decide) (by rfl) tk (da_consX (de_calX C_made_sizes hgd hr (by decide) (by rfl) tk (da_toX (da_cons (de_var 0) da_nil))) (da_consX (de_calX C_made_lot hgd hr (by decide) (by rfl) tk (da_toX (da_cons (de_var 0) (da_cons (de_var 1) da_nil)))) (da_toX (da_cons (de_var 2) da_nil))))))
      (dss_one (ds_ret (de_var 2))))
--@@split
/-! in, of ints -/
theorem plains_ints (ls : List Int) : plains (ls.map D.int) = true := by
  induction ls with
  | nil => rfl
  | cons x xs ih =>
    rw [List.map_cons, plains, ih]
    rfl
theorem any_ints (s : Int) (ls : List Int) : ((ls.map PyData.int).any fun z => PyData.eqv z (.int s)) = decide (s ∈ ls) := by
  induction ls with
  | nil => rfl
  | cons l ls ih =>
    rw [List.map_cons, List.any_cons, ih, PyData.eqv]
    by_cases h : l = s
    · subst h
      simp
    · have h' : ¬ s = l := fun e => h e.symm
      simp [h, h']
theorem shaped_ints (ls : List Int) : SeqAt.shaped (.list (ls.map PyData.int)) = true := by
  have t : Th 1 (tI ls) := th_tup fun d hd => by
    obtain ⟨x, _, rfl⟩ := List.mem_map.mp hd
    exact th_int
  have h1 := t.cl
  have h2 := t.dp
  unfold tI at h1 h2
  rw [toP, PyData.canLay0, toPs_ints] at h1
  rw [toP, PyData.depth, toPs_ints] at h2
  unfold SeqAt.shaped
  rw [PyData.canLay0, h1, PyData.depth, decide_eq_true (by omega)]
  rfl
theorem in_ints {neg : Bool} {s : Int} {ls : List Int} {S : Store} {post : DK} (p : post (.bl (neg ^^ decide (s ∈ ls))) S) : oInT neg (.int s) (tI ls) S post :=
  .inl (.inl ⟨ls.map D.int, .int s, .inl rfl, plains_ints ls, .inl ⟨rfl, by rw [toP]⟩, rfl, by rw [toPs_ints]; exact shaped_ints ls, by rw [toPs_ints, any_ints]; exact p⟩)
/-! must_be_letter, made_letter -/
def entF (zs ls : List Int) : Int → Nat → List D → Option Int
  | _, _, [] => none
  | last, i, d :: ds => if (enD zs d && (decide (stg d ∈ ls) && decide (last < stg d))) = true then entF zs ls (stg d) (i + 1) ds else some (i : Int)
def letF (zs : List Int) : D → Option Int
  | .tup [sp, .tup es] => if lotD zs sp = true then entF zs (intsD sp) (-1) 0 es else some (-1)
  | _ => some (-1)
theorem letF_len {zs : List Int} {xs : List D} (h : xs.length ≠ 2) : letF zs (.tup xs) = some (-1) := by
  unfold letF
  split
  · rename_i e
    cases e
    exact absurd rfl h
  · rfl
/-- the part of a letter that is to be a lot -/
def spanOf (d : D) : D := (partsD d).getD 0 .non
def bodyOf (d : D) : D := (partsD d).getD 1 .non
def b_must_be_letter (K : PySem.W.Frag) (cl : CL) : DS :=
  (dSeq (dIfS (dOr (dNot (dTest (dCall sp_plain_pair (dCons (dVar 1) dNil)))) (dOr (dNot (dTest (dCall sp_lot_of (dCons (dVar 0) (dCons (dOp oIx (dVar 1) (dC (.int 0))) dNil))))) (dNot (dTest (dIsTy "tuple" (dOp oIx (dVar 1) (dC (.int 1)))))))) (dRaise cl.c_BadLetter (dUn oNeg (dC (.int 1)))) dNext)
    (dSeq (dAsg (dVar 1) (gTup 2 (gCons (gName 2) (gCons (gName 3) gNil))))
    (dSeq (dAsg (dUn oNeg (dC (.int 1))) (gName 4))
    (dFor (wEnum1 (dCons (dVar 3) dNil)) (gTup 2 (gCons (gName 5) (gCons (gName 6) gNil))) (dSeq (dIfS (dOr (dNot (dTest (dCall sp_entry_of (dCons (dVar 0) (dCons (dVar 6) dNil))))) (dOr (dTest (dOp (oInT true) (dOp oIx (dVar 6) (dC (.int 0))) (dVar 2))) (dTest (dOp oLe (dOp oIx (dVar 6) (dC (.int 0))) (dVar 4))))) (dRaise cl.c_BadLetter (dVar 5)) dNext)
    (dAsg (dOp oIx (dVar 6) (dC (.int 0))) (gName 4)))))))
def sp_must_be_letter (cl : CL) : DSpX := fun ds S post ex => ∃ (zs : List Int) (d : D), ds = [tI zs, d] ∧ S = [] ∧ okT d = true ∧ (partsD (spanOf d)).length ≤ 1000 ∧ (partsD (bodyOf d)).length ≤ 1000 ∧ (letF zs d = none → post .non []) ∧ ∀ k, letF zs d = some k → ex (.ref cl.c_BadLetter) (.int k) []
theorem len_must_be_letter {cl : CL} : ∀ ds S post ex, sp_must_be_letter cl ds S post ex → ds.length = 2 := by
  rintro _ _ _ _ ⟨_, _, rfl, _⟩
  rfl
theorem hd_must_be_letter {K : PySem.W.Frag} {cl : CL} (hC : Clf K cl) : ∀ ds S post ex, sp_must_be_letter cl ds S post ex → b_must_be_letter K cl (endsX S post ex) (startD ["sizes", "thing", "span", "entries", "last", "index", "entry"] ds) S := by
  rintro ds S post ex ⟨zs, d, rfl, rfl, hd, hl1, hl2, h1, h2⟩
  unfold b_must_be_letter
  rw [go_seqS]
  try walk_at "dgo1"
  refine call_pair hd ?_
  try walk_at "dgo1"
  cases hp : isPr d with
  | false =>
    have e : letF zs d = some (-1) := by
      unfold letF
      split
      · simp [isPr] at hp
      · rfl
    rw [if_pos (by first | decide | simp)]
    try walk_at "dgo1"
    try rw [if_pos (by first | decide | simp)]
    exact end_none (by simp [below]) (h2 _ e)
  | true =>
    obtain ⟨sp, bd, rfl⟩ := isPr_two hp
    rw [okT, okTs_iff] at hd
    have o1 := hd sp (by simp)
    have o2 := hd bd (by simp)
    have l1 : (partsD sp).length ≤ 1000 := hl1
    have l2 : (partsD bd).length ≤ 1000 := hl2
    rw [if_neg (by decide)]
    try walk_at "dgo1"
    refine call_lotof o1 l1 ?_
    try walk_at "dgo1"
    cases hlt : lotD zs sp with
    | false =>
      have e : letF zs (.tup [sp, bd]) = some (-1) := by
        unfold letF
        split
        · rename_i e
          cases e
          rw [if_neg (by rw [hlt]; decide)]
        · rfl
      try rw [if_pos (by first | decide | simp)]
      try walk_at "dgo1"
      try rw [if_pos (by first | decide | simp)]
      exact end_none (by simp [below]) (h2 _ e)
    | true =>
      obtain ⟨es1, e2, e3, e4⟩ := lotD_true hlt
      try rw [if_neg (by decide)]
      try walk_at "dgo1"
      by_cases ht : ∃ xs, bd = .tup xs
      · obtain ⟨xs, rfl⟩ := ht
        have l2' : xs.length ≤ 1000 := l2
        rw [okT, okTs_iff] at o2
        have e : letF zs (.tup [sp, .tup xs]) = entF zs (intsD sp) (-1) 0 xs := by
          rw [letF, if_pos hlt]
        rw [e] at h1 h2
        generalize intsD sp = ls at es1 h1 h2
        subst es1
        refine ⟨_, rfl, true, kTt, ?_⟩
        rw [if_neg (by decide)]
        rw [go_seqS]
        try walk_at "dgo1"
        rw [go_seqS]
        try walk_at "dgo1"
        refine ⟨by omega, for_inv (fun i ρ S => ∃ (last : Int) (a b : Option D), ρ = [some (tI zs), some (.tup [tI ls, .tup xs]), some (tI ls), some (.tup xs), some (.int last), a, b] ∧ S = [] ∧ entF zs ls last i (xs.drop i) = entF zs ls (-1) 0 xs) ⟨-1, none, none, rfl, rfl, rfl⟩ (fun _ _ _ _ _ => by first | trivial | exact seqOf_tup.mpr rfl) (fun i d ρ S hdi hI => ?_) fun ρ S hI => ?_⟩
        · obtain ⟨last, a, b, rfl, rfl, hI⟩ := hI
          obtain ⟨x, hx, rfl⟩ := enum1D_get hdi
          rw [drop_cons hx, entF] at hI
          try walk_at "dgo1"
          rw [go_seqS]
          try walk_at "dgo1"
          refine call_entry (o2 x (List.mem_of_getElem? hx)) ?_
          try walk_at "dgo1"
          cases hn : enD zs x with
          | false =>
            rw [hn, Bool.false_and, if_neg (by decide)] at hI
            try rw [if_pos (by first | decide | simp)]
            try walk_at "dgo1"
            try rw [if_pos (by first | decide | simp)]
            exact end_none (by simp [below]) (h2 _ hI.symm)
          | true =>
            rw [hn, Bool.true_and] at hI
            obtain ⟨s, w, c, g, z, rfl, _⟩ := enD_true hn
            try rw [if_neg (by decide)]
            try walk_at "dgo1"
            refine in_ints ?_
            try walk_at "dgo1"
            have est : stg (.tup [.int s, .int w, .tup [.int c, .int g]]) = s := rfl
            rw [est] at hI
            by_cases q1 : s ∈ ls
            · rw [decide_eq_true q1, Bool.true_and] at hI
              try rw [if_neg (by simp [q1])]
              try walk_at "dgo1"
              by_cases q2 : last < s
              · rw [if_pos (decide_eq_true q2)] at hI
                try rw [if_neg (by omega)]
                try walk_at "dgo1"
                exact ⟨s, ⟨_, _, rfl⟩, hI⟩
              · rw [if_neg (by rw [decide_eq_false q2]; decide)] at hI
                try rw [if_pos (by omega)]
                exact end_none (by simp [below]) (h2 _ hI.symm)
            · rw [decide_eq_false q1, Bool.false_and, if_neg (by decide)] at hI
              try rw [if_pos (by simp [q1])]
              exact end_none (by simp [below]) (h2 _ hI.symm)
        · obtain ⟨last, a, b, rfl, rfl, hI⟩ := hI
          rw [enum1D_len, List.drop_length, entF] at hI
          try walk_at "dgo1"
          exact end_none (by simp [below]) (h1 hI.symm)
      · have e : letF zs (.tup [sp, bd]) = some (-1) := by
          unfold letF
          split
          · rename_i e
            cases e
            exact absurd ⟨_, rfl⟩ ht
          · rfl
        have hty : kitB (tyN bd) "tuple" = some false := by
          cases bd <;> simp [okT] at o2 <;> first | exact kNt | exact kBt | exact kIt | exact kSt | exact absurd ⟨_, rfl⟩ ht
        refine ⟨_, okT_ty o2, false, hty, ?_⟩
        try rw [if_pos (by first | decide | simp)]
        exact end_none (by simp [below]) (h2 _ e)
theorem callx_mletter {cl : CL} {zs : List Int} {d : D} {S : Store} {post : DK} {ex : Value → D → Store → Prop} (hd : okT d = true) (hl1 : (partsD (spanOf d)).length ≤ 1000) (hl2 : (partsD (bodyOf d)).length ≤ 1000) (h1 : letF zs d = none → post .non S) (h2 : ∀ k, letF zs d = some k → ex (.ref cl.c_BadLetter) (.int k) S) : callDX (sp_must_be_letter cl) [tI zs, d] S post ex :=
  call_pureX (by simp [belows, okT0 hd, below_tI]) ⟨zs, d, rfl, rfl, hd, hl1, hl2, fun q => by simpa [ren] using h1 q, fun k q => by simpa [ren] using h2 k q⟩
theorem ok_must_be_letter {P : Program} {w : World} {K : PySem.W.Frag} {mg : Str → Option Value} {base : Heap} {f : Addr} {fd : FuncData} (F : Fun K "must_be_letter" "must_be_letter" s_must_be_letter f fd) (W : Bl mg) (cl : CL) (M : Clm mg cl) (hC : Clf K cl) (C_entry_of : CalG P w K mg base 4 "entry_of" sp_entry_of) (C_plain_pair : CalG P w K mg base 1 "plain_pair" sp_plain_pair) (C_lot_of : CalG P w K mg base 3 "lot_of" sp_lot_of) (R_BadLetter : RaiC P w K mg base "BadLetter" cl.c_BadLetter) :
    FnG P w K mg base (L2.CX P w) 5 f fd ["sizes", "thing"] (spLX K (sp_must_be_letter cl)) := by
  refine fn_okX (tb := b_must_be_letter K cl) F sc_must_be_letter len_must_be_letter (fun cdv A outer s H E hgd hr => ?_) (hd_must_be_letter hC)
  have sc := sc_must_be_letter
  have hu := hr.units
  have hu1 := Nat.lt_of_le_of_lt (Nat.add_le_add_left (show 1 ≤ 64 by decide) _) hu
  have hu65 := units65 hr
  have tk := takes_of (X := cxOf (L2.CX P w) P w K mg base ["sizes", "thing", "span", "entries", "last", "index", "entry"] "must_be_letter" (defScope s_must_be_letter) f cdv A outer s H E) (E := E) rfl rfl rfl rfl
  exact (dss_cons (ds_if (PW.pt (dw_or (dt_not (dt_val (de_cal C_plain_pair hgd hr (by decide) (by rfl) (da_cons (de_var 1) da_nil)))) (dw_or (dt_not (dt_val (de_cal C_lot_of hgd hr (by decide) (by rfl) (da_cons (de_var 0) (da_cons (de_ix ix_seq rul_ix (de_var 1) de_int) da_nil))))) (dw_or1 (dt_not (dt_val (de_isTy (de_ix ix_seq rul_ix (de_var 1) de_int) (by rfl) W.isinstance_ (by rfl) W.tuple_ (by rfl)))))))) (dss_one (ds_rai R_BadLetter rfl hr (by decide) tk (by rfl) (de_un un_neg rul_neg de_int))) dss_nil)
      (dss_cons (ds_asg (de_var 1) (dg_tup rfl (dgs_cons (dg_name 2 sc.nd) (dgs_cons (dg_name 3 sc.nd) dgs_nil))))
      (dss_cons (ds_set 4 sc.nd (de_un un_neg rul_neg de_int))
      (dss_one (ds_for (passes_of rfl) rfl (di_enum1 (by rfl) W.enumerate_ (da_cons (de_var 3) da_nil)) (dg_tup rfl (dgs_cons (dg_name 5 sc.nd) (dgs_cons (dg_name 6 sc.nd) dgs_nil))) (dss_cons (ds_if (PW.pt (dw_or (dt_not (dt_val (de_cal C_entry_of hgd hr (by decide) (by rfl) (da_cons (de_var 0) (da_cons (de_var 6) da_nil))))) (dw_or (dt_cmp (op_notIn3 hu65) rul_in3 (de_ix ix_seq rul_ix (de_var 6) de_int) (de_var 2) (by with_unfolding_all rfl)) (dw_or1 (dt_cmp op_le rul_le (de_ix ix_seq rul_ix (de_var 6) de_int) (de_var 4) (nomark _)))))) (dss_one (ds_rai R_BadLetter rfl hr (by decide) tk (by rfl) (de_var 5))) dss_nil)
      (dss_one (ds_set 4 sc.nd (de_ix ix_seq rul_ix (de_var 6) de_int)))))))))
def letR (d1 d2 : D) : Option (Wd × Int) := match sizesF d1 with
  | some k => some (.sizes, k)
  | none => (letF (intsD d1) d2).map fun k => (Wd.letter, k)
def b_made_letter (K : PySem.W.Frag) (cl : CL) : DS :=
  (dSeq (dDropX (dCallX (sp_must_be_letter cl) (dConsX (dCallX (sp_made_sizes cl) (dToXs (dCons (dVar 0) dNil))) (dToXs (dCons (dVar 1) dNil)))))
    (dRet (dVar 1)))
def sp_made_letter (cl : CL) : DSpX := fun ds S post ex => ∃ d1 d2, ds = [d1, d2] ∧ S = [] ∧ okT d1 = true ∧ okT d2 = true ∧ (partsD (spanOf d2)).length ≤ 1000 ∧ (partsD (bodyOf d2)).length ≤ 1000 ∧ (letR d1 d2 = none → post d2 []) ∧ ∀ w k, letR d1 d2 = some (w, k) → ex (.ref (Wd.cls cl w)) (.int k) []
theorem len_made_letter {cl : CL} : ∀ ds S post ex, sp_made_letter cl ds S post ex → ds.length = 2 := by
  rintro _ _ _ _ ⟨_, _, rfl, _⟩
  rfl
theorem hd_made_letter {K : PySem.W.Frag} {cl : CL} (hC : Clf K cl) : ∀ ds S post ex, sp_made_letter cl ds S post ex → b_made_letter K cl (endsX S post ex) (startD ["sizes", "thing"] ds) S := by
  rintro ds S post ex ⟨d1, d2, rfl, rfl, o1, o2, hl1, hl2, h1, h2⟩
  unfold b_made_letter
  rw [go_seqS]
  try walk_at "dgo1"
  unfold letR at h1 h2
  refine callx_sizes o1 (fun hs => ?_) fun k hs => ?_
  · rw [hs] at h1 h2
    obtain ⟨e, hz⟩ := sizesF_none hs
    generalize intsD d1 = zs at e hz h1 h2
    subst e
    try walk_at "dgo1"
    refine callx_mletter o2 hl1 hl2 (fun hr => ?_) fun k hr => ?_
    · try walk_at "dgo1"
      exact end_none (okT0 o2) (h1 (by rw [hr]; rfl))
    · exact end_none (by simp [below]) (h2 .letter k (by rw [hr]; rfl))
  · rw [hs] at h2
    exact end_none (by simp [below]) (h2 .sizes k rfl)
theorem callx_letter {cl : CL} {d1 d2 : D} {S : Store} {post : DK} {ex : Value → D → Store → Prop} (o1 : okT d1 = true) (o2 : okT d2 = true) (hl1 : (partsD (spanOf d2)).length ≤ 1000) (hl2 : (partsD (bodyOf d2)).length ≤ 1000) (h1 : letR d1 d2 = none → post d2 S) (h2 : ∀ w k, letR d1 d2 = some (w, k) → ex (.ref (Wd.cls cl w)) (.int k) S) : callDX (sp_made_letter cl) [d1, d2] S post ex :=
  call_pureX (by simp [belows, okT0 o1, okT0 o2]) ⟨d1, d2, rfl, rfl, o1, o2, hl1, hl2, fun q => ren0 (okT0 o2) (h1 q), fun w k q => by simpa [ren] using h2 w k q⟩
theorem ok_made_letter {P : Program} {w : World} {K : PySem.W.Frag} {mg : Str → Option Value} {base : Heap} {f : Addr} {fd : FuncData} (F : Fun K "made_letter" "made_letter" s_made_letter f fd) (W : Bl mg) (cl : CL) (M : Clm mg cl) (hC : Clf K cl) (C_made_sizes : CalX P w K mg base 3 "made_sizes" (sp_made_sizes cl)) (C_must_be_letter : CalX P w K mg base 5 "must_be_letter" (sp_must_be_letter cl)) :
    FnG P w K mg base (L2.CX P w) 6 f fd ["sizes", "thing"] (spLX K (sp_made_letter cl)) := by
  refine fn_okX (tb := b_made_letter K cl) F sc_made_letter len_made_letter (fun cdv A outer s H E hgd hr => ?_) (hd_made_letter hC)
  have sc := sc_made_letter
  have hu := hr.units
  have hu1 := Nat.lt_of_le_of_lt (Nat.add_le_add_left (show 1 ≤ 64 by decide) _) hu
  have hu65 := units65 hr
  have tk := takes_of (X := cxOf (L2.CX P w) P w K mg base ["sizes", "thing"] "made_letter" (defScope s_made_letter) f cdv A outer s H E) (E := E) rfl rfl rfl rfl
  exact (dss_cons (ds_exprX (de_calX C_must_be_letter hgd hr (by decide) (by rfl) tk (da_consX (de_calX C_made_sizes hgd hr (by decide) (by rfl) tk (da_toX (da_cons (de_var 0) da_nil))) (da_toX (da_cons (de_var 1) da_nil)))))
      (dss_one (ds_ret (de_var 1))))
--@@split
/-! the law's own look -/
def b_lis_below : DS :=
  (dRet (dAndV (dIsTy "int" (dVar 0)) (dAndV (dNotV (dIsTy "bool" (dVar 0))) (dChain oLe oLt (dC (.int 0)) (dVar 0) (dVar 1)))))
def sp_lis_below : DSp := fun ds S post => ∃ d top, ds = [d, .int top] ∧ S = [] ∧ okT d = true ∧ post (.bl (numIn 0 (top - 1) d)) []
theorem len_lis_below : ∀ ds S post, sp_lis_below ds S post → ds.length = 2 := by
  rintro _ _ _ ⟨_, _, rfl, _⟩
  rfl
theorem hd_lis_below : ∀ ds S post, sp_lis_below ds S post → b_lis_below (endsD S post) (startD ["x", "top"] ds) S := by
  rintro ds S post ⟨d, hi, rfl, rfl, hd, h⟩
  unfold b_lis_below
  try walk_at "dgo"
  refine ⟨_, okT_ty hd, ?_⟩
  cases d <;> simp [okT] at hd
  · exact ⟨false, kNi, end_none (by simp [below]) h⟩
  · exact ⟨true, kBi, "bool", rfl, true, kBb, end_none (by simp [below]) h⟩
  · rename_i i
    refine ⟨true, kIi, ?_⟩
    rw [if_pos rfl]
    refine ⟨"int", rfl, false, kIb, ?_⟩
    rw [numIn] at h
    rw [if_pos (by decide)]
    try walk_at "dgo"
    by_cases h1 : 0 ≤ i
    · rw [decide_eq_true h1, Bool.true_and] at h
      have e : decide (i ≤ hi - 1) = decide (i < hi) := by
        by_cases q : i < hi
        · rw [decide_eq_true q, decide_eq_true (by omega)]
        · rw [decide_eq_false q, decide_eq_false (by omega)]
      rw [e] at h
      rw [if_pos h1]
      exact end_none (by simp [below]) h
    · rw [decide_eq_false h1, Bool.false_and] at h
      rw [if_neg h1]
      exact end_none (by simp [below]) h
  · exact ⟨false, kSi, end_none (by simp [below]) h⟩
  · exact ⟨false, kTi, end_none (by simp [below]) h⟩
theorem call_lbel {S : Store} {d : D} {top : Int} {post : DK} (hd : okT d = true) (h : post (.bl (numIn 0 (top - 1) d)) S) : callD sp_lis_below [d, .int top] S post :=
  call_pure (by simp [belows, okT0 hd, below]) ⟨d, top, rfl, rfl, hd, by simpa [ren] using h⟩
theorem ok_lis_below {P : Program} {w : World} {K : PySem.W.Frag} {mg : Str → Option Value} {base : Heap} {f : Addr} {fd : FuncData} (F : Fun K "_law_is_below" "_law_is_below" s_lis_below f fd) (W : Bl mg) :
    FnG P w K mg base CX0 1 f fd ["x", "top"] (spL K sp_lis_below) := by
  refine fn_okG (tb := b_lis_below) F sc_lis_below len_lis_below (fun cdv A outer s H E hgd hr => ?_) hd_lis_below
  have sc := sc_lis_below
  have hu := hr.units
  have hu1 := Nat.lt_of_le_of_lt (Nat.add_le_add_left (show 1 ≤ 64 by decide) _) hu
  have hu65 := units65 hr
  exact (dss_one (ds_ret (de_and (de_isTy (de_var 0) (by rfl) W.isinstance_ (by rfl) W.int_ (by rfl)) (de_and (de_not (de_isTy (de_var 0) (by rfl) W.isinstance_ (by rfl) W.bool_ (by rfl))) (de_one (de_chain op_le rul_le op_lt rul_lt de_int (de_var 0) (de_var 1)))))))
def b_lis_stamp : DS :=
  (dSeq (dIfS (dOr (dNot (dTest (dIsTy "tuple" (dVar 0)))) (dOr (dTest (dOp (oEq true) (dCB cLen (dCons (dVar 0) dNil)) (dC (.int 2)))) (dOr (dNot (dTest (dIsTy "int" (dOp oIx (dVar 0) (dC (.int 0)))))) (dTest (dIsTy "bool" (dOp oIx (dVar 0) (dC (.int 0)))))))) (dRet (dC (.bl false))) dNext)
    (dRet (dAndV (dOp oGe (dOp oIx (dVar 0) (dC (.int 0))) (dC (.int 0))) (dCall sp_lis_below (dCons (dOp oIx (dVar 0) (dC (.int 1))) (dCons (dC (.int 100)) dNil))))))
def sp_lis_stamp : DSp := fun ds S post => ∃ d, ds = [d] ∧ S = [] ∧ okT d = true ∧ post (.bl (stD d)) []
theorem len_lis_stamp : ∀ ds S post, sp_lis_stamp ds S post → ds.length = 1 := by
  rintro _ _ _ ⟨_, rfl, _⟩
  rfl
theorem stD_len {xs : List D} (h : xs.length ≠ 2) : stD (.tup xs) = false := by
  unfold stD
  split
  · rename_i e
    cases e
    exact absurd rfl h
  · rfl
theorem two_of {xs : List D} (h : xs.length = 2) : ∃ a b, xs = [a, b] := by
  match xs, h with
  | [a, b], _ => exact ⟨a, b, rfl⟩
theorem hd_lis_stamp : ∀ ds S post, sp_lis_stamp ds S post → b_lis_stamp (endsD S post) (startD ["x"] ds) S := by
  rintro ds S post ⟨d, rfl, rfl, hd, h⟩
  unfold b_lis_stamp
  rw [go_seqS]
  try walk_at "dgo1"
  refine ⟨_, okT_ty hd, ?_⟩
  cases d <;> simp [okT] at hd
  · exact ⟨false, kNt, by rw [if_pos (by decide)]; exact end_none (by simp [below]) h⟩
  · exact ⟨false, kBt, by rw [if_pos (by decide)]; exact end_none (by simp [below]) h⟩
  · exact ⟨false, kIt, by rw [if_pos (by decide)]; exact end_none (by simp [below]) h⟩
  · exact ⟨false, kSt, by rw [if_pos (by decide)]; exact end_none (by simp [below]) h⟩
  · rename_i xs
    rw [okTs_iff] at hd
    refine ⟨true, kTt, ?_⟩
    rw [if_neg (by decide)]
    try walk_at "dgo1"
    by_cases hl : xs.length = 2
    · obtain ⟨a, b, rfl⟩ := two_of hl
      have ha := hd a (by simp)
      have hb := hd b (by simp)
      rw [if_neg (by simp)]
      try walk_at "dgo1"
      refine ⟨_, okT_ty ha, ?_⟩
      cases a <;> simp [okT] at ha
      · exact ⟨false, kNi, by rw [if_pos (by decide)]; exact end_none (by simp [below]) h⟩
      · refine ⟨true, kBi, ?_⟩
        rw [if_neg (by decide)]
        try walk_at "dgo1"
        exact ⟨"bool", rfl, true, kBb, by rw [if_pos rfl]; exact end_none (by simp [below]) h⟩
      · rename_i c
        refine ⟨true, kIi, ?_⟩
        rw [if_neg (by decide)]
        try walk_at "dgo1"
        refine ⟨"int", rfl, false, kIb, ?_⟩
        rw [if_neg (by decide)]
        try walk_at "dgo1"
        rw [stD] at h
        by_cases hc : 0 ≤ c
        · rw [decide_eq_true hc, Bool.true_and] at h
          rw [if_pos hc]
          exact call_lbel hb (end_none (by simp [below]) h)
        · rw [decide_eq_false hc, Bool.false_and] at h
          rw [if_neg hc]
          exact end_none (by simp [below]) h
      · exact ⟨false, kSi, by rw [if_pos (by decide)]; exact end_none (by simp [below]) h⟩
      · exact ⟨false, kTi, by rw [if_pos (by decide)]; exact end_none (by simp [below]) h⟩
    · rw [stD_len hl] at h
      rw [if_pos (by simp; omega)]
      exact end_none (by simp [below]) h
theorem call_lstamp {S : Store} {d : D} {post : DK} (hd : okT d = true) (h : post (.bl (stD d)) S) : callD sp_lis_stamp [d] S post :=
  call_pure (by simp [belows, okT0 hd]) ⟨d, rfl, rfl, hd, by simpa [ren] using h⟩
theorem ok_lis_stamp {P : Program} {w : World} {K : PySem.W.Frag} {mg : Str → Option Value} {base : Heap} {f : Addr} {fd : FuncData} (F : Fun K "_law_is_stamp" "_law_is_stamp" s_lis_stamp f fd) (W : Bl mg) (C_lis_below : CalG P w K mg base 1 "_law_is_below" sp_lis_below) :
    FnG P w K mg base CX0 2 f fd ["x"] (spL K sp_lis_stamp) := by
  refine fn_okG (tb := b_lis_stamp) F sc_lis_stamp len_lis_stamp (fun cdv A outer s H E hgd hr => ?_) hd_lis_stamp
  have sc := sc_lis_stamp
  have hu := hr.units
  have hu1 := Nat.lt_of_le_of_lt (Nat.add_le_add_left (show 1 ≤ 64 by decide) _) hu
  have hu65 := units65 hr
  exact (dss_cons (ds_if (PW.pt (dw_or (dt_not (dt_val (de_isTy (de_var 0) (by rfl) W.isinstance_ (by rfl) W.tuple_ (by rfl)))) (dw_or (dt_cmp (op_ne2 hu) rul_ne (de_callB call_len_seq rul_len (by rfl) W.len_ PySem.boot_len (da_cons (de_var 0) da_nil)) de_int (nomark _)) (dw_or (dt_not (dt_val (de_isTy (de_ix ix_seq rul_ix (de_var 0) de_int) (by rfl) W.isinstance_ (by rfl) W.int_ (by rfl)))) (dw_or1 (dt_val (de_isTy (de_ix ix_seq rul_ix (de_var 0) de_int) (by rfl) W.isinstance_ (by rfl) W.bool_ (by rfl)))))))) (dss_one (ds_ret de_bl)) dss_nil)
      (dss_one (ds_ret (de_and (de_cmp op_ge rul_ge (de_ix ix_seq rul_ix (de_var 0) de_int) de_int (nomark _)) (de_one (de_cal C_lis_below hgd hr (by decide) (by rfl) (da_cons (de_ix ix_seq rul_ix (de_var 0) de_int) (da_cons de_int da_nil))))))))
def b_lis_entry : DS :=
  (dSeq (dIfS (dOr (dNot (dTest (dIsTy "tuple" (dVar 1)))) (dOr (dTest (dOp (oEq true) (dCB cLen (dCons (dVar 1) dNil)) (dC (.int 3)))) (dNot (dTest (dCall sp_lis_below (dCons (dOp oIx (dVar 1) (dC (.int 0))) (dCons (dCB cLen (dCons (dVar 0) dNil)) dNil))))))) (dRet (dC (.bl false))) dNext)
    (dRet (dAndV (dCall sp_lis_below (dCons (dOp oIx (dVar 1) (dC (.int 1))) (dCons (dOp oIx (dVar 0) (dOp oIx (dVar 1) (dC (.int 0)))) dNil))) (dCall sp_lis_stamp (dCons (dOp oIx (dVar 1) (dC (.int 2))) dNil)))))
def sp_lis_entry : DSp := fun ds S post => ∃ (zs : List Int) (d : D), ds = [tI zs, d] ∧ S = [] ∧ okT d = true ∧ post (.bl (enD zs d)) []
theorem len_lis_entry : ∀ ds S post, sp_lis_entry ds S post → ds.length = 2 := by
  rintro _ _ _ ⟨_, _, rfl, _⟩
  rfl
theorem enD_three {zs : List Int} {a b s : D} : enD zs (.tup [a, b, s]) = (numIn 0 ((zs.length : Int) - 1) a && (numIn 0 (zs.getD (stg (.tup [a, b])).toNat 0 - 1) b && stD s)) := by
  rw [enD, hasW_two, Bool.and_assoc]
theorem hd_lis_entry : ∀ ds S post, sp_lis_entry ds S post → b_lis_entry (endsD S post) (startD ["sizes", "x"] ds) S := by
  rintro ds S post ⟨zs, d, rfl, rfl, hd, h⟩
  unfold b_lis_entry
  rw [go_seqS]
  try walk_at "dgo1"
  refine ⟨_, okT_ty hd, ?_⟩
  cases d <;> simp [okT] at hd
  · exact ⟨false, kNt, by rw [if_pos (by decide)]; exact end_none (by simp [below]) h⟩
  · exact ⟨false, kBt, by rw [if_pos (by decide)]; exact end_none (by simp [below]) h⟩
  · exact ⟨false, kIt, by rw [if_pos (by decide)]; exact end_none (by simp [below]) h⟩
  · exact ⟨false, kSt, by rw [if_pos (by decide)]; exact end_none (by simp [below]) h⟩
  · rename_i xs
    rw [okTs_iff] at hd
    refine ⟨true, kTt, ?_⟩
    rw [if_neg (by decide)]
    try walk_at "dgo1"
    by_cases hl : xs.length = 3
    · obtain ⟨a, b, s, rfl⟩ := three_of hl
      have ha := hd a (by simp)
      have hb := hd b (by simp)
      have hs := hd s (by simp)
      rw [enD_three] at h
      rw [if_neg (by simp)]
      try walk_at "dgo1"
      refine call_lbel ha ?_
      try walk_at "dgo1"
      cases hn : numIn 0 ((zs.length : Int) - 1) a with
      | false =>
        rw [hn, Bool.false_and] at h
        rw [if_pos (by first | decide | simp)]
        exact end_none (by simp [below]) h
      | true =>
        rw [hn, Bool.true_and] at h
        rw [if_neg (by decide)]
        obtain ⟨i, rfl, h1, h2⟩ := numIn_int hn
        have hi : i.toNat < zs.length := by omega
        have hz := List.getElem?_eq_getElem hi
        have e : (stg (.tup [.int i, b])).toNat = i.toNat := rfl
        rw [e, getD_of hz] at h
        try walk_at "dgo1"
        refine ⟨.int zs[i.toNat], atI_of h1 (by rw [List.getElem?_map, hz]; rfl), ?_⟩
        refine call_lbel hb ?_
        try walk_at "dgo1"
        cases hm : numIn 0 (zs[i.toNat] - 1) b with
        | false =>
          rw [hm, Bool.false_and] at h
          rw [if_neg (by decide)]
          exact end_none (by simp [below]) h
        | true =>
          rw [hm, Bool.true_and] at h
          rw [if_pos rfl]
          try walk_at "dgo1"
          exact call_lstamp hs (end_none (by simp [below]) h)
    · rw [enD_len hl] at h
      rw [if_pos (by simp; omega)]
      exact end_none (by simp [below]) h
theorem call_lentry {S : Store} {zs : List Int} {d : D} {post : DK} (hd : okT d = true) (h : post (.bl (enD zs d)) S) : callD sp_lis_entry [tI zs, d] S post :=
  call_pure (by simp [belows, okT0 hd, below_tI]) ⟨zs, d, rfl, rfl, hd, by simpa [ren] using h⟩
theorem ok_lis_entry {P : Program} {w : World} {K : PySem.W.Frag} {mg : Str → Option Value} {base : Heap} {f : Addr} {fd : FuncData} (F : Fun K "_law_is_entry" "_law_is_entry" s_lis_entry f fd) (W : Bl mg) (C_lis_below : CalG P w K mg base 1 "_law_is_below" sp_lis_below) (C_lis_stamp : CalG P w K mg base 2 "_law_is_stamp" sp_lis_stamp) :
    FnG P w K mg base CX0 3 f fd ["sizes", "x"] (spL K sp_lis_entry) := by
  refine fn_okG (tb := b_lis_entry) F sc_lis_entry len_lis_entry (fun cdv A outer s H E hgd hr => ?_) hd_lis_entry
  have sc := sc_lis_entry
  have hu := hr.units
  have hu1 := Nat.lt_of_le_of_lt (Nat.add_le_add_left (show 1 ≤ 64 by decide) _) hu
  have hu65 := units65 hr
  exact (dss_cons (ds_if (PW.pt (dw_or (dt_not (dt_val (de_isTy (de_var 1) (by rfl) W.isinstance_ (by rfl) W.tuple_ (by rfl)))) (dw_or (dt_cmp (op_ne2 hu) rul_ne (de_callB call_len_seq rul_len (by rfl) W.len_ PySem.boot_len (da_cons (de_var 1) da_nil)) de_int (nomark _)) (dw_or1 (dt_not (dt_val (de_cal C_lis_below hgd hr (by decide) (by rfl) (da_cons (de_ix ix_seq rul_ix (de_var 1) de_int) (da_cons (de_callB call_len_seq rul_len (by rfl) W.len_ PySem.boot_len (da_cons (de_var 0) da_nil)) da_nil))))))))) (dss_one (ds_ret de_bl)) dss_nil)
      (dss_one (ds_ret (de_and (de_cal C_lis_below hgd hr (by decide) (by rfl) (da_cons (de_ix ix_seq rul_ix (de_var 1) de_int) (da_cons (de_ix ix_seq rul_ix (de_var 0) (de_ix ix_seq rul_ix (de_var 1) de_int)) da_nil))) (de_one (de_cal C_lis_stamp hgd hr (by decide) (by rfl) (da_cons (de_ix ix_seq rul_ix (de_var 1) de_int) da_nil)))))))
--@@split
/-! comprehensions over known things -/
section
variable {g : DG} {tt : DT} {te : DE} {vs : List Nat} {ρ : DEnv} {post : DK} {C : Store → Prop} {S1 : Store} {α : Type} {es : List α} {f v : α → D}
/-- a comprehension over known things that leaves the store alone -/
theorem lc_fm (c : α → Bool) (hC : C S1) (hl : es.length ≤ 100000)
    (step : ∀ (a : α) (acc : List D) (J : List D → Store → Prop), a ∈ es → acc.length ≤ 100000 → (c a = true → J (acc ++ [v a]) S1) → (c a = false → J acc S1) →
      g (f a) (wipeD ρ vs) S1 fun ρ2 S2 => tt ρ2 S2 fun b S3 => if b = true then te ρ2 S3 fun y S4 => acc.length ≤ 100000 ∧ J (acc ++ [y]) S4 else J acc S3)
    (fin : post (.lr S1.length) (S1 ++ [.lst ((es.filter c).map v)])) : lcK g tt te vs ρ post (es.map f) C S1 := by
  refine lc_inv (fun i acc S => S = S1 ∧ acc = ((es.take i).filter c).map v) ⟨rfl, rfl⟩ (fun i acc S _ h => by rw [h.1]; exact hC) (fun i d acc S hd h => ?_) fun acc S h => ?_
  · obtain ⟨rfl, rfl⟩ := h
    rw [List.getElem?_map] at hd
    cases q : es[i]? with
    | none =>
      rw [q] at hd
      cases hd
    | some a =>
      rw [q] at hd
      cases hd
      have ht : es.take (i + 1) = es.take i ++ [a] := by rw [List.take_add_one, q]; rfl
      refine step a _ (fun acc S' => S' = S ∧ acc = ((es.take (i + 1)).filter c).map v) (List.mem_iff_getElem?.mpr ⟨i, q⟩) ?_ (fun h => ?_) fun h => ?_
      · rw [List.length_map]
        have h1 := List.length_filter_le c (es.take i)
        have h2 := List.length_take_le i es
        have h3 := List.length_take_le' i es
        omega
      · refine ⟨rfl, ?_⟩
        rw [ht, List.filter_append, List.map_append, List.filter_cons_of_pos h]
        rfl
      · refine ⟨rfl, ?_⟩
        rw [ht, List.filter_append, List.filter_cons_of_neg (by rw [h]; decide), List.filter_nil, List.append_nil]
  · obtain ⟨rfl, rfl⟩ := h
    rw [List.length_map, List.take_length]
    exact fin
end
theorem filter_true {α : Type} (es : List α) : es.filter (fun _ => true) = es := List.filter_eq_self.mpr fun _ _ => rfl
section
variable {g : DG} {tt : DT} {te : DE} {vs : List Nat} {ρ : DEnv} {post : DK} {C : Store → Prop} {S1 : Store}
theorem lc_self {xs : List D} (c : D → Bool) (hC : C S1) (hl : xs.length ≤ 100000)
    (step : ∀ (a : D) (acc : List D) (J : List D → Store → Prop), a ∈ xs → acc.length ≤ 100000 → (c a = true → J (acc ++ [a]) S1) → (c a = false → J acc S1) →
      g a (wipeD ρ vs) S1 fun ρ2 S2 => tt ρ2 S2 fun b S3 => if b = true then te ρ2 S3 fun y S4 => acc.length ≤ 100000 ∧ J (acc ++ [y]) S4 else J acc S3)
    (fin : post (.lr S1.length) (S1 ++ [.lst (xs.filter c)])) : lcK g tt te vs ρ post xs C S1 := by
  have e : xs.map (fun d => d) = xs := by simp
  have q := lc_fm (es := xs) (f := fun d => d) (v := fun d => d) (C := C) (post := post) (ρ := ρ) (g := g) (tt := tt) (te := te) (vs := vs) c hC hl step (by rw [show (xs.filter c).map (fun d => d) = xs.filter c by simp]; exact fin)
  rwa [e] at q
end
/-- a list of things compared with [] -/
theorem oEq_dnil {neg : Bool} {k : Nat} {xs : List D} {S : Store} {n m : Nat} {post : DK} (hx : ∀ d ∈ xs, Th k d) (hk : k ≤ 60) (hn : S[n]? = some (.lst xs)) (hm : S[m]? = some (.lst [])) (p : post (.bl (neg ^^ decide (xs = []))) S) : oEq neg (.lr n) (.lr m) S post := by
  have t := th_tup hx
  have pl : plains xs = true := by
    have := okT_plain _ t.ok
    rwa [DL.plain] at this
  refine ⟨_, _, .inr ⟨n, _, rfl, hn, pl, rfl⟩, .inr ⟨m, _, rfl, hm, rfl, rfl⟩, ?_, rfl, ?_⟩
  · have h1 := t.cl
    have h2 := t.dp
    rw [toP, PyData.canLay0] at h1
    rw [toP, PyData.depth] at h2
    unfold SeqAt.shaped
    rw [PyData.canLay0, h1, PyData.depth, decide_eq_true (by omega)]
    rfl
  · have e : PyData.eqv (.list (toPs xs)) (.list (toPs [])) = decide (xs = []) := by
      cases xs <;> simp [toPs, PyData.eqv, PyData.eqvAll]
    rw [e]
    exact p
/-- the places at which ints don't rise -/
def falls (xs : List Int) : List Int := ((List.range (xs.length - 1)).filter fun i => decide (xs.getD (i + 1) 0 ≤ xs.getD i 0)).map fun i : Nat => (1 : Int) + (i : Int)
theorem falls_nil (xs : List Int) : decide (falls xs = []) = risesI xs := by
  unfold falls risesI
  rw [Bool.eq_iff_iff, decide_eq_true_eq, List.map_eq_nil_iff, List.filter_eq_nil_iff, List.all_eq_true]
  constructor
  · intro h i hi
    have := h i hi
    rw [decide_eq_true_eq] at this
    exact decide_eq_true (by omega)
  · intro h i hi
    have := of_decide_eq_true (h i hi)
    rw [decide_eq_true_eq]
    omega
def b_lis_lot : DS :=
  (dSeq (dIfS (dOr (dNot (dTest (dIsTy "tuple" (dVar 1)))) (dTest (dOp (oEq false) (dVar 1) (dTup dNil)))) (dRet (dC (.bl false))) dNext)
    (dSeq (dIfS (dTest (dOp (oEq true) (dLc (wSeq (dVar 1)) (gName 2) (dNot (dTest (dCall sp_lis_below (dCons (dVar 2) (dCons (dCB cLen (dCons (dVar 0) dNil)) dNil))))) (dVar 2) [2]) (dLst dNil))) (dRet (dC (.bl false))) dNext)
    (dRet (dGc0 (dOp (oEq false) (dLc (wRng2 (dCons (dC (.int 1)) (dCons (dCB cLen (dCons (dVar 1) dNil)) dNil))) (gName 3) (dTest (dOp oGe (dOp oIx (dVar 1) (dOp oSub (dVar 3) (dC (.int 1)))) (dOp oIx (dVar 1) (dVar 3)))) (dVar 3) [3]) (dLst dNil))))))
def sp_lis_lot : DSp := fun ds S post => ∃ (zs : List Int) (d : D), ds = [tI zs, d] ∧ S = [] ∧ Th 50 d ∧ (partsD d).length ≤ 1000 ∧ post (.bl (lotD zs d)) []
theorem len_lis_lot : ∀ ds S post, sp_lis_lot ds S post → ds.length = 2 := by
  rintro _ _ _ ⟨_, _, rfl, _⟩
  rfl
theorem th_parts {k : Nat} {xs : List D} (h : Th (k + 1) (.tup xs)) : ∀ d ∈ xs, Th k d := by
  have h1 := h.ok
  have h2 := h.cl
  have h3 := h.dp
  rw [okT] at h1
  rw [toP, PyData.canLay0] at h2
  rw [toP, PyData.depth] at h3
  have h3' : PyData.depthAll (toPs xs) ≤ k := by omega
  clear h h3
  induction xs with
  | nil => exact fun _ q => nomatch q
  | cons x xs ih =>
    rw [okTs, Bool.and_eq_true] at h1
    rw [toPs, PyData.canLayAll0, Bool.and_eq_true] at h2
    rw [toPs, PyData.depthAll] at h3'
    intro d hd
    rcases List.mem_cons.mp hd with rfl | hd
    · exact ⟨h1.1, h2.1, by omega⟩
    · exact ih h1.2 h2.2 (by omega) d hd
theorem hd_lis_lot : ∀ ds S post, sp_lis_lot ds S post → b_lis_lot (endsD S post) (startD ["sizes", "x", "one", "at"] ds) S := by
  rintro ds S post ⟨zs, d, rfl, rfl, hT, hl, h⟩
  have hd := hT.ok
  unfold b_lis_lot
  rw [go_seqS]
  try walk_at "dgo1"
  refine ⟨_, okT_ty hd, ?_⟩
  cases d <;> simp [okT] at hd
  · exact ⟨false, kNt, by rw [if_pos (by decide)]; exact end_none (by simp [below]) h⟩
  · exact ⟨false, kBt, by rw [if_pos (by decide)]; exact end_none (by simp [below]) h⟩
  · exact ⟨false, kIt, by rw [if_pos (by decide)]; exact end_none (by simp [below]) h⟩
  · exact ⟨false, kSt, by rw [if_pos (by decide)]; exact end_none (by simp [below]) h⟩
  · rename_i xs
    have hp := th_parts (k := 49) hT
    have hl' : xs.length ≤ 1000 := hl
    rw [okTs_iff] at hd
    refine ⟨true, kTt, ?_⟩
    rw [if_neg (by decide)]
    try walk_at "dgo1"
    refine ⟨by decide, oEq_nil hp (by decide) ?_⟩
    rw [Bool.false_xor]
    try walk_at "dgo1"
    by_cases h0 : xs = []
    · subst h0
      rw [if_pos rfl]
      exact end_none (by simp [below]) h
    rw [if_neg h0]
    rw [go_seqS]
    try walk_at "dgo1"
    refine lc_self (fun d => !numIn 0 ((zs.length : Int) - 1) d) trivial (by omega) (fun a acc J hm ha g1 g2 => ?_) ?_
    · try walk_at "dgo1"
      refine call_lbel (hd a hm) ?_
      try walk_at "dgo1"
      cases hn : numIn 0 ((zs.length : Int) - 1) a with
      | false => exact (by rw [if_pos (by first | decide | simp)]; exact ⟨ha, g1 (by rw [hn]; rfl)⟩)
      | true => exact (by rw [if_neg (by decide)]; exact g2 (by rw [hn]; rfl))
    have hf : ∀ d ∈ xs.filter fun d => !numIn 0 ((zs.length : Int) - 1) d, Th 49 d := fun d hd => hp d (List.mem_filter.mp hd).1
    refine ⟨by decide, oEq_dnil hf (by decide) rfl rfl ?_⟩
    try walk_at "dgo1"
    have hall : decide ((xs.filter fun d => !numIn 0 ((zs.length : Int) - 1) d) = []) = xs.all (numIn 0 ((zs.length : Int) - 1)) := by
      rw [Bool.eq_iff_iff, decide_eq_true_eq, List.filter_eq_nil_iff, List.all_eq_true]
      constructor
      · intro q d hd
        have := q d hd
        simpa using this
      · intro q d hd
        have := q d hd
        simp [this]
    rw [hall]
    have hfb : belows 2 (xs.filter fun d => !numIn 0 ((zs.length : Int) - 1) d) = true := belows_iff.mpr fun d hd => okT_below 2 d (hf d hd).ok
    generalize (xs.filter fun d => !numIn 0 ((zs.length : Int) - 1) d) = fs at hfb ⊢
    cases hax : xs.all (numIn 0 ((zs.length : Int) - 1)) with
    | false =>
      have e : lotD zs (.tup xs) = false := by
        unfold lotD srD
        show ((true && (xs.all _ && _)) && _) = false
        rw [hax]
        rfl
      rw [e] at h
      rw [if_pos (by first | decide | simp)]
      exact end_none (by simp [below]) h
    | true =>
      rw [if_neg (by decide)]
      have e2 := all_in hax
      have hlen : (intsD (.tup xs)).length = xs.length := by unfold intsD; rw [List.length_map]; rfl
      have e : lotD zs (.tup xs) = risesI (intsD (.tup xs)) := by
        unfold lotD srD
        show ((true && (xs.all _ && _)) && decide (0 < xs.length)) = _
        rw [hax, decide_eq_true (List.length_pos_iff.mpr h0)]
        simp
      rw [e] at h
      have exs : xs = (intsD (.tup xs)).map D.int := by
        have : D.tup xs = .tup ((intsD (.tup xs)).map D.int) := e2
        injection this
      refine ⟨by decide, by decide, by omega, by omega, lc_pure (fun i => decide ((intsD (.tup xs)).getD (i + 1) 0 ≤ (intsD (.tup xs)).getD i 0)) (fun i => .int (1 + (i : Int))) trivial (by rw [upTo_len]; omega) (fun i d acc J hi hacc g1 g2 => ?_) ?_⟩
      · obtain ⟨hi2, rfl⟩ := upTo_get hi
        generalize intsD (.tup xs) = ls at exs hlen h g1 g2
        subst exs
        have l1 : i < ls.length := by omega
        have l2 : i + 1 < ls.length := by omega
        try walk_at "dgo1"
        refine ⟨.int ls[i], atI_of (by omega) (by rw [show ((1 : Int) + (i : Int) - 1).toNat = i by omega, List.getElem?_map, List.getElem?_eq_getElem l1]; rfl), .int ls[i + 1], atI_of (by omega) (by rw [show ((1 : Int) + (i : Int)).toNat = i + 1 by omega, List.getElem?_map, List.getElem?_eq_getElem l2]; rfl), ?_⟩
        rw [getD_of (List.getElem?_eq_getElem l1), getD_of (List.getElem?_eq_getElem l2)] at g1 g2
        try walk_at "dgo1"
        by_cases q : ls[i + 1] ≤ ls[i]
        · rw [if_pos q]
          exact ⟨hacc, g1 (decide_eq_true q)⟩
        · rw [if_neg q]
          exact g2 (decide_eq_false q)
      · have en : ((xs.length : Int) - 1).toNat = (intsD (.tup xs)).length - 1 := by omega
        rw [upTo_len, en]
        have ef : flt (fun i => decide ((intsD (.tup xs)).getD (i + 1) 0 ≤ (intsD (.tup xs)).getD i 0)) (fun i => D.int (1 + (i : Int))) ((intsD (.tup xs)).length - 1) = (falls (intsD (.tup xs))).map D.int := by
          unfold flt falls
          rw [List.map_map]
          rfl
        rw [ef]
        refine ⟨by decide, oEq_lnil (xs := falls (intsD (.tup xs))) rfl rfl ?_⟩
        rw [Bool.false_xor, falls_nil]
        refine ⟨by simp [below], ?_, ?_⟩
        · show (belows 2 fs && (belows 2 [] && true)) = true
          rw [hfb]
          rfl
        · exact end_none (by simp [below]) h
theorem call_llot {S : Store} {zs : List Int} {d : D} {post : DK} (hd : Th 50 d) (hl : (partsD d).length ≤ 1000) (h : post (.bl (lotD zs d)) S) : callD sp_lis_lot [tI zs, d] S post :=
  call_pure (by simp [belows, okT0 hd.ok, below_tI]) ⟨zs, d, rfl, rfl, hd, hl, by simpa [ren] using h⟩
theorem ok_lis_lot {P : Program} {w : World} {K : PySem.W.Frag} {mg : Str → Option Value} {base : Heap} {f : Addr} {fd : FuncData} (F : Fun K "_law_is_lot" "_law_is_lot" s_lis_lot f fd) (W : Bl mg) (C_lis_below : CalG P w K mg base 1 "_law_is_below" sp_lis_below) :
    FnG P w K mg base CX0 2 f fd ["sizes", "x"] (spL K sp_lis_lot) := by
  refine fn_okG (tb := b_lis_lot) F sc_lis_lot len_lis_lot (fun cdv A outer s H E hgd hr => ?_) hd_lis_lot
  have sc := sc_lis_lot
  have hu := hr.units
  have hu1 := Nat.lt_of_le_of_lt (Nat.add_le_add_left (show 1 ≤ 64 by decide) _) hu
  have hu65 := units65 hr
  exact (dss_cons (ds_if (PW.pt (dw_or (dt_not (dt_val (de_isTy (de_var 1) (by rfl) W.isinstance_ (by rfl) W.tuple_ (by rfl)))) (dw_or1 (dt_cmp (op_eq2 hu) rul_eq (de_var 1) (de_tup da_nil) (nomark _))))) (dss_one (ds_ret de_bl)) dss_nil)
      (dss_cons (ds_if (dt_cmp (op_ne2 hu) rul_ne (de_lc (own := [("one", 2)]) (ws := [2]) (by decide) rfl sc.nd (di_seq (de_var 1)) (blkOk_by (by rfl)) (fun _ _ _ _ _ => (dg_name 2 sc.nd)) (fun _ _ _ _ _ => (dts_one (dt_not (dt_val (de_cal C_lis_below hgd hr (by decide) (by rfl) (da_cons (de_var 2) (da_cons (de_callB call_len_seq rul_len (by rfl) W.len_ PySem.boot_len (da_cons (de_var 0) da_nil)) da_nil))))))) (fun _ _ _ _ _ => (de_var 2))) (de_lst da_nil) (nomark _)) (dss_one (ds_ret de_bl)) dss_nil)
      (dss_one (ds_ret (de_gc0 (de_cmp (op_eq2 hu) rul_eq (de_lc (own := [("at", 3)]) (ws := [3]) (by decide) rfl sc.nd (di_rng2 (by rfl) W.range_ (da_cons de_int (da_cons (de_callB call_len_seq rul_len (by rfl) W.len_ PySem.boot_len (da_cons (de_var 1) da_nil)) da_nil))) (blkOk_by (by rfl)) (fun _ _ _ _ _ => (dg_name 3 sc.nd)) (fun _ _ _ _ _ => (dts_one (dt_cmp op_ge rul_ge (de_ix ix_seq rul_ix (de_var 1) (de_op op_sub rul_sub (de_var 3) de_int)) (de_ix ix_seq rul_ix (de_var 1) (de_var 3)) (nomark _)))) (fun _ _ _ _ _ => (de_var 3))) (de_lst da_nil) (nomark _)))))))
--@@split
/-! _law_row_due, _law_letter_due -/
def dueW : Option (Wd × Int) → D → D
  | some (w, k), _ => .tup [.str w.str, .int k]
  | none, d => .tup [.str "told", d]
theorem dueW_below {o : Option (Wd × Int)} {d : D} (hd : below 0 d = true) : below 0 (dueW o d) = true := by
  cases o with
  | none => simp [dueW, below, belows, hd]
  | some p => simp [dueW, below, belows]
def row2 (zs : List Int) (d2 d3 : D) : Option (Wd × Int) := if lotD zs d2 = true then (rowF zs (intsD d2) d3).map fun k => (Wd.row, k) else some (.lot, -1)
def let2 (zs : List Int) (d : D) : Option (Wd × Int) := (letF zs d).map fun k => (Wd.letter, k)
theorem intsD_tI (zs : List Int) : intsD (tI zs) = zs := by
  unfold intsD tI
  show (zs.map D.int).map _ = zs
  rw [List.map_map]
  conv => rhs; rw [← List.map_id zs]
  rfl
theorem rowR_tI {zs : List Int} (h : Sizes24 zs) (d2 d3 : D) : rowR (tI zs) d2 d3 = row2 zs d2 d3 := by
  unfold rowR row2
  rw [sizesF_tI h, intsD_tI]
theorem letR_tI {zs : List Int} (h : Sizes24 zs) (d : D) : letR (tI zs) d = let2 zs d := by
  unfold letR let2
  rw [sizesF_tI h, intsD_tI]
def b_lrow_due : DS :=
  (dSeq (dIfS (dNot (dTest (dCall sp_lis_lot (dCons (dVar 0) (dCons (dVar 1) dNil))))) (dRet (dTup (dCons (dC (.str "lot")) (dCons (dUn oNeg (dC (.int 1))) dNil)))) dNext)
    (dSeq (dIfS (dOr (dNot (dTest (dIsTy "tuple" (dVar 2)))) (dTest (dOp (oEq true) (dCB cLen (dCons (dVar 2) dNil)) (dCB cLen (dCons (dVar 1) dNil))))) (dRet (dTup (dCons (dC (.str "row")) (dCons (dUn oNeg (dC (.int 1))) dNil)))) dNext)
    (dSeq (dFor (wRng1 (dCons (dCB cLen (dCons (dVar 1) dNil)) dNil)) (gName 3) (dIfS (dOr (dNot (dTest (dCall sp_lis_entry (dCons (dVar 0) (dCons (dOp oIx (dVar 2) (dVar 3)) dNil))))) (dTest (dOp (oEq true) (dOp oIx (dOp oIx (dVar 2) (dVar 3)) (dC (.int 0))) (dOp oIx (dVar 1) (dVar 3))))) (dRet (dTup (dCons (dC (.str "row")) (dCons (dVar 3) dNil)))) dNext))
    (dRet (dTup (dCons (dC (.str "told")) (dCons (dVar 2) dNil)))))))
def sp_lrow_due : DSp := fun ds S post => ∃ (zs : List Int) (d2 d3 : D), ds = [tI zs, d2, d3] ∧ S = [] ∧ Th 50 d2 ∧ okT d3 = true ∧ (partsD d2).length ≤ 1000 ∧ post (dueW (row2 zs d2 d3) d3) []
theorem len_lrow_due : ∀ ds S post, sp_lrow_due ds S post → ds.length = 3 := by
  rintro _ _ _ ⟨_, _, _, rfl, _⟩
  rfl
theorem hd_lrow_due : ∀ ds S post, sp_lrow_due ds S post → b_lrow_due (endsD S post) (startD ["sizes", "lot", "thing", "at"] ds) S := by
  rintro ds S post ⟨zs, d2, d3, rfl, rfl, o2, hd, hl, h⟩
  have hd0 := hd
  unfold b_lrow_due
  rw [go_seqS]
  try walk_at "dgo1"
  refine call_llot o2 hl ?_
  try walk_at "dgo1"
  unfold row2 at h
  cases hlt : lotD zs d2 with
  | false =>
    rw [hlt, if_neg (by decide)] at h
    rw [if_pos (by first | decide | simp)]
    try walk_at "dgo1"
    exact ⟨by decide, end_none (dueW_below (o := some (.lot, -1)) (okT0 hd0)) h⟩
  | true =>
    rw [hlt, if_pos rfl] at h
    obtain ⟨e2, _⟩ := lotD_true hlt
    have hll : (intsD d2).length ≤ 1000 := by unfold intsD; rw [List.length_map]; exact hl
    generalize intsD d2 = ls at e2 hll h
    subst e2
    rw [if_neg (by decide)]
    rw [go_seqS]
    try walk_at "dgo1"
    have bad : rowF zs ls d3 = some (-1) → fnEnd [] post (.tup [.str "row", .int (-1)]) [] := fun e => by
      rw [e] at h
      exact end_none (by simp [below, belows]) h
    refine ⟨_, okT_ty hd, ?_⟩
    cases d3 <;> simp [okT] at hd
    · exact ⟨false, kNt, by rw [if_pos (by decide)]; exact ⟨by decide, bad rfl⟩⟩
    · exact ⟨false, kBt, by rw [if_pos (by decide)]; exact ⟨by decide, bad rfl⟩⟩
    · exact ⟨false, kIt, by rw [if_pos (by decide)]; exact ⟨by decide, bad rfl⟩⟩
    · exact ⟨false, kSt, by rw [if_pos (by decide)]; exact ⟨by decide, bad rfl⟩⟩
    · rename_i xs
      rw [okTs_iff] at hd
      refine ⟨true, kTt, ?_⟩
      rw [if_neg (by decide)]
      try walk_at "dgo1"
      by_cases ql : xs.length = ls.length
      · rw [if_neg (by simp [ql])]
        have e : rowF zs ls (.tup xs) = fstN (fun i x => enD zs x && decide (stg x = ls.getD i 0)) xs := by
          unfold rowF
          rw [if_pos (by simp only [tupIn, Bool.and_eq_true, decide_eq_true_eq]; omega)]
          rfl
        rw [e] at h
        rw [go_seqS]
        try walk_at "dgo1"
        refine ⟨by omega, by omega, for_inv (fun i ρ S => ∃ a, ρ = [some (tI zs), some (tI ls), some (.tup xs), a] ∧ S = [] ∧ ∀ j, j < i → (enD zs (xs.getD j .non) && decide (stg (xs.getD j .non) = ls.getD j 0)) = true) ⟨none, rfl, rfl, fun j hj => by omega⟩ (fun _ _ _ _ _ => trivial) (fun i d ρ S hdi hI => ?_) fun ρ S hI => ?_⟩
        · obtain ⟨a, rfl, rfl, hI⟩ := hI
          obtain ⟨hi, rfl⟩ := upTo_get hdi
          have hi1 : i < ls.length := by omega
          have hi2 : i < xs.length := by omega
          have hxi := List.getElem?_eq_getElem hi2
          have hli := List.getElem?_eq_getElem hi1
          have hox := hd _ (List.getElem_mem hi2)
          generalize xs[i] = x at hxi hox
          generalize ls[i] = s at hli
          have ei : ((0 : Int) + (i : Int)).toNat = i := by omega
          have eii : ((0 : Int) + (i : Int)) = (i : Int) := by omega
          have hat := atI_of (xs := xs) (i := (0 : Int) + (i : Int)) (by omega) (by rw [ei]; exact hxi)
          have hat2 := atI_of (xs := ls.map D.int) (i := (0 : Int) + (i : Int)) (v := .int s) (by omega) (by rw [ei, List.getElem?_map, hli]; rfl)
          have bad2 : fstN (fun i x => enD zs x && decide (stg x = ls.getD i 0)) xs = some (i : Int) → fnEnd [] post (.tup [.str "row", .int (0 + (i : Int))]) [] := fun e => by
            rw [e] at h
            rw [eii]
            exact end_none (by simp [below, belows]) h
          try walk_at "dgo1"
          refine ⟨x, hat, ?_⟩
          refine call_lentry hox ?_
          try walk_at "dgo1"
          cases hn : enD zs x with
          | false =>
            rw [if_pos (by first | decide | simp)]
            try walk_at "dgo1"
            exact ⟨by decide, bad2 (fstN_at hxi hI (by rw [hn]; rfl))⟩
          | true =>
            obtain ⟨s', w, c, g, z, rfl, _⟩ := enD_true hn
            rw [if_neg (by decide)]
            try walk_at "dgo1"
            refine ⟨_, hat, ?_⟩
            try walk_at "dgo1"
            refine ⟨_, hat2, ?_⟩
            try walk_at "dgo1"
            by_cases he : s' = s
            · subst he
              rw [if_neg (by simp)]
              refine ⟨⟨_, rfl⟩, fun j hj => ?_⟩
              by_cases e : j = i
              · subst e
                rw [getD_of hxi, getD_of hli, hn, Bool.true_and]
                exact decide_eq_true rfl
              · exact hI j (by omega)
            · rw [if_pos (by simp [he])]
              refine ⟨by decide, bad2 (fstN_at hxi hI ?_)⟩
              rw [hn, Bool.true_and, getD_of hli]
              exact decide_eq_false he
        · obtain ⟨a, rfl, rfl, hI⟩ := hI
          rw [upTo_len, show ((ls.length : Int)).toNat = ls.length by omega] at hI
          rw [fstN_none (f := fun i x => enD zs x && decide (stg x = ls.getD i 0)) fun j hj => hI j (by omega)] at h
          try walk_at "dgo1"
          exact ⟨by decide, end_none (dueW_below (o := none) (okT0 hd0)) h⟩
      · have e : rowF zs ls (.tup xs) = some (-1) := by
          unfold rowF
          rw [if_neg]
          intro z
          simp only [tupIn, Bool.and_eq_true, decide_eq_true_eq] at z
          omega
        rw [if_pos (by simp; omega)]
        try walk_at "dgo1"
        exact ⟨by decide, bad e⟩
theorem call_lrdue {S : Store} {zs : List Int} {d2 d3 : D} {post : DK} (o2 : Th 50 d2) (o3 : okT d3 = true) (hl : (partsD d2).length ≤ 1000) (h : post (dueW (row2 zs d2 d3) d3) S) : callD sp_lrow_due [tI zs, d2, d3] S post :=
  call_pure (by simp [belows, okT0 o2.ok, okT0 o3, below_tI]) ⟨zs, d2, d3, rfl, rfl, o2, o3, hl, ren0 (dueW_below (okT0 o3)) h⟩
theorem ok_lrow_due {P : Program} {w : World} {K : PySem.W.Frag} {mg : Str → Option Value} {base : Heap} {f : Addr} {fd : FuncData} (F : Fun K "_law_row_due" "_law_row_due" s_lrow_due f fd) (W : Bl mg) (C_lis_entry : CalG P w K mg base 3 "_law_is_entry" sp_lis_entry) (C_lis_lot : CalG P w K mg base 2 "_law_is_lot" sp_lis_lot) :
    FnG P w K mg base CX0 4 f fd ["sizes", "lot", "thing"] (spL K sp_lrow_due) := by
  refine fn_okG (tb := b_lrow_due) F sc_lrow_due len_lrow_due (fun cdv A outer s H E hgd hr => ?_) hd_lrow_due
  have sc := sc_lrow_due
  have hu := hr.units
  have hu1 := Nat.lt_of_le_of_lt (Nat.add_le_add_left (show 1 ≤ 64 by decide) _) hu
  have hu65 := units65 hr
  exact (dss_cons (ds_if (dt_not (dt_val (de_cal C_lis_lot hgd hr (by decide) (by rfl) (da_cons (de_var 0) (da_cons (de_var 1) da_nil))))) (dss_one (ds_ret (de_tup (da_cons de_str (da_cons (de_un un_neg rul_neg de_int) da_nil))))) dss_nil)
      (dss_cons (ds_if (PW.pt (dw_or (dt_not (dt_val (de_isTy (de_var 2) (by rfl) W.isinstance_ (by rfl) W.tuple_ (by rfl)))) (dw_or1 (dt_cmp (op_ne2 hu) rul_ne (de_callB call_len_seq rul_len (by rfl) W.len_ PySem.boot_len (da_cons (de_var 2) da_nil)) (de_callB call_len_seq rul_len (by rfl) W.len_ PySem.boot_len (da_cons (de_var 1) da_nil)) (nomark _))))) (dss_one (ds_ret (de_tup (da_cons de_str (da_cons (de_un un_neg rul_neg de_int) da_nil))))) dss_nil)
      (dss_cons (ds_for PassesOwn.never rfl (di_rng1 (by rfl) W.range_ (da_cons (de_callB call_len_seq rul_len (by rfl) W.len_ PySem.boot_len (da_cons (de_var 1) da_nil)) da_nil)) (dg_name 3 sc.nd) (dss_one (ds_if (PW.pt (dw_or (dt_not (dt_val (de_cal C_lis_entry hgd hr (by decide) (by rfl) (da_cons (de_var 0) (da_cons (de_ix ix_seq rul_ix (de_var 2) (de_var 3)) da_nil))))) (dw_or1 (dt_cmp (op_ne2 hu) rul_ne (de_ix ix_seq rul_ix (de_ix ix_seq rul_ix (de_var 2) (de_var 3)) de_int) (de_ix ix_seq rul_ix (de_var 1) (de_var 3)) (nomark _))))) (dss_one (ds_ret (de_tup (da_cons de_str (da_cons (de_var 3) da_nil))))) dss_nil)))
      (dss_one (ds_ret (de_tup (da_cons de_str (da_cons (de_var 2) da_nil))))))))
def b_lletter_due : DS :=
  (dSeq (dIfS (dOr (dNot (dTest (dIsTy "tuple" (dVar 1)))) (dTest (dOp (oEq true) (dCB cLen (dCons (dVar 1) dNil)) (dC (.int 2))))) (dRet (dTup (dCons (dC (.str "letter")) (dCons (dUn oNeg (dC (.int 1))) dNil)))) dNext)
    (dSeq (dIfS (dOr (dNot (dTest (dCall sp_lis_lot (dCons (dVar 0) (dCons (dOp oIx (dVar 1) (dC (.int 0))) dNil))))) (dNot (dTest (dIsTy "tuple" (dOp oIx (dVar 1) (dC (.int 1))))))) (dRet (dTup (dCons (dC (.str "letter")) (dCons (dUn oNeg (dC (.int 1))) dNil)))) dNext)
    (dSeq (dAsg (dUn oNeg (dC (.int 1))) (gName 2))
    (dSeq (dFor (wRng1 (dCons (dCB cLen (dCons (dOp oIx (dVar 1) (dC (.int 1))) dNil)) dNil)) (gName 3) (dSeq (dAsg (dOp oIx (dOp oIx (dVar 1) (dC (.int 1))) (dVar 3)) (gName 4))
    (dSeq (dIfS (dOr (dNot (dTest (dCall sp_lis_entry (dCons (dVar 0) (dCons (dVar 4) dNil))))) (dOr (dTest (dOp (oInT true) (dOp oIx (dVar 4) (dC (.int 0))) (dOp oIx (dVar 1) (dC (.int 0))))) (dTest (dOp oLe (dOp oIx (dVar 4) (dC (.int 0))) (dVar 2))))) (dRet (dTup (dCons (dC (.str "letter")) (dCons (dVar 3) dNil)))) dNext)
    (dAsg (dOp oIx (dVar 4) (dC (.int 0))) (gName 2)))))
    (dRet (dTup (dCons (dC (.str "told")) (dCons (dVar 1) dNil))))))))
def sp_lletter_due : DSp := fun ds S post => ∃ (zs : List Int) (d : D), ds = [tI zs, d] ∧ S = [] ∧ Th 51 d ∧ (partsD (spanOf d)).length ≤ 1000 ∧ (partsD (bodyOf d)).length ≤ 1000 ∧ post (dueW (let2 zs d) d) []
theorem len_lletter_due : ∀ ds S post, sp_lletter_due ds S post → ds.length = 2 := by
  rintro _ _ _ ⟨_, _, rfl, _⟩
  rfl
theorem hd_lletter_due : ∀ ds S post, sp_lletter_due ds S post → b_lletter_due (endsD S post) (startD ["sizes", "thing", "last", "at", "one"] ds) S := by
  rintro ds S post ⟨zs, d, rfl, rfl, hT, hl1, hl2, h⟩
  have hd := hT.ok
  have hd0 := hd
  unfold b_lletter_due
  rw [go_seqS]
  try walk_at "dgo1"
  unfold let2 at h
  have bad : letF zs d = some (-1) → fnEnd [] post (.tup [.str "letter", .int (-1)]) [] := fun e => by
    rw [e] at h
    exact end_none (by simp [below, belows]) h
  refine ⟨_, okT_ty hd, ?_⟩
  cases d <;> simp [okT] at hd
  · exact ⟨false, kNt, by rw [if_pos (by decide)]; exact ⟨by decide, bad rfl⟩⟩
  · exact ⟨false, kBt, by rw [if_pos (by decide)]; exact ⟨by decide, bad rfl⟩⟩
  · exact ⟨false, kIt, by rw [if_pos (by decide)]; exact ⟨by decide, bad rfl⟩⟩
  · exact ⟨false, kSt, by rw [if_pos (by decide)]; exact ⟨by decide, bad rfl⟩⟩
  · rename_i xs
    rw [okTs_iff] at hd
    refine ⟨true, kTt, ?_⟩
    rw [if_neg (by decide)]
    try walk_at "dgo1"
    by_cases hl : xs.length = 2
    · obtain ⟨sp, bd, rfl⟩ := two_of hl
      have o1 := th_parts (k := 50) hT sp (by simp)
      have o2 := hd bd (by simp)
      have l1 : (partsD sp).length ≤ 1000 := hl1
      have l2 : (partsD bd).length ≤ 1000 := hl2
      rw [if_neg (by simp)]
      rw [go_seqS]
      try walk_at "dgo1"
      refine call_llot o1 l1 ?_
      try walk_at "dgo1"
      cases hlt : lotD zs sp with
      | false =>
        try rw [if_pos (by first | decide | simp)]
        try walk_at "dgo1"
        try rw [if_pos (by first | decide | simp)]
        refine ⟨by decide, bad ?_⟩
        unfold letF
        split
        · rename_i e
          cases e
          rw [if_neg (by rw [hlt]; decide)]
        · rfl
      | true =>
        obtain ⟨es1, e2, e3, e4⟩ := lotD_true hlt
        try rw [if_neg (by decide)]
        try walk_at "dgo1"
        by_cases ht : ∃ xs, bd = .tup xs
        · obtain ⟨xs, rfl⟩ := ht
          have l2' : xs.length ≤ 1000 := l2
          rw [okT, okTs_iff] at o2
          have e : letF zs (.tup [sp, .tup xs]) = entF zs (intsD sp) (-1) 0 xs := by
            rw [letF, if_pos hlt]
          rw [e] at h
          generalize intsD sp = ls at es1 h
          subst es1
          refine ⟨_, rfl, true, kTt, ?_⟩
          rw [if_neg (by decide)]
          rw [go_seqS]
          try walk_at "dgo1"
          rw [go_seqS]
          try walk_at "dgo1"
          refine ⟨by omega, by omega, for_inv (fun i ρ S => ∃ (last : Int) (a b : Option D), ρ = [some (tI zs), some (.tup [tI ls, .tup xs]), some (.int last), a, b] ∧ S = [] ∧ entF zs ls last i (xs.drop i) = entF zs ls (-1) 0 xs) ⟨-1, none, none, rfl, rfl, rfl⟩ (fun _ _ _ _ _ => by first | trivial | exact seqOf_tup.mpr rfl) (fun i d ρ S hdi hI => ?_) fun ρ S hI => ?_⟩
          · obtain ⟨last, a, b, rfl, rfl, hI⟩ := hI
            obtain ⟨hi, rfl⟩ := upTo_get hdi
            have hi2 : i < xs.length := by omega
            have hxi := List.getElem?_eq_getElem hi2
            have hox := o2 _ (List.getElem_mem hi2)
            generalize xs[i] = x at hxi hox
            have ei : ((0 : Int) + (i : Int)).toNat = i := by omega
            have eii : ((0 : Int) + (i : Int)) = (i : Int) := by omega
            have hat := atI_of (xs := xs) (i := (0 : Int) + (i : Int)) (by omega) (by rw [ei]; exact hxi)
            rw [drop_cons hxi, entF] at hI
            have bad2 : entF zs ls (-1) 0 xs = some (i : Int) → fnEnd [] post (.tup [.str "letter", .int (0 + (i : Int))]) [] := fun e => by
              rw [e] at h
              rw [eii]
              exact end_none (by simp [below, belows]) h
            try walk_at "dgo1"
            rw [go_seqS]
            try walk_at "dgo1"
            refine ⟨x, hat, ?_⟩
            try walk_at "dgo1"
            rw [go_seqS]
            try walk_at "dgo1"
            refine call_lentry hox ?_
            try walk_at "dgo1"
            cases hn : enD zs x with
            | false =>
              rw [hn, Bool.false_and, if_neg (by decide)] at hI
              try rw [if_pos (by first | decide | simp)]
              try walk_at "dgo1"
              try rw [if_pos (by first | decide | simp)]
              exact ⟨by decide, bad2 hI.symm⟩
            | true =>
              rw [hn, Bool.true_and] at hI
              obtain ⟨s, w, c, g, z, rfl, _⟩ := enD_true hn
              try rw [if_neg (by decide)]
              try walk_at "dgo1"
              refine in_ints ?_
              try walk_at "dgo1"
              have est : stg (.tup [.int s, .int w, .tup [.int c, .int g]]) = s := rfl
              rw [est] at hI
              by_cases q1 : s ∈ ls
              · rw [decide_eq_true q1, Bool.true_and] at hI
                try rw [if_neg (by simp [q1])]
                try walk_at "dgo1"
                by_cases q2 : last < s
                · rw [if_pos (decide_eq_true q2)] at hI
                  try rw [if_neg (by omega)]
                  try walk_at "dgo1"
                  exact ⟨s, ⟨_, _, rfl⟩, hI⟩
                · rw [if_neg (by rw [decide_eq_false q2]; decide)] at hI
                  try rw [if_pos (by omega)]
                  exact ⟨by decide, bad2 hI.symm⟩
              · rw [decide_eq_false q1, Bool.false_and, if_neg (by decide)] at hI
                try rw [if_pos (by simp [q1])]
                exact ⟨by decide, bad2 hI.symm⟩
          · obtain ⟨last, a, b, rfl, rfl, hI⟩ := hI
            rw [upTo_len, show ((xs.length : Int)).toNat = xs.length by omega, List.drop_length, entF] at hI
            rw [← hI] at h
            try walk_at "dgo1"
            exact ⟨by decide, end_none (dueW_below (o := none) (okT0 hd0)) h⟩
        · have e : letF zs (.tup [sp, bd]) = some (-1) := by
            unfold letF
            split
            · rename_i e
              cases e
              exact absurd ⟨_, rfl⟩ ht
            · rfl
          have hty : kitB (tyN bd) "tuple" = some false := by
            cases bd <;> simp [okT] at o2 <;> first | exact kNt | exact kBt | exact kIt | exact kSt | exact absurd ⟨_, rfl⟩ ht
          refine ⟨_, okT_ty o2, false, hty, ?_⟩
          try rw [if_pos (by first | decide | simp)]
          exact ⟨by decide, bad e⟩
    · rw [if_pos (by simp; omega)]
      exact ⟨by decide, bad (letF_len hl)⟩
theorem call_lldue {S : Store} {zs : List Int} {d : D} {post : DK} (hT : Th 51 d) (hl1 : (partsD (spanOf d)).length ≤ 1000) (hl2 : (partsD (bodyOf d)).length ≤ 1000) (h : post (dueW (let2 zs d) d) S) : callD sp_lletter_due [tI zs, d] S post :=
  call_pure (by simp [belows, okT0 hT.ok, below_tI]) ⟨zs, d, rfl, rfl, hT, hl1, hl2, ren0 (dueW_below (okT0 hT.ok)) h⟩
theorem ok_lletter_due {P : Program} {w : World} {K : PySem.W.Frag} {mg : Str → Option Value} {base : Heap} {f : Addr} {fd : FuncData} (F : Fun K "_law_letter_due" "_law_letter_due" s_lletter_due f fd) (W : Bl mg) (C_lis_entry : CalG P w K mg base 3 "_law_is_entry" sp_lis_entry) (C_lis_lot : CalG P w K mg base 2 "_law_is_lot" sp_lis_lot) :
    FnG P w K mg base CX0 4 f fd ["sizes", "thing"] (spL K sp_lletter_due) := by
  refine fn_okG (tb := b_lletter_due) F sc_lletter_due len_lletter_due (fun cdv A outer s H E hgd hr => ?_) hd_lletter_due
  have sc := sc_lletter_due
  have hu := hr.units
  have hu1 := Nat.lt_of_le_of_lt (Nat.add_le_add_left (show 1 ≤ 64 by decide) _) hu
  have hu65 := units65 hr
  exact (dss_cons (ds_if (PW.pt (dw_or (dt_not (dt_val (de_isTy (de_var 1) (by rfl) W.isinstance_ (by rfl) W.tuple_ (by rfl)))) (dw_or1 (dt_cmp (op_ne2 hu) rul_ne (de_callB call_len_seq rul_len (by rfl) W.len_ PySem.boot_len (da_cons (de_var 1) da_nil)) de_int (nomark _))))) (dss_one (ds_ret (de_tup (da_cons de_str (da_cons (de_un un_neg rul_neg de_int) da_nil))))) dss_nil)
      (dss_cons (ds_if (PW.pt (dw_or (dt_not (dt_val (de_cal C_lis_lot hgd hr (by decide) (by rfl) (da_cons (de_var 0) (da_cons (de_ix ix_seq rul_ix (de_var 1) de_int) da_nil))))) (dw_or1 (dt_not (dt_val (de_isTy (de_ix ix_seq rul_ix (de_var 1) de_int) (by rfl) W.isinstance_ (by rfl) W.tuple_ (by rfl))))))) (dss_one (ds_ret (de_tup (da_cons de_str (da_cons (de_un un_neg rul_neg de_int) da_nil))))) dss_nil)
      (dss_cons (ds_set 2 sc.nd (de_un un_neg rul_neg de_int))
      (dss_cons (ds_for PassesOwn.never rfl (di_rng1 (by rfl) W.range_ (da_cons (de_callB call_len_seq rul_len (by rfl) W.len_ PySem.boot_len (da_cons (de_ix ix_seq rul_ix (de_var 1) de_int) da_nil)) da_nil)) (dg_name 3 sc.nd) (dss_cons (ds_set 4 sc.nd (de_ix ix_seq rul_ix (de_ix ix_seq rul_ix (de_var 1) de_int) (de_var 3)))
      (dss_cons (ds_if (PW.pt (dw_or (dt_not (dt_val (de_cal C_lis_entry hgd hr (by decide) (by rfl) (da_cons (de_var 0) (da_cons (de_var 4) da_nil))))) (dw_or (dt_cmp (op_notIn3 hu65) rul_in3 (de_ix ix_seq rul_ix (de_var 4) de_int) (de_ix ix_seq rul_ix (de_var 1) de_int) (by with_unfolding_all rfl)) (dw_or1 (dt_cmp op_le rul_le (de_ix ix_seq rul_ix (de_var 4) de_int) (de_var 2) (nomark _)))))) (dss_one (ds_ret (de_tup (da_cons de_str (da_cons (de_var 3) da_nil))))) dss_nil)
      (dss_one (ds_set 2 sc.nd (de_ix ix_seq rul_ix (de_var 4) de_int))))))
      (dss_one (ds_ret (de_tup (da_cons de_str (da_cons (de_var 1) da_nil)))))))))
--@@split
/-! _law_heard -/
abbrev N_lheard : List Str := ["call", "told", "e"]
def b_lheard (K : PySem.W.Frag) (cl : CL) (act : DEX) : DS :=
  (dSeq (dTry (PySem.W.exmOne K) ((dAsgX act (gName 1))) [⟨.ref cl.c_BadSizes, (some 2), fun a cls d => (dRet (dTup (dCons (dC (.str "sizes")) (dCons (dWhatS K a cls d (dVar 2)) dNil))))⟩, ⟨.ref cl.c_BadLot, (some 2), fun a cls d => (dRet (dTup (dCons (dC (.str "lot")) (dCons (dWhatS K a cls d (dVar 2)) dNil))))⟩, ⟨.ref cl.c_BadRow, (some 2), fun a cls d => (dRet (dTup (dCons (dC (.str "row")) (dCons (dWhatS K a cls d (dVar 2)) dNil))))⟩, ⟨.ref cl.c_BadLetter, (some 2), fun a cls d => (dRet (dTup (dCons (dC (.str "letter")) (dCons (dWhatS K a cls d (dVar 2)) dNil))))⟩, ⟨.ref cl.c_Refused, none, fun a cls d => (dRet (dTup (dCons (dC (.str "other")) dNil)))⟩])
    (dRet (dTup (dCons (dC (.str "told")) (dCons (dVar 1) dNil)))))
theorem ok_lheard {P : Program} {w : World} {K : PySem.W.Frag} {mg : Str → Option Value} {base : Heap} {A : Around} {st : List Env} {g : Addr} {cdv : Value} {s : Shared} {H : Hp} {cl : CL} {k : Nat} (W : Bl mg) (M : Clm mg cl) (hC : Clf K cl) (hgd : A.guards = some []) (hr : Room (k + 1) (A.deeper (envOfC "_law_heard" (defScope s_lheard) s.heap.objs.size g cdv))) (act : DEX)
    (hact : ∀ (W : WX) (pn : List (Addr × Obj)) (xe : Value → Shared → Prop) (p1 p2 : Pos), Takes ((cxOf C8.CX0 P w K mg base N_lheard "_law_heard" (defScope s_lheard) g cdv A st s H C8.E0).tr pn xe) W → PE ((cxOf C8.CX0 P w K mg base N_lheard "_law_heard" (defScope s_lheard) g cdv A st s H C8.E0).tr pn xe) (.Call (.Name "call" p1) [] [] p2) (liftEX K W act)) : PSs (cxOf C8.CX0 P w K mg base N_lheard "_law_heard" (defScope s_lheard) g cdv A st s H C8.E0).nox (defBody s_lheard) (liftS K W0 (b_lheard K cl act)) := by
  have sc := sc_lheard
  have hu := hr.units
  have hu1 := Nat.lt_of_le_of_lt (Nat.add_le_add_left (show 1 ≤ 64 by decide) _) hu
  have hu65 := units65 hr
  exact (dss_cons (ds_try (l := [⟨.ref cl.c_BadSizes, (some 2), fun a cls d => (dRet (dTup (dCons (dC (.str "sizes")) (dCons (dWhatS K a cls d (dVar 2)) dNil))))⟩, ⟨.ref cl.c_BadLot, (some 2), fun a cls d => (dRet (dTup (dCons (dC (.str "lot")) (dCons (dWhatS K a cls d (dVar 2)) dNil))))⟩, ⟨.ref cl.c_BadRow, (some 2), fun a cls d => (dRet (dTup (dCons (dC (.str "row")) (dCons (dWhatS K a cls d (dVar 2)) dNil))))⟩, ⟨.ref cl.c_BadLetter, (some 2), fun a cls d => (dRet (dTup (dCons (dC (.str "letter")) (dCons (dWhatS K a cls d (dVar 2)) dNil))))⟩, ⟨.ref cl.c_Refused, none, fun a cls d => (dRet (dTup (dCons (dC (.str "other")) dNil)))⟩]) rfl rfl takesD0 (fun W pn xe tk hpo => by exact (dss_one (ds_setX 1 sc.nd (hact _ _ _ _ _ tk)))) (by exact (HdlsOk.cons (h := DHdl.up _ _ ⟨.ref cl.c_BadSizes, (some 2), fun a cls d => (dRet (dTup (dCons (dC (.str "sizes")) (dCons (dWhatS K a cls d (dVar 2)) dNil))))⟩) ⟨by rfl, by decide, .inl M.g_BadSizes⟩ (.yes (i := 2) sc.nd rfl rfl) (fun a oe cls d pn hz hf => by show PSs _ _ (liftS _ _ ((dRet (dTup (dCons (dC (.str "sizes")) (dCons (dWhatS K a cls d (dVar 2)) dNil)))))); exact (dss_one (ds_ret (de_tup (da_cons de_str (da_cons (de_whatS hz hf (de_var 2)) da_nil)))))) (HdlsOk.cons (h := DHdl.up _ _ ⟨.ref cl.c_BadLot, (some 2), fun a cls d => (dRet (dTup (dCons (dC (.str "lot")) (dCons (dWhatS K a cls d (dVar 2)) dNil))))⟩) ⟨by rfl, by decide, .inl M.g_BadLot⟩ (.yes (i := 2) sc.nd rfl rfl) (fun a oe cls d pn hz hf => by show PSs _ _ (liftS _ _ ((dRet (dTup (dCons (dC (.str "lot")) (dCons (dWhatS K a cls d (dVar 2)) dNil)))))); exact (dss_one (ds_ret (de_tup (da_cons de_str (da_cons (de_whatS hz hf (de_var 2)) da_nil)))))) (HdlsOk.cons (h := DHdl.up _ _ ⟨.ref cl.c_BadRow, (some 2), fun a cls d => (dRet (dTup (dCons (dC (.str "row")) (dCons (dWhatS K a cls d (dVar 2)) dNil))))⟩) ⟨by rfl, by decide, .inl M.g_BadRow⟩ (.yes (i := 2) sc.nd rfl rfl) (fun a oe cls d pn hz hf => by show PSs _ _ (liftS _ _ ((dRet (dTup (dCons (dC (.str "row")) (dCons (dWhatS K a cls d (dVar 2)) dNil)))))); exact (dss_one (ds_ret (de_tup (da_cons de_str (da_cons (de_whatS hz hf (de_var 2)) da_nil)))))) (HdlsOk.cons (h := DHdl.up _ _ ⟨.ref cl.c_BadLetter, (some 2), fun a cls d => (dRet (dTup (dCons (dC (.str "letter")) (dCons (dWhatS K a cls d (dVar 2)) dNil))))⟩) ⟨by rfl, by decide, .inl M.g_BadLetter⟩ (.yes (i := 2) sc.nd rfl rfl) (fun a oe cls d pn hz hf => by show PSs _ _ (liftS _ _ ((dRet (dTup (dCons (dC (.str "letter")) (dCons (dWhatS K a cls d (dVar 2)) dNil)))))); exact (dss_one (ds_ret (de_tup (da_cons de_str (da_cons (de_whatS hz hf (de_var 2)) da_nil)))))) (HdlsOk.cons (h := DHdl.up _ _ ⟨.ref cl.c_Refused, none, fun a cls d => (dRet (dTup (dCons (dC (.str "other")) dNil)))⟩) ⟨by rfl, by decide, .inl M.g_Refused⟩ .no (fun a oe cls d pn hz hf => by show PSs _ _ (liftS _ _ ((dRet (dTup (dCons (dC (.str "other")) dNil))))); exact (dss_one (ds_ret (de_tup (da_cons de_str da_nil))))) .nil)))))))
      (dss_one (ds_ret (de_tup (da_cons de_str (da_cons (de_var 1) da_nil))))))
theorem heard_gen {K : PySem.W.Frag} {cl : CL} (hC : Clf K cl) {te : DEX} {ρ : DEnv} {S : Store} {post : DK} {o : D} (h : post o S)
    (ht : ∀ (P : DK) (X : DX), (∀ d, o = .tup [.str "told", d] → P d S) → (∀ (w : Wd) k ρ', o = .tup [.str w.str, .int k] → X (.ref (w.cls cl)) (.int k) ρ' S) → te (capt ρ) S P X) :
    dLam N_lheard (b_lheard K cl) te ρ S post := by
  intro φ
  unfold b_lheard
  have hw : wipeAll (startD N_lheard [.opq φ]) = [none, none, none] := rfl
  rw [go_seqS]
  simp only [dTry, dAsgX, dAct]
  refine ⟨rfl, ht _ _ (fun d e => ?_) (fun w k ρ' e => ?_)⟩
  · try walk_at "dgo1"
    exact ⟨by decide, by rw [← e]; exact h⟩
  · cases w with
    | sizes =>
      refine ⟨true, exm_of hC.h_BadSizes hC.s_BadSizes_BadSizes, fun _ a dd => ?_, fun q => nomatch q⟩
      dsimp only [offE, onD, offD]
      rw [hw]
      try walk_at "dgo1"
      refine ⟨⟨_, rfl, hC.t_BadSizes.xf, hC.t_BadSizes.no⟩, _, rfl, dd, .int k, rfl, rfl, by decide, ?_⟩
      rw [show (D.tup [.str "sizes", .int k]) = o from e.symm]
      exact h
    | lot =>
      refine ⟨false, exm_of hC.h_BadSizes hC.s_BadLot_BadSizes, (fun q => nomatch q), fun _ => ⟨true, exm_of hC.h_BadLot hC.s_BadLot_BadLot, fun _ a dd => ?_, fun q => nomatch q⟩⟩
      dsimp only [offE, onD, offD]
      rw [hw]
      try walk_at "dgo1"
      refine ⟨⟨_, rfl, hC.t_BadLot.xf, hC.t_BadLot.no⟩, _, rfl, dd, .int k, rfl, rfl, by decide, ?_⟩
      rw [show (D.tup [.str "lot", .int k]) = o from e.symm]
      exact h
    | row =>
      refine ⟨false, exm_of hC.h_BadSizes hC.s_BadRow_BadSizes, (fun q => nomatch q), fun _ => ⟨false, exm_of hC.h_BadLot hC.s_BadRow_BadLot, (fun q => nomatch q), fun _ => ⟨true, exm_of hC.h_BadRow hC.s_BadRow_BadRow, fun _ a dd => ?_, fun q => nomatch q⟩⟩⟩
      dsimp only [offE, onD, offD]
      rw [hw]
      try walk_at "dgo1"
      refine ⟨⟨_, rfl, hC.t_BadRow.xf, hC.t_BadRow.no⟩, _, rfl, dd, .int k, rfl, rfl, by decide, ?_⟩
      rw [show (D.tup [.str "row", .int k]) = o from e.symm]
      exact h
    | letter =>
      refine ⟨false, exm_of hC.h_BadSizes hC.s_BadLetter_BadSizes, (fun q => nomatch q), fun _ => ⟨false, exm_of hC.h_BadLot hC.s_BadLetter_BadLot, (fun q => nomatch q), fun _ => ⟨false, exm_of hC.h_BadRow hC.s_BadLetter_BadRow, (fun q => nomatch q), fun _ => ⟨true, exm_of hC.h_BadLetter hC.s_BadLetter_BadLetter, fun _ a dd => ?_, fun q => nomatch q⟩⟩⟩⟩
      dsimp only [offE, onD, offD]
      rw [hw]
      try walk_at "dgo1"
      refine ⟨⟨_, rfl, hC.t_BadLetter.xf, hC.t_BadLetter.no⟩, _, rfl, dd, .int k, rfl, rfl, by decide, ?_⟩
      rw [show (D.tup [.str "letter", .int k]) = o from e.symm]
      exact h
theorem capt_at {ρ : DEnv} {i : Nat} {d : D} (h : ρ[i]? = some (some d)) (hb : below 0 d = true) : (capt ρ)[i]? = some (some d) := by
  unfold capt
  rw [List.getElem?_map, h]
  show some (if below 0 d = true then some d else none) = _
  rw [if_pos hb]
section
variable {K : PySem.W.Frag} {cl : CL} {ρ : DEnv} {S : Store} {post : DK} {d1 d2 d3 : D}
theorem dueW_told {o : Option (Wd × Int)} {d d' : D} (h : o = none) : dueW o d = .tup [.str "told", d] := by rw [h]; rfl
theorem heard_row {i j k : Nat} (hC : Clf K cl) (o1 : okT d1 = true) (o2 : okT d2 = true) (o3 : okT d3 = true) (hl : (partsD d2).length ≤ 1000) (r1 : ρ[i]? = some (some d1)) (r2 : ρ[j]? = some (some d2)) (r3 : ρ[k]? = some (some d3)) (h : post (dueW (rowR d1 d2 d3) d3) S) :
    dLam N_lheard (b_lheard K cl) (dCallX (sp_made_row cl) (dToXs (dCons (dVar i) (dCons (dVar j) (dCons (dVar k) dNil))))) ρ S post :=
  heard_gen hC h fun P X h1 h2 => (show ∃ e1, (capt ρ)[i]? = some (some e1) ∧ ∃ e2, (capt ρ)[j]? = some (some e2) ∧ ∃ e3, (capt ρ)[k]? = some (some e3) ∧ callDX (sp_made_row cl) [e1, e2, e3] S P (fun c w S' => X c w (capt ρ) S') from
    ⟨d1, capt_at r1 (okT0 o1), d2, capt_at r2 (okT0 o2), d3, capt_at r3 (okT0 o3), callx_row o1 o2 o3 hl (fun hr => h1 d3 (by rw [hr]; rfl)) fun w k hr => h2 w k _ (by rw [hr]; rfl)⟩)
theorem heard_letter {i j : Nat} (hC : Clf K cl) (o1 : okT d1 = true) (o2 : okT d2 = true) (hl1 : (partsD (spanOf d2)).length ≤ 1000) (hl2 : (partsD (bodyOf d2)).length ≤ 1000) (r1 : ρ[i]? = some (some d1)) (r2 : ρ[j]? = some (some d2)) (h : post (dueW (letR d1 d2) d2) S) :
    dLam N_lheard (b_lheard K cl) (dCallX (sp_made_letter cl) (dToXs (dCons (dVar i) (dCons (dVar j) dNil)))) ρ S post :=
  heard_gen hC h fun P X h1 h2 => (show ∃ e1, (capt ρ)[i]? = some (some e1) ∧ ∃ e2, (capt ρ)[j]? = some (some e2) ∧ callDX (sp_made_letter cl) [e1, e2] S P (fun c w S' => X c w (capt ρ) S') from
    ⟨d1, capt_at r1 (okT0 o1), d2, capt_at r2 (okT0 o2), callx_letter o1 o2 hl1 hl2 (fun hr => h1 d2 (by rw [hr]; rfl)) fun w k hr => h2 w k _ (by rw [hr]; rfl)⟩)
end
/-! what is fine to be shown -/
theorem go_repr {d : D} {c k : Nat} {S : Store} {post : DK} (h : Fine c k d) (hc : c ≤ 100000) (hk : k ≤ 60) (p : post (.str (toP d).shown) S) : cRepr [d] S post := ⟨d, toP d, rfl, .inl ⟨h.1, rfl⟩, h.2.mono hc hk, p⟩
theorem fine_wd {w : Wd} {k : Int} (h : k.natAbs < 2 ^ 64) : Fine 100000 60 (.tup [.str w.str, .int k]) := by
  have hs : Fine 64 0 (.str w.str) := by cases w <;> exact fine_str (by decide +kernel)
  exact (fine_tup (c := 64) (k := 0) (thc hs (thc (fine_int h) thn))).mono (by simp) (by decide)
theorem fine_told {c k : Nat} {d : D} (hf : Fine c k d) (hc : c ≤ 40000) (hk : k ≤ 50) : Fine 100000 60 (.tup [.str "told", d]) :=
  (fine_tup (c := 40000) (k := 50) (thc ((fine_str (by decide +kernel)).mono (by decide) (by decide)) (thc (hf.mono hc hk) thn))).mono (by simp) (by decide)
theorem fine_en {zs : List Int} {d : D} (h : enD zs d = true) (hb : bi d = true) : Fine 549 2 d := by
  obtain ⟨s, w, c, g, z, rfl, h1, h2, h3, h4, h5, h6, h7, h8⟩ := enD_true h
  rw [bi, bis_iff] at hb
  have hst := hb (.tup [.int c, .int g]) (by simp)
  rw [bi, bis_iff] at hst
  have b1 := bi_int (hb (.int s) (by simp))
  have b2 := bi_int (hb (.int w) (by simp))
  have b3 := bi_int (hst (.int c) (by simp))
  have b4 := bi_int (hst (.int g) (by simp))
  have f1 : Fine 182 1 (.tup [.int c, .int g]) := fine_tup (c := 90) (k := 0) (thc (fine_big b3) (thc (fine_big b4) thn))
  exact fine_tup (c := 182) (k := 1) (thc ((fine_big b1).mono (by decide) (by decide)) (thc ((fine_big b2).mono (by decide) (by decide)) (thc f1 thn)))
theorem fine_ents {zs : List Int} {xs : List D} (h : ∀ d ∈ xs, enD zs d = true) (hb : bis xs = true) (hl : xs.length ≤ 30) : Fine 16500 3 (.tup xs) :=
  (fine_tup fun d hd => fine_en (h d hd) (bis_iff.mp hb d hd)).mono (Nat.mul_le_mul hl (Nat.le_refl 550)) (Nat.le_refl _)
theorem fine_lot {ls : List Int} (hb : bi (tI ls) = true) (hl : ls.length ≤ 30) : Fine 16500 3 (tI ls) := by
  unfold tI at hb ⊢
  rw [bi, bis_iff] at hb
  refine (fine_tup (c := 90) (k := 0) fun d hd => ?_).mono (by rw [List.length_map]; omega) (by decide)
  have := hb d hd
  obtain ⟨i, _, rfl⟩ := List.mem_map.mp hd
  exact fine_big (bi_int this)
theorem fine_row2 {zs : List Int} {d2 d3 : D} (hz : zs.length ≤ 1000) (hb : bi d3 = true) (hl : (partsD d3).length ≤ 30) : Fine 100000 60 (dueW (row2 zs d2 d3) d3) := by
  unfold row2
  split
  · cases hr : rowF zs (intsD d2) d3 with
    | some k =>
      refine fine_wd (w := .row) ?_
      unfold rowF at hr
      split at hr
      · have := fstN_ge hr
        omega
      · cases hr
        decide
    | none =>
      unfold rowF at hr
      split at hr
      · rename_i ht
        obtain ⟨xs, rfl, l1, l2⟩ := tupIn_true ht
        rw [bi] at hb
        refine fine_told (fine_ents (zs := zs) (fun d hd => ?_) hb hl) (by decide) (by decide)
        obtain ⟨j, hj⟩ := List.mem_iff_getElem?.mp hd
        have := fstN_all (f := fun i x => enD zs x && decide (stg x = (intsD d2).getD i 0)) hr hj
        rw [Bool.and_eq_true] at this
        exact this.1
      · cases hr
  · exact fine_wd (w := .lot) (by decide)
theorem entF_ge {zs ls : List Int} : ∀ {ds : List D} {last : Int} {i : Nat} {k : Int}, entF zs ls last i ds = some k → (i : Int) ≤ k ∧ k < i + ds.length
  | [], _, _, _, h => by simp [entF] at h
  | d :: ds, last, i, k, h => by
    rw [entF] at h
    split at h
    · have := entF_ge h
      rw [List.length_cons]
      omega
    · cases h
      rw [List.length_cons]
      omega
theorem entF_en {zs ls : List Int} : ∀ {ds : List D} {last : Int} {i : Nat}, entF zs ls last i ds = none → ∀ d ∈ ds, enD zs d = true
  | [], _, _, _, _, h => nomatch h
  | d :: ds, last, i, h, e, he => by
    rw [entF] at h
    split at h
    · rename_i hc
      rw [Bool.and_eq_true] at hc
      rcases List.mem_cons.mp he with rfl | he
      · exact hc.1
      · exact entF_en h e he
    · cases h
theorem fine_let2 {zs : List Int} {d : D} (hb : bi d = true) (hl1 : (partsD (spanOf d)).length ≤ 30) (hl2 : (partsD (bodyOf d)).length ≤ 30) : Fine 100000 60 (dueW (let2 zs d) d) := by
  unfold let2
  cases hr : letF zs d with
  | some k =>
    refine fine_wd (w := .letter) ?_
    unfold letF at hr
    split at hr
    · split at hr
      · have := entF_ge hr
        have l2 : (partsD (D.tup _)).length ≤ 30 := hl2
        simp only [partsD] at l2
        omega
      · cases hr
        decide
    · cases hr
      decide
  | none =>
    unfold letF at hr
    split at hr
    · rename_i sp es
      split at hr
      · rename_i hlt
        rw [bi, bis_iff] at hb
        have b1 := hb sp (by simp)
        have b2 := hb (.tup es) (by simp)
        obtain ⟨e1, _⟩ := lotD_true hlt
        have l1 : (partsD sp).length ≤ 30 := hl1
        have l2 : es.length ≤ 30 := hl2
        have f1 : Fine 16500 3 sp := by
          rw [e1] at b1 ⊢
          exact fine_lot b1 (by unfold intsD; rw [List.length_map]; exact l1)
        rw [bi] at b2
        have f2 := fine_ents (entF_en hr) b2 l2
        exact fine_told (fine_tup (c := 16500) (k := 3) (thc f1 (thc f2 thn))) (by simp) (by decide)
      · cases hr
    · cases hr
--@@split
/-! _law_drawn_sizes -/
def b_ldrawn_sizes : DS :=
  (dSeq (dAsg (dLst dNil) (gName 3))
    (dSeq (dFor (wRng1 (dCons (dOp oAdd2 (dC (.int 1)) (dCall sp_ltake (dCons (dVar 0) (dCons (dVar 1) dNil)))) dNil)) (gName 4) (dDrop (dApp (dVar 3) (dGc0 (dCB cMin (dCons (dVar 2) (dCons (dGc0 (dCall sp_lone (dCons (dVar 0) (dCons (dLst (dCons (dC (.int 1)) (dCons (dC (.int 2)) (dCons (dC (.int 2)) (dCons (dC (.int 2)) (dCons (dC (.int 2)) (dCons (dC (.int 3)) (dCons (dC (.int 3)) (dCons (dC (.int 3)) (dCons (dC (.int 4)) (dCons (dC (.int 5)) (dCons (dC (.int 6)) dNil)))))))))))) dNil)))) dNil)))))))
    (dRet (dCB cTuple (dCons (dVar 3) dNil)))))
def sp_ldrawn_sizes : DSp := fun ds S post => ∃ x y most high, ds = [.lr 0, .int most, .int high] ∧ S = [jar x y] ∧ JOk x y ∧ 1 ≤ most ∧ most ≤ 1000 ∧ 1 ≤ high ∧ high ≤ 1000 ∧
  ∀ zs x' y', JOk x' y' → 1 ≤ zs.length → (zs.length : Int) ≤ most → (∀ z ∈ zs, 1 ≤ z ∧ z ≤ high ∧ z ≤ 6) → post (tI zs) [jar x' y']
theorem len_ldrawn_sizes : ∀ ds S post, sp_ldrawn_sizes ds S post → ds.length = 3 := by
  rintro _ _ _ ⟨_, _, _, _, rfl, _⟩
  rfl
theorem of_eleven {d : D} (h : d ∈ [D.int 1, D.int 2, D.int 2, D.int 2, D.int 2, D.int 3, D.int 3, D.int 3, D.int 4, D.int 5, D.int 6]) : ∃ z, d = .int z ∧ 1 ≤ z ∧ z ≤ 6 := by
  simp only [List.mem_cons, List.not_mem_nil, or_false] at h
  rcases h with rfl | rfl | rfl | rfl | rfl | rfl | rfl | rfl | rfl | rfl | rfl <;> exact ⟨_, rfl, by decide, by decide⟩
theorem hd_ldrawn_sizes : ∀ ds S post, sp_ldrawn_sizes ds S post → b_ldrawn_sizes (endsD S post) (startD ["jar", "most", "high", "found", "turn"] ds) S := by
  rintro ds S post ⟨x, y, most, high, rfl, rfl, ok, h1, h2, h3, h4, h⟩
  unfold b_ldrawn_sizes
  walk_at "dgo"
  refine ⟨by decide, call_take (j := 0) rfl ok h1 (by omega) fun r x' y' ok' a b => ?_⟩
  walk_at "dgo"
  refine ⟨by omega, by omega, for_inv (fun i ρ S => ∃ (zs : List Int) (u v : Int) (t : Option D), ρ = [some (.lr 0), some (.int most), some (.int high), some (.lr 1), t] ∧ S = [jar u v, .lst (zs.map .int)] ∧ JOk u v ∧ zs.length = i ∧ ∀ z ∈ zs, 1 ≤ z ∧ z ≤ high ∧ z ≤ 6)
    ⟨[], x', y', none, rfl, rfl, ok', rfl, fun z hz => nomatch hz⟩ (fun _ _ _ _ _ => trivial) (fun i d ρ S hd hI => ?_) fun ρ S hI => ?_⟩
  · obtain ⟨zs, u, v, t, rfl, rfl, ok2, hl, hz⟩ := hI
    obtain ⟨hi, rfl⟩ := upTo_get hd
    walk_at "dgo"
    refine ⟨by decide, call_lone (j := 0) (k := 2) (by decide) rfl rfl ok2 (by simp) (by decide) (by decide) fun d hd x2 y2 ok3 => ?_⟩
    obtain ⟨z, rfl, z1, z2⟩ := of_eleven hd
    walk_at "dgo"
    refine ⟨by omega, ⟨_, rfl⟩, zs ++ [if z < high then z else high], x2, y2, by simp, ok3, by simp [hl], fun w hw => ?_⟩
    rcases List.mem_append.mp hw with hw | hw
    · exact hz w hw
    · rw [List.mem_singleton.mp hw]
      split <;> omega
  · obtain ⟨zs, u, v, t, rfl, rfl, ok2, hl, hz⟩ := hI
    rw [upTo_len] at hl
    walk_at "dgo"
    exact end_take (below_tI _ _) (by simp [belowE, belows, below]) (h zs u v ok2 (by omega) (by omega) hz)
theorem call_sizes {S : Store} {j : Nat} {x y most high : Int} {post : DK} (hj : S[j]? = some (jar x y)) (ok : JOk x y) (h1 : 1 ≤ most) (h2 : most ≤ 1000) (h3 : 1 ≤ high) (h4 : high ≤ 1000)
    (h : ∀ zs x' y', JOk x' y' → 1 ≤ zs.length → (zs.length : Int) ≤ most → (∀ z ∈ zs, 1 ≤ z ∧ z ≤ high ∧ z ≤ 6) → post (tI zs) (S.set j (jar x' y'))) : callD sp_ldrawn_sizes [.lr j, .int most, .int high] S post :=
  call_one hj (by simp [belows, below]) (by simp [belowE, belows, below]) ⟨x, y, most, high, rfl, rfl, ok, h1, h2, h3, h4, fun zs x' y' k a b c => by
    have := h zs x' y' k a b c
    simpa [ren_tI, ren, setAll, renE, rens] using this⟩
theorem ok_ldrawn_sizes {P : Program} {w : World} {K : PySem.W.Frag} {mg : Str → Option Value} {base : Heap} {f : Addr} {fd : FuncData} (F : Fun K "_law_drawn_sizes" "_law_drawn_sizes" s_ldrawn_sizes f fd) (W : Bl mg) (C_ltake : CalG P w K mg base 1 "_law_take" sp_ltake) (C_lone : CalG P w K mg base 2 "_law_one" sp_lone) :
    FnG P w K mg base CX0 3 f fd ["jar", "most", "high"] (spL K sp_ldrawn_sizes) := by
  refine fn_okG (tb := b_ldrawn_sizes) F sc_ldrawn_sizes len_ldrawn_sizes (fun cdv A outer s H E hgd hr => ?_) hd_ldrawn_sizes
  have sc := sc_ldrawn_sizes
  have hu := hr.units
  have hu1 := Nat.lt_of_le_of_lt (Nat.add_le_add_left (show 1 ≤ 64 by decide) _) hu
  have hu65 := units65 hr
  exact (dss_cons (ds_set 3 sc.nd (de_lst da_nil))
      (dss_cons (ds_for PassesOwn.never rfl (di_rng1 (by rfl) W.range_ (da_cons (de_op op_add4 rul_add4 de_int (de_cal C_ltake hgd hr (by decide) (by rfl) (da_cons (de_var 0) (da_cons (de_var 1) da_nil)))) da_nil)) (dg_name 4 sc.nd) (dss_one (ds_expr (de_app (de_var 3) (de_gc0 (de_callB (DL.cr_min rfl) rul_min (by rfl) W.min_ PyProof.Rows.boot_min (da_cons (de_var 2) (da_cons (de_gc0 (de_cal C_lone hgd hr (by decide) (by rfl) (da_cons (de_var 0) (da_cons (de_lst (da_cons de_int (da_cons de_int (da_cons de_int (da_cons de_int (da_cons de_int (da_cons de_int (da_cons de_int (da_cons de_int (da_cons de_int (da_cons de_int (da_cons de_int da_nil)))))))))))) da_nil)))) da_nil))))))))
      (dss_one (ds_ret (de_callTy call_tupleP rul_tuple (by rfl) W.tuple_ PyProof.Rows.boot_tuple (da_cons (de_var 3) da_nil))))))
/-! what is drawn -/
theorem jar_below {n : Nat} {x y : Int} : belowE n (jar x y) = true := by simp [belowE, belows, below]
theorem end_t {x y x' y' : Int} {r : Store} {d : D} {post : DK} (hd : okT d = true) (h : post d [jar x' y']) : fnEnd [jar x y] post d (jar x' y' :: r) :=
  end_take (okT_below _ d hd) (by simp [belowE, belows, below]) h
theorem of_ints {ns : List Int} {d : D} {lo hi : Int} (h : d ∈ ns.map D.int) (hn : ∀ n ∈ ns, lo ≤ n ∧ n ≤ hi) : ∃ n : Int, d = .int n ∧ lo ≤ n ∧ n ≤ hi := by
  obtain ⟨n, hm, rfl⟩ := List.mem_map.mp h
  exact ⟨n, rfl, (hn n hm).1, (hn n hm).2⟩
/-! _law_some -/
def b_lsome : DS :=
  (dRet (dLc (wSeq (dVar 1)) (gName 2) (dTest (dOp (oEq false) (dCall sp_ltake (dCons (dVar 0) (dCons (dC (.int 2)) dNil))) (dC (.int 1)))) (dVar 2) [2]))
def sp_lsome : DSp := fun ds S post => ∃ (x y : Int) (ls : List Int), JOk x y ∧ ls.length ≤ 1000 ∧
  ((ds = [.lr 0, .lr 1] ∧ S = [jar x y, .lst (ls.map .int)] ∧ ∀ (ms : List Int) x' y', JOk x' y' → ms.Sublist ls → post (.lr 2) [jar x' y', .lst (ls.map .int), .lst (ms.map .int)]) ∨
   (ds = [.lr 0, tI ls] ∧ S = [jar x y] ∧ ∀ (ms : List Int) x' y', JOk x' y' → ms.Sublist ls → post (.lr 1) [jar x' y', .lst (ms.map .int)]))
theorem len_lsome : ∀ ds S post, sp_lsome ds S post → ds.length = 2 := by
  rintro _ _ _ ⟨_, _, _, _, _, ⟨rfl, _⟩ | ⟨rfl, _⟩⟩ <;> rfl
theorem sub_take {ls ms : List Int} {i : Nat} {a : Int} (h : ms.Sublist (ls.take i)) (ha : ls[i]? = some a) : (ms ++ [a]).Sublist (ls.take (i + 1)) ∧ ms.Sublist (ls.take (i + 1)) := by
  have e : ls.take (i + 1) = ls.take i ++ [a] := by rw [List.take_add_one, ha]; rfl
  rw [e]
  exact ⟨h.append (List.Sublist.refl _), h.trans (List.sublist_append_left _ _)⟩
theorem hd_lsome : ∀ ds S post, sp_lsome ds S post → b_lsome (endsD S post) (startD ["jar", "things", "thing"] ds) S := by
  rintro ds S post ⟨x, y, ls, ok, hl, ⟨rfl, rfl, h⟩ | ⟨rfl, rfl, h⟩⟩
  · unfold b_lsome
    try walk_at "dgo"
    refine lc_inv (fun i acc S => ∃ (ms : List Int) (u v : Int), acc = ms.map .int ∧ S = [jar u v, .lst (ls.map .int)] ∧ JOk u v ∧ ms.Sublist (ls.take i) ∧ ms.length ≤ i)
      ⟨[], x, y, rfl, rfl, ok, List.nil_sublist _, Nat.le_refl _⟩ (fun i acc S _ hI => ?_) (fun i d acc S hd hI => ?_) fun acc S hI => ?_
    · obtain ⟨ms, u, v, rfl, rfl, _⟩ := hI
      first | trivial | exact seqOf_lr.mpr rfl | rfl
    · obtain ⟨ms, u, v, rfl, rfl, ok2, hs, hm⟩ := hI
      obtain ⟨a, hai, _, rfl⟩ := int_at hd
      have hi := (List.getElem?_eq_some_iff.mp hai).1
      obtain ⟨s1, s2⟩ := sub_take hs hai
      try walk_at "dgo"
      refine call_take (j := 0) rfl ok2 (by decide) (by decide) fun r x' y' ok' ra rb => ?_
      try walk_at "dgo"
      split
      · exact ⟨by first | omega | (simp; omega), ms ++ [a], by simp, x', y', rfl, ok', s1, by simp; omega⟩
      · exact ⟨ms, rfl, x', y', rfl, ok', s2, by omega⟩
    · obtain ⟨ms, u, v, rfl, rfl, ok2, hs, hm⟩ := hI
      rw [List.length_map, List.take_length] at hs
      try walk_at "dgo"
      exact end_new (.lst (ms.map .int)) (show 2 ≤ 2 by decide) rfl (belows_ints 2 ms) (by simp [belowE, belows, below, belows_ints]) (h ms u v ok2 hs)
  · unfold b_lsome
    try walk_at "dgo"
    refine lc_inv (fun i acc S => ∃ (ms : List Int) (u v : Int), acc = ms.map .int ∧ S = [jar u v] ∧ JOk u v ∧ ms.Sublist (ls.take i) ∧ ms.length ≤ i)
      ⟨[], x, y, rfl, rfl, ok, List.nil_sublist _, Nat.le_refl _⟩ (fun i acc S _ hI => by first | trivial | exact seqOf_tup.mpr rfl) (fun i d acc S hd hI => ?_) fun acc S hI => ?_
    · obtain ⟨ms, u, v, rfl, rfl, ok2, hs, hm⟩ := hI
      obtain ⟨a, hai, _, rfl⟩ := int_at hd
      have hi := (List.getElem?_eq_some_iff.mp hai).1
      obtain ⟨s1, s2⟩ := sub_take hs hai
      try walk_at "dgo"
      refine call_take (j := 0) rfl ok2 (by decide) (by decide) fun r x' y' ok' ra rb => ?_
      try walk_at "dgo"
      split
      · exact ⟨by first | omega | (simp; omega), ms ++ [a], by simp, x', y', rfl, ok', s1, by simp; omega⟩
      · exact ⟨ms, rfl, x', y', rfl, ok', s2, by omega⟩
    · obtain ⟨ms, u, v, rfl, rfl, ok2, hs, hm⟩ := hI
      rw [List.length_map, List.take_length] at hs
      try walk_at "dgo"
      exact end_new (.lst (ms.map .int)) (show 1 ≤ 1 by decide) rfl (belows_ints 1 ms) (by simp [belowE, belows, below, belows_ints]) (h ms u v ok2 hs)
theorem call_someL {S : Store} {j k : Nat} {x y : Int} {ls : List Int} {post : DK} (hjk : j ≠ k) (hj : S[j]? = some (jar x y)) (hk : S[k]? = some (.lst (ls.map .int))) (ok : JOk x y) (hl : ls.length ≤ 1000)
    (h : ∀ (ms : List Int) x' y', JOk x' y' → ms.Sublist ls → post (.lr S.length) (S.set j (jar x' y') ++ [.lst (ms.map .int)])) : callD sp_lsome [.lr j, .lr k] S post := by
  refine call_two hjk hj hk (by simp [belows]) jar_below (belows_ints 0 ls) ⟨x, y, ls, ok, hl, .inl ⟨rfl, rfl, fun ms x' y' ok' hs => ?_⟩⟩
  have e : (S.set j (jar x' y')).set k (.lst (ls.map .int)) = S.set j (jar x' y') := by
    have : (S.set j (jar x' y'))[k]? = some (.lst (ls.map .int)) := by
      rw [List.getElem?_set_ne hjk]
      exact hk
    obtain ⟨hl, he⟩ := List.getElem?_eq_some_iff.mp this
    rw [← he]
    exact List.set_getElem_self hl
  simp only [List.take_succ_cons, List.take_zero, List.drop_succ_cons, List.drop_zero, List.map_cons, List.map_nil, setAll]
  rw [renE_below _ (jar x' y') jar_below, renE_below _ (.lst (ls.map .int)) (belows_ints 0 ls), renE_below _ (.lst (ms.map .int)) (belows_ints 0 ms), e]
  have : ren (rn [j, k] S.length) (.lr 2) = .lr S.length := by
    rw [ren]
    rfl
  rw [this]
  exact h ms x' y' ok' hs
theorem call_someT {S : Store} {j : Nat} {x y : Int} {ls : List Int} {post : DK} (hj : S[j]? = some (jar x y)) (ok : JOk x y) (hl : ls.length ≤ 1000)
    (h : ∀ (ms : List Int) x' y', JOk x' y' → ms.Sublist ls → post (.lr S.length) (S.set j (jar x' y') ++ [.lst (ms.map .int)])) : callD sp_lsome [.lr j, tI ls] S post := by
  refine call_one hj (by simp [belows, below_tI]) jar_below ⟨x, y, ls, ok, hl, .inr ⟨rfl, rfl, fun ms x' y' ok' hs => ?_⟩⟩
  have := h ms x' y' ok' hs
  dsimp only
  rw [ren]
  have e1 : rn [j] S.length 1 = S.length := by simp [rn]
  rw [e1]
  simp only [List.take_succ_cons, List.take_zero, List.drop_succ_cons, List.drop_zero, List.map_cons, List.map_nil, setAll]
  rw [renE_below _ (jar x' y') jar_below, renE_below _ (.lst (ms.map .int)) (belows_ints 0 ms)]
  exact this
theorem ok_lsome {P : Program} {w : World} {K : PySem.W.Frag} {mg : Str → Option Value} {base : Heap} {f : Addr} {fd : FuncData} (F : Fun K "_law_some" "_law_some" s_lsome f fd) (W : Bl mg) (C_ltake : CalG P w K mg base 1 "_law_take" sp_ltake) :
    FnG P w K mg base CX0 2 f fd ["jar", "things"] (spL K sp_lsome) := by
  refine fn_okG (tb := b_lsome) F sc_lsome len_lsome (fun cdv A outer s H E hgd hr => ?_) hd_lsome
  have sc := sc_lsome
  have hu := hr.units
  have hu1 := Nat.lt_of_le_of_lt (Nat.add_le_add_left (show 1 ≤ 64 by decide) _) hu
  have hu65 := units65 hr
  exact (dss_one (ds_ret (de_lc (own := [("thing", 2)]) (ws := [2]) (by decide) rfl sc.nd (di_seq (de_var 1)) (blkOk_by (by rfl)) (fun _ _ _ _ _ => (dg_name 2 sc.nd)) (fun _ _ _ _ _ => (dts_one (dt_cmp (op_eq2 hu) rul_eq (de_cal C_ltake hgd hr (by decide) (by rfl) (da_cons (de_var 0) (da_cons de_int da_nil))) de_int (nomark _)))) (fun _ _ _ _ _ => (de_var 2)))))
/-! _law_drawn_lot -/
/-- a lot of the settings below many -/
def LotOf (many : Int) (ls : List Int) : Prop := 1 ≤ ls.length ∧ (ls.length : Int) ≤ many ∧ ls.Pairwise (· < ·) ∧ ∀ i ∈ ls, 0 ≤ i ∧ i < many
theorem up_pair (n : Nat) : ((List.range n).map fun i : Nat => (0 : Int) + (i : Int)).Pairwise (· < ·) := by
  rw [List.pairwise_map]
  exact List.pairwise_lt_range.imp fun h => by omega
theorem rises_of {ls : List Int} (h : ls.Pairwise (· < ·)) : risesI ls = true := by
  unfold risesI
  rw [List.all_eq_true]
  intro i hi
  rw [List.mem_range] at hi
  have h1 : i < ls.length := by omega
  have h2 : i + 1 < ls.length := by omega
  rw [getD_of (List.getElem?_eq_getElem h1), getD_of (List.getElem?_eq_getElem h2)]
  exact decide_eq_true (List.pairwise_iff_getElem.mp h i (i + 1) h1 h2 (by omega))
theorem lotD_of {zs ls : List Int} (h : LotOf zs.length ls) : lotD zs (tI ls) = true := by
  have e : (partsD (tI ls)) = ls.map D.int := rfl
  unfold lotD srD
  rw [intsD_tI, e, rises_of h.2.2.1]
  have h1 := h.1
  have : (ls.map D.int).all (numIn 0 ((zs.length : Int) - 1)) = true := by
    rw [List.all_eq_true]
    intro d hd
    obtain ⟨i, hi, rfl⟩ := List.mem_map.mp hd
    have := h.2.2.2 i hi
    simp [numIn]
    omega
  rw [this, List.length_map, decide_eq_true (by omega)]
  rfl
def b_ldrawn_lot : DS :=
  (dSeq (dAsg (dCall sp_lsome (dCons (dVar 0) (dCons (dLc (wRng1 (dCons (dVar 1) dNil)) (gName 3) dYes (dVar 3) [3]) dNil))) (gName 2))
    (dRet (dIf (dTest (dOp (oEq true) (dVar 2) (dLst dNil))) (dCB cTuple (dCons (dVar 2) dNil)) (dTup (dCons (dCall sp_ltake (dCons (dVar 0) (dCons (dVar 1) dNil))) dNil)))))
def sp_ldrawn_lot : DSp := fun ds S post => ∃ (x y many : Int), ds = [.lr 0, .int many] ∧ S = [jar x y] ∧ JOk x y ∧ 1 ≤ many ∧ many ≤ 100 ∧ ∀ (ls : List Int) x' y', JOk x' y' → LotOf many ls → post (tI ls) [jar x' y']
theorem len_ldrawn_lot : ∀ ds S post, sp_ldrawn_lot ds S post → ds.length = 2 := by
  rintro _ _ _ ⟨_, _, _, rfl, _⟩
  rfl
theorem hd_ldrawn_lot : ∀ ds S post, sp_ldrawn_lot ds S post → b_ldrawn_lot (endsD S post) (startD ["jar", "many", "found", "i"] ds) S := by
  rintro ds S post ⟨x, y, many, rfl, rfl, ok, h1, h2, h⟩
  unfold b_ldrawn_lot
  rw [go_seqS]
  try walk_at "dgo1"
  refine ⟨by omega, by omega, lc_pure (fun _ => true) (fun i => .int (0 + (i : Int))) trivial (by rw [upTo_len]; omega) (fun i d acc J hi ha g1 _ => ?_) ?_⟩
  · obtain ⟨hi2, rfl⟩ := upTo_get hi
    try walk_at "dgo1"
    exact ⟨ha, g1 rfl⟩
  · rw [flt_all, upTo_len]
    have e : (List.range many.toNat).map (fun i : Nat => D.int (0 + (i : Int))) = ((List.range many.toNat).map fun i : Nat => (0 : Int) + (i : Int)).map D.int := by rw [List.map_map]; rfl
    rw [e]
    have hup := up_pair many.toNat
    have hm : ∀ i ∈ ((List.range many.toNat).map fun i : Nat => (0 : Int) + (i : Int)), 0 ≤ i ∧ i < many := fun i hi => by
      obtain ⟨j, hj, rfl⟩ := List.mem_map.mp hi
      rw [List.mem_range] at hj
      omega
    have hlen : ((List.range many.toNat).map fun i : Nat => (0 : Int) + (i : Int)).length = many.toNat := by rw [List.length_map, List.length_range]
    generalize ((List.range many.toNat).map fun i : Nat => (0 : Int) + (i : Int)) = us at hup hm hlen
    try walk_at "dgo1"
    refine call_someL (j := 0) (k := 1) (by decide) rfl rfl ok (by omega) fun ms x1 y1 ok1 hs => ?_
    try walk_at "dgo1"
    refine ⟨by decide, oEq_lnil (xs := ms) rfl rfl ?_⟩
    try walk_at "dgo1"
    cases ms with
    | nil =>
      rw [if_neg (by decide)]
      refine call_take (j := 0) rfl ok1 (by omega) (by omega) fun r x2 y2 ok2 ra rb => ?_
      try walk_at "dgo1"
      refine ⟨by decide, ?_⟩
      have hL : LotOf many [r] := ⟨by simp, by simp; omega, by simp, fun i hi => by rw [List.mem_singleton.mp hi]; exact ⟨ra, rb⟩⟩
      exact end_t (okT_tI [r]) (h [r] x2 y2 ok2 hL)
    | cons m ms =>
      rw [if_pos (by simp)]
      try walk_at "dgo1"
      have hL : LotOf many (m :: ms) := ⟨by simp, by have := hs.length_le; omega, hup.sublist hs, fun i hi => hm i (hs.subset hi)⟩
      exact end_t (okT_tI (m :: ms)) (h (m :: ms) x1 y1 ok1 hL)
theorem call_dlot {S : Store} {j : Nat} {x y many : Int} {post : DK} (hj : S[j]? = some (jar x y)) (ok : JOk x y) (h1 : 1 ≤ many) (h2 : many ≤ 100) (h : ∀ (ls : List Int) x' y', JOk x' y' → LotOf many ls → post (tI ls) (S.set j (jar x' y'))) : callD sp_ldrawn_lot [.lr j, .int many] S post :=
  call_one hj (by simp [belows, below]) jar_below ⟨x, y, many, rfl, rfl, ok, h1, h2, fun ls x' y' k a => by
    have := h ls x' y' k a
    simpa [ren_tI, ren, setAll, renE, rens] using this⟩
theorem ok_ldrawn_lot {P : Program} {w : World} {K : PySem.W.Frag} {mg : Str → Option Value} {base : Heap} {f : Addr} {fd : FuncData} (F : Fun K "_law_drawn_lot" "_law_drawn_lot" s_ldrawn_lot f fd) (W : Bl mg) (C_ltake : CalG P w K mg base 1 "_law_take" sp_ltake) (C_lsome : CalG P w K mg base 2 "_law_some" sp_lsome) :
    FnG P w K mg base CX0 3 f fd ["jar", "many"] (spL K sp_ldrawn_lot) := by
  refine fn_okG (tb := b_ldrawn_lot) F sc_ldrawn_lot len_ldrawn_lot (fun cdv A outer s H E hgd hr => ?_) hd_ldrawn_lot
  have sc := sc_ldrawn_lot
  have hu := hr.units
  have hu1 := Nat.lt_of_le_of_lt (Nat.add_le_add_left (show 1 ≤ 64 by decide) _) hu
  have hu65 := units65 hr
  exact (dss_cons (ds_set 2 sc.nd (de_cal C_lsome hgd hr (by decide) (by rfl) (da_cons (de_var 0) (da_cons (de_lc (own := [("i", 3)]) (ws := [3]) (by decide) rfl sc.nd (di_rng1 (by rfl) W.range_ (da_cons (de_var 1) da_nil)) (blkOk_by (by rfl)) (fun _ _ _ _ _ => (dg_name 3 sc.nd)) (fun _ _ _ _ _ => dts_nil) (fun _ _ _ _ _ => (de_var 3))) da_nil))))
      (dss_one (ds_ret (de_ifExp (dt_cmp (op_ne2 hu) rul_ne (de_var 2) (de_lst da_nil) (nomark _)) (de_callTy call_tupleP rul_tuple (by rfl) W.tuple_ PyProof.Rows.boot_tuple (da_cons (de_var 2) da_nil)) (de_tup (da_cons (de_cal C_ltake hgd hr (by decide) (by rfl) (da_cons (de_var 0) (da_cons (de_var 1) da_nil))) da_nil))))))
--@@split
/-! stamps, entries -/
abbrev CMAX : Int := 100000000000000001000
def b_ldrawn_stamp : DS :=
  (dSeq (dAsg (dGc0 (dCall sp_lone (dCons (dVar 0) (dCons (dLst (dCons (dC (.int 0)) (dCons (dC (.int 1)) (dCons (dCall sp_ltake (dCons (dVar 0) (dCons (dC (.int 1000)) dNil))) (dCons (dOp oAdd2 (dOp oPow (dC (.int 10)) (dC (.int 20))) (dCall sp_ltake (dCons (dVar 0) (dCons (dC (.int 1000)) dNil)))) dNil))))) dNil)))) (gName 1))
    (dRet (dTup (dCons (dVar 1) (dCons (dGc0 (dCall sp_lone (dCons (dVar 0) (dCons (dLst (dCons (dC (.int 0)) (dCons (dC (.int 99)) (dCons (dCall sp_ltake (dCons (dVar 0) (dCons (dC (.int 100)) dNil))) dNil)))) dNil)))) dNil)))))
def sp_ldrawn_stamp : DSp := fun ds S post => ∃ (x y : Int), ds = [.lr 0] ∧ S = [jar x y] ∧ JOk x y ∧ ∀ (c g : Int) x' y', JOk x' y' → 0 ≤ c → c ≤ CMAX → 0 ≤ g → g ≤ 99 → post (.tup [.int c, .int g]) [jar x' y']
theorem len_ldrawn_stamp : ∀ ds S post, sp_ldrawn_stamp ds S post → ds.length = 1 := by
  rintro _ _ _ ⟨_, _, rfl, _⟩
  rfl
theorem hd_ldrawn_stamp : ∀ ds S post, sp_ldrawn_stamp ds S post → b_ldrawn_stamp (endsD S post) (startD ["jar", "count"] ds) S := by
  rintro ds S post ⟨x, y, rfl, rfl, ok, h⟩
  unfold b_ldrawn_stamp
  rw [go_seqS]
  try walk_at "dgo1"
  refine call_take (j := 0) rfl ok (by decide) (by decide) fun r1 x1 y1 ok1 a1 b1 => ?_
  try walk_at "dgo1"
  refine ⟨⟨by decide, by decide, by decide⟩, call_take (j := 0) rfl ok1 (by decide) (by decide) fun r2 x2 y2 ok2 a2 b2 => ?_⟩
  try walk_at "dgo1"
  have e : (10 : Int) ^ Int.toNat 20 = 100000000000000000000 := by decide +kernel
  rw [e]
  have e2 : [D.int 0, D.int 1, D.int r1, D.int (100000000000000000000 + r2)] = [0, 1, r1, 100000000000000000000 + r2].map D.int := rfl
  rw [e2]
  refine ⟨by decide, call_lone (j := 0) (k := 1) (by decide) rfl rfl ok2 (by simp) (by simp) (belows_ints 0 _) fun d hd x3 y3 ok3 => ?_⟩
  obtain ⟨c, rfl, c1, c2⟩ := of_ints (ns := [0, 1, r1, 100000000000000000000 + r2]) (lo := 0) (hi := CMAX) hd (by
    intro n hn
    simp only [List.mem_cons, List.not_mem_nil, or_false] at hn
    show 0 ≤ n ∧ n ≤ 100000000000000001000
    rcases hn with rfl | rfl | rfl | rfl <;> omega)
  refine ⟨by simp [below], by simp [belowE, belows, below], ?_⟩
  try walk_at "dgo1"
  refine call_take (j := 0) rfl ok3 (by decide) (by decide) fun r4 x4 y4 ok4 a4 b4 => ?_
  try walk_at "dgo1"
  have e3 : [D.int 0, D.int 99, D.int r4] = [0, 99, r4].map D.int := rfl
  rw [e3]
  refine ⟨by decide, call_lone (j := 0) (k := 1) (by decide) rfl rfl ok4 (by simp) (by simp) (belows_ints 0 _) fun d hd x5 y5 ok5 => ?_⟩
  obtain ⟨g, rfl, g1, g2⟩ := of_ints (ns := [0, 99, r4]) (lo := 0) (hi := 99) hd (by
    intro n hn
    simp only [List.mem_cons, List.not_mem_nil, or_false] at hn
    rcases hn with rfl | rfl | rfl <;> omega)
  refine ⟨by simp [below], by simp [belowE, belows, below], by decide, ?_⟩
  try walk_at "dgo1"
  exact end_t (by simp [okT, okTs]) (h c g x5 y5 ok5 c1 c2 g1 g2)
theorem call_dstamp {S : Store} {j : Nat} {x y : Int} {post : DK} (hj : S[j]? = some (jar x y)) (ok : JOk x y) (h : ∀ (c g : Int) x' y', JOk x' y' → 0 ≤ c → c ≤ CMAX → 0 ≤ g → g ≤ 99 → post (.tup [.int c, .int g]) (S.set j (jar x' y'))) : callD sp_ldrawn_stamp [.lr j] S post :=
  call_one hj (by simp [belows]) jar_below ⟨x, y, rfl, rfl, ok, fun c g x' y' k a b e f => by
    have := h c g x' y' k a b e f
    simpa [ren, rens, setAll, renE] using this⟩
theorem ok_ldrawn_stamp {P : Program} {w : World} {K : PySem.W.Frag} {mg : Str → Option Value} {base : Heap} {f : Addr} {fd : FuncData} (F : Fun K "_law_drawn_stamp" "_law_drawn_stamp" s_ldrawn_stamp f fd) (W : Bl mg) (C_ltake : CalG P w K mg base 1 "_law_take" sp_ltake) (C_lone : CalG P w K mg base 2 "_law_one" sp_lone) :
    FnG P w K mg base CX0 3 f fd ["jar"] (spL K sp_ldrawn_stamp) := by
  refine fn_okG (tb := b_ldrawn_stamp) F sc_ldrawn_stamp len_ldrawn_stamp (fun cdv A outer s H E hgd hr => ?_) hd_ldrawn_stamp
  have sc := sc_ldrawn_stamp
  have hu := hr.units
  have hu1 := Nat.lt_of_le_of_lt (Nat.add_le_add_left (show 1 ≤ 64 by decide) _) hu
  have hu65 := units65 hr
  exact (dss_cons (ds_set 1 sc.nd (de_gc0 (de_cal C_lone hgd hr (by decide) (by rfl) (da_cons (de_var 0) (da_cons (de_lst (da_cons de_int (da_cons de_int (da_cons (de_cal C_ltake hgd hr (by decide) (by rfl) (da_cons (de_var 0) (da_cons de_int da_nil))) (da_cons (de_op op_add4 rul_add4 (de_op op_pow rul_pow de_int de_int) (de_cal C_ltake hgd hr (by decide) (by rfl) (da_cons (de_var 0) (da_cons de_int da_nil)))) da_nil))))) da_nil)))))
      (dss_one (ds_ret (de_tup (da_cons (de_var 1) (da_cons (de_gc0 (de_cal C_lone hgd hr (by decide) (by rfl) (da_cons (de_var 0) (da_cons (de_lst (da_cons de_int (da_cons de_int (da_cons (de_cal C_ltake hgd hr (by decide) (by rfl) (da_cons (de_var 0) (da_cons de_int da_nil))) da_nil)))) da_nil)))) da_nil))))))
/-- an entry that was drawn -/
def Ent3 (zs : List Int) (x : D) : Prop := ∃ s w c g z : Int, x = .tup [.int s, .int w, .tup [.int c, .int g]] ∧ 0 ≤ s ∧ s < zs.length ∧ zs[s.toNat]? = some z ∧ 0 ≤ w ∧ w < z ∧ z ≤ 6 ∧ zs.length ≤ 24 ∧ 0 ≤ c ∧ c ≤ CMAX ∧ 0 ≤ g ∧ g ≤ 99
theorem Ent3.en {zs : List Int} {x : D} (h : Ent3 zs x) : enD zs x = true := by
  obtain ⟨s, w, c, g, z, rfl, h1, h2, h3, h4, h5, h6, _, h7, h8, h9, h10⟩ := h
  rw [enD, hasW, stD, getD_of h3]
  simp only [numIn, Bool.and_eq_true, decide_eq_true_eq]
  omega
theorem small_bits {i : Int} (h1 : -10 ≤ i) (h2 : i ≤ CMAX + 10) : i.natAbs < 2 ^ 90 := by
  have h2' : i ≤ 100000000000000001010 := h2
  omega
theorem tb_sm {k : Nat} {i : Int} (h1 : -10 ≤ i) (h2 : i ≤ CMAX + 10) : Tb k (.int i) := tb_int (small_bits h1 h2)
theorem Ent3.tb {zs : List Int} {x : D} (h : Ent3 zs x) : Tb 2 x := by
  obtain ⟨s, w, c, g, z, rfl, h1, h2, h3, h4, h5, h6, h7, h8, h9, h10, h11⟩ := h
  have hC : CMAX = 100000000000000001000 := rfl
  exact tb_3 (tb_sm (by omega) (by omega)) (tb_sm (by omega) (by omega)) (tb_2 (tb_sm (by omega) (by omega)) (tb_sm (by omega) (by omega)))
/-- a row that was drawn, over a lot -/
def RowOf (zs ls : List Int) (xs : List D) : Prop := xs.length = ls.length ∧ ∀ (j : Nat) (x : D), xs[j]? = some x → Ent3 zs x ∧ stg x = ls.getD j 0
theorem RowOf.mem {zs ls : List Int} {xs : List D} (h : RowOf zs ls xs) : ∀ x ∈ xs, Ent3 zs x := fun x hx => by
  obtain ⟨j, hj⟩ := List.mem_iff_getElem?.mp hx
  exact (h.2 j x hj).1
theorem RowOf.tb {zs ls : List Int} {xs : List D} (h : RowOf zs ls xs) : Tb 3 (.tup xs) := tb_tup fun x hx => (h.mem x hx).tb
theorem row2_ok {zs ls : List Int} {xs : List D} (hL : LotOf zs.length ls) (h : RowOf zs ls xs) : row2 zs (tI ls) (.tup xs) = none := by
  unfold row2
  rw [if_pos (lotD_of hL), intsD_tI]
  unfold rowF
  have hl := h.1
  rw [if_pos (by simp only [tupIn, Bool.and_eq_true, decide_eq_true_eq]; omega)]
  have : fstN (fun i x => enD zs x && decide (stg x = ls.getD i 0)) (partsD (.tup xs)) = none := fstN_none fun j hj => by
    have hj' : j < xs.length := hj
    have hx := List.getElem?_eq_getElem hj'
    show (enD zs (xs.getD j .non) && _) = true
    rw [show (partsD (D.tup xs)).getD j .non = xs.getD j .non from rfl, getD_of hx]
    obtain ⟨h1, h2⟩ := h.2 j _ hx
    rw [h1.en, h2, Bool.true_and]
    exact decide_eq_true rfl
  rw [this]
  rfl
theorem entF_ok {zs ls : List Int} : ∀ {xs : List D} {ms : List Int} {last : Int} {i : Nat}, RowOf zs ms xs → (∀ m ∈ ms, m ∈ ls ∧ last < m) → ms.Pairwise (· < ·) → entF zs ls last i xs = none
  | [], _, _, _, _, _, _ => rfl
  | x :: xs, ms, last, i, h, hm, hp => by
    match ms, h.1 with
    | m :: ms, hl =>
      obtain ⟨h1, h2⟩ := h.2 0 x rfl
      have e : stg x = m := h2
      obtain ⟨a, b⟩ := hm m List.mem_cons_self
      rw [entF, h1.en, e, decide_eq_true a, decide_eq_true b, if_pos (by rfl)]
      rw [List.pairwise_cons] at hp
      refine entF_ok (ms := ms) ⟨?_, fun j y hy => ?_⟩ (fun k hk => ⟨(hm k (List.mem_cons_of_mem _ hk)).1, hp.1 k hk⟩) hp.2
      · simpa using hl
      · have := h.2 (j + 1) y (by simpa using hy)
        simpa using this
theorem let2_ok {zs ls ms : List Int} {xs : List D} (hL : LotOf zs.length ls) (hs : ms.Sublist ls) (h : RowOf zs ms xs) : let2 zs (.tup [tI ls, .tup xs]) = none := by
  unfold let2
  rw [letF, if_pos (lotD_of hL), intsD_tI, entF_ok h (fun m hm => ⟨hs.subset hm, by have := hL.2.2.2 m (hs.subset hm); omega⟩) (hL.2.2.1.sublist hs)]
  rfl
def b_ldrawn_entries : DS :=
  (dRet (dGc0 (dCB cTuple (dCons (dLc (wSeq (dVar 2)) (gName 3) dYes (dTup (dCons (dVar 3) (dCons (dCall sp_ltake (dCons (dVar 0) (dCons (dOp oIx (dVar 1) (dVar 3)) dNil))) (dCons (dCall sp_ldrawn_stamp (dCons (dVar 0) dNil)) dNil)))) [3]) dNil))))
def sp_ldrawn_entries : DSp := fun ds S post => ∃ (x y : Int) (zs ls : List Int), JOk x y ∧ Sizes24 zs ∧ ls.length ≤ 24 ∧ (∀ i ∈ ls, 0 ≤ i ∧ i < zs.length) ∧
  ((ds = [.lr 0, tI zs, tI ls] ∧ S = [jar x y] ∧ ∀ (xs : List D) x' y', JOk x' y' → RowOf zs ls xs → post (.tup xs) [jar x' y']) ∨
   (ds = [.lr 0, tI zs, .lr 1] ∧ S = [jar x y, .lst (ls.map .int)] ∧ ∀ (xs : List D) x' y', JOk x' y' → RowOf zs ls xs → post (.tup xs) [jar x' y', .lst (ls.map .int)]))
theorem len_ldrawn_entries : ∀ ds S post, sp_ldrawn_entries ds S post → ds.length = 3 := by
  rintro _ _ _ ⟨_, _, _, _, _, _, _, _, ⟨rfl, _⟩ | ⟨rfl, _⟩⟩ <;> rfl
theorem hd_ldrawn_entries : ∀ ds S post, sp_ldrawn_entries ds S post → b_ldrawn_entries (endsD S post) (startD ["jar", "sizes", "lot", "i"] ds) S := by
  rintro ds S post ⟨x, y, zs, ls, ok, hz, hl, hm, ⟨rfl, rfl, h⟩ | ⟨rfl, rfl, h⟩⟩
  · have hz2 := hz.2.1
    unfold b_ldrawn_entries
    try walk_at "dgo"
    refine lc_inv (fun i acc S => ∃ (u v : Int), S = [jar u v] ∧ JOk u v ∧ acc.length = i ∧ ∀ (j : Nat) (x : D), acc[j]? = some x → Ent3 zs x ∧ stg x = ls.getD j 0)
      ⟨x, y, rfl, ok, rfl, fun j x hx => by simp at hx⟩ (fun i acc S _ hI => by first | trivial | exact seqOf_tup.mpr rfl) (fun i d acc S hd hI => ?_) fun acc S hI => ?_
    · obtain ⟨u, v, rfl, ok2, ha, hI⟩ := hI
      obtain ⟨s, hs, _, rfl⟩ := int_at hd
      have hsi := (List.getElem?_eq_some_iff.mp hs).1
      obtain ⟨s1, s2⟩ := hm s (List.mem_of_getElem? hs)
      have hi : s.toNat < zs.length := by omega
      have hzs := List.getElem?_eq_getElem hi
      have hz1 := hz.2.2 _ (List.getElem_mem hi)
      have hat := atI_of (xs := zs.map D.int) (v := .int zs[s.toNat]) s1 (by rw [List.getElem?_map, hzs]; rfl)
      generalize zs[s.toNat] = z at hzs hz1 hat
      try walk_at "dgo"
      refine ⟨_, hat, call_take (j := 0) rfl ok2 (by omega) (by omega) fun w x1 y1 ok1 wa wb => ?_⟩
      try walk_at "dgo"
      refine call_dstamp (j := 0) rfl ok1 fun c g x3 y3 ok3 c1 c2 g1 g2 => ?_
      try walk_at "dgo"
      refine ⟨by decide, by omega, x3, y3, rfl, ok3, by simp [ha], fun j x hx => ?_⟩
      by_cases hj : j < acc.length
      · rw [List.getElem?_append_left hj] at hx
        exact hI j x hx
      · have e : j = acc.length := by
          have := (List.getElem?_eq_some_iff.mp hx).1
          simp at this
          omega
        subst e
        rw [List.getElem?_append_right (Nat.le_refl _), Nat.sub_self] at hx
        simp at hx
        subst hx
        refine ⟨⟨s, w, c, g, z, rfl, s1, s2, hzs, wa, wb, hz1.2, hz2, c1, c2, g1, g2⟩, ?_⟩
        rw [ha, getD_of hs]
        rfl
    · obtain ⟨u, v, rfl, ok2, ha, hI⟩ := hI
      rw [List.length_map] at ha
      have hR : RowOf zs ls acc := ⟨ha, hI⟩
      try walk_at "dgo"
      have hb := hR.tb.ok
      refine ⟨?_, end_t hb (h acc u v ok2 hR)⟩
      have := okT_below 1 _ hb
      rwa [below] at this
  · have hz2 := hz.2.1
    unfold b_ldrawn_entries
    try walk_at "dgo"
    refine lc_inv (fun i acc S => ∃ (u v : Int), S = [jar u v, .lst (ls.map .int)] ∧ JOk u v ∧ acc.length = i ∧ ∀ (j : Nat) (x : D), acc[j]? = some x → Ent3 zs x ∧ stg x = ls.getD j 0)
      ⟨x, y, rfl, ok, rfl, fun j x hx => by simp at hx⟩ (fun i acc S _ hI => by obtain ⟨u, v, rfl, _⟩ := hI; first | trivial | exact seqOf_lr.mpr rfl | rfl) (fun i d acc S hd hI => ?_) fun acc S hI => ?_
    · obtain ⟨u, v, rfl, ok2, ha, hI⟩ := hI
      obtain ⟨s, hs, _, rfl⟩ := int_at hd
      have hsi := (List.getElem?_eq_some_iff.mp hs).1
      obtain ⟨s1, s2⟩ := hm s (List.mem_of_getElem? hs)
      have hi : s.toNat < zs.length := by omega
      have hzs := List.getElem?_eq_getElem hi
      have hz1 := hz.2.2 _ (List.getElem_mem hi)
      have hat := atI_of (xs := zs.map D.int) (v := .int zs[s.toNat]) s1 (by rw [List.getElem?_map, hzs]; rfl)
      generalize zs[s.toNat] = z at hzs hz1 hat
      try walk_at "dgo"
      refine ⟨_, hat, call_take (j := 0) rfl ok2 (by omega) (by omega) fun w x1 y1 ok1 wa wb => ?_⟩
      try walk_at "dgo"
      refine call_dstamp (j := 0) rfl ok1 fun c g x3 y3 ok3 c1 c2 g1 g2 => ?_
      try walk_at "dgo"
      refine ⟨by decide, by omega, x3, y3, rfl, ok3, by simp [ha], fun j x hx => ?_⟩
      by_cases hj : j < acc.length
      · rw [List.getElem?_append_left hj] at hx
        exact hI j x hx
      · have e : j = acc.length := by
          have := (List.getElem?_eq_some_iff.mp hx).1
          simp at this
          omega
        subst e
        rw [List.getElem?_append_right (Nat.le_refl _), Nat.sub_self] at hx
        simp at hx
        subst hx
        refine ⟨⟨s, w, c, g, z, rfl, s1, s2, hzs, wa, wb, hz1.2, hz2, c1, c2, g1, g2⟩, ?_⟩
        rw [ha, getD_of hs]
        rfl
    · obtain ⟨u, v, rfl, ok2, ha, hI⟩ := hI
      rw [List.length_map] at ha
      have hR : RowOf zs ls acc := ⟨ha, hI⟩
      try walk_at "dgo"
      have hb := hR.tb.ok
      refine ⟨?_, end_same (S := [jar x y, .lst (ls.map .int)]) rfl (okT_below _ _ hb) (by simp [belowE, belows, below, belows_ints]) (h acc u v ok2 hR)⟩
      have := okT_below 2 _ hb
      rwa [below] at this
theorem call_dents {S : Store} {j : Nat} {x y : Int} {zs ls : List Int} {post : DK} (hj : S[j]? = some (jar x y)) (ok : JOk x y) (hz : Sizes24 zs) (hl : ls.length ≤ 24) (hm : ∀ i ∈ ls, 0 ≤ i ∧ i < zs.length) (h : ∀ (xs : List D) x' y', JOk x' y' → RowOf zs ls xs → post (.tup xs) (S.set j (jar x' y'))) : callD sp_ldrawn_entries [.lr j, tI zs, tI ls] S post :=
  call_one hj (by simp [belows, below_tI]) jar_below ⟨x, y, zs, ls, ok, hz, hl, hm, .inl ⟨rfl, rfl, fun xs x' y' k a => by
    have := h xs x' y' k a
    dsimp only
    rw [ren_below _ _ (okT0 a.tb.ok)]
    simpa [setAll, renE, rens, ren] using this⟩⟩
theorem call_dentsL {S : Store} {j k : Nat} {x y : Int} {zs ls : List Int} {post : DK} (hjk : j ≠ k) (hj : S[j]? = some (jar x y)) (hk : S[k]? = some (.lst (ls.map .int))) (ok : JOk x y) (hz : Sizes24 zs) (hl : ls.length ≤ 24) (hm : ∀ i ∈ ls, 0 ≤ i ∧ i < zs.length) (h : ∀ (xs : List D) x' y', JOk x' y' → RowOf zs ls xs → post (.tup xs) (S.set j (jar x' y'))) : callD sp_ldrawn_entries [.lr j, tI zs, .lr k] S post := by
  refine ⟨[j, k], [.lr 0, tI zs, .lr 1], [jar x y, .lst (ls.map .int)], by simp [hjk], ?_, rfl, fun i n e' h1 h2 => ?_, x, y, zs, ls, ok, hz, hl, hm, .inr ⟨rfl, rfl, fun xs x' y' ok' hx' => ?_⟩⟩
  · rw [rens, rens, rens, rens, ren, ren_below _ _ (below_tI 0 zs), ren]
    rfl
  · have hi : i < 2 := (List.getElem?_eq_some_iff.mp h1).1
    match i, hi with
    | 0, _ =>
      simp at h1 h2
      subst h1 h2
      rw [renE_below _ _ jar_below]
      exact hj
    | 1, _ =>
      simp at h1 h2
      subst h1 h2
      rw [renE_below _ _ (show belowE 0 (.lst (ls.map D.int)) = true from belows_ints 0 ls)]
      exact hk
  · have e : (S.set j (jar x' y')).set k (.lst (ls.map .int)) = S.set j (jar x' y') := by
      have : (S.set j (jar x' y'))[k]? = some (.lst (ls.map .int)) := by
        rw [List.getElem?_set_ne hjk]
        exact hk
      obtain ⟨hl, he⟩ := List.getElem?_eq_some_iff.mp this
      rw [← he]
      exact List.set_getElem_self hl
    simp only [List.length_cons, List.length_nil, Nat.reduceAdd, List.take_succ_cons, List.take_zero, List.drop_succ_cons, List.drop_zero, List.map_cons, List.map_nil, setAll, List.append_nil]
    rw [ren_below _ _ (okT0 hx'.tb.ok), renE_below _ (jar x' y') jar_below, renE_below _ (.lst (ls.map .int)) (belows_ints 0 ls), e]
    exact h xs x' y' ok' hx'
theorem ok_ldrawn_entries {P : Program} {w : World} {K : PySem.W.Frag} {mg : Str → Option Value} {base : Heap} {f : Addr} {fd : FuncData} (F : Fun K "_law_drawn_entries" "_law_drawn_entries" s_ldrawn_entries f fd) (W : Bl mg) (C_ldrawn_stamp : CalG P w K mg base 3 "_law_drawn_stamp" sp_ldrawn_stamp) (C_ltake : CalG P w K mg base 1 "_law_take" sp_ltake) :
    FnG P w K mg base CX0 4 f fd ["jar", "sizes", "lot"] (spL K sp_ldrawn_entries) := by
  refine fn_okG (tb := b_ldrawn_entries) F sc_ldrawn_entries len_ldrawn_entries (fun cdv A outer s H E hgd hr => ?_) hd_ldrawn_entries
  have sc := sc_ldrawn_entries
  have hu := hr.units
  have hu1 := Nat.lt_of_le_of_lt (Nat.add_le_add_left (show 1 ≤ 64 by decide) _) hu
  have hu65 := units65 hr
  exact (dss_one (ds_ret (de_gc0 (de_callTy call_tupleP rul_tuple (by rfl) W.tuple_ PyProof.Rows.boot_tuple (da_cons (de_lc (own := [("i", 3)]) (ws := [3]) (by decide) rfl sc.nd (di_seq (de_var 2)) (blkOk_by (by rfl)) (fun _ _ _ _ _ => (dg_name 3 sc.nd)) (fun _ _ _ _ _ => dts_nil) (fun _ _ _ _ _ => (de_tup (da_cons (de_var 3) (da_cons (de_cal C_ltake hgd hr (by decide) (by rfl) (da_cons (de_var 0) (da_cons (de_ix ix_seq rul_ix (de_var 1) (de_var 3)) da_nil))) (da_cons (de_cal C_ldrawn_stamp hgd hr (by decide) (by rfl) (da_cons (de_var 0) da_nil)) da_nil)))))) da_nil)))))
--@@split
/-! bent ones -/
def Odd (d : D) : Prop := Tb 10 d ∧ (partsD d).length ≤ 30
theorem odd_below {n : Nat} {d : D} (h : Odd d) : below n d = true := okT_below n d h.1.ok
theorem odd_sm {i : Int} (h1 : -10 ≤ i) (h2 : i ≤ CMAX + 10) : Odd (.int i) := ⟨tb_sm h1 h2, by simp [partsD]⟩
theorem odd_bl {b : Bool} : Odd (.bl b) := ⟨tb_bl, by simp [partsD]⟩
theorem odd_non : Odd .non := ⟨tb_non, by simp [partsD]⟩
theorem odd_str {x : Str} (h : (PyData.str x).canLay0 = true) : Odd (.str x) := ⟨tb_str h, by simp [partsD]⟩
theorem odd_tup {xs : List D} (h : ∀ d ∈ xs, Tb 9 d) (hl : xs.length ≤ 30) : Odd (.tup xs) := ⟨tb_tup h, hl⟩
def b_lbent_entry : DS :=
  (dSeq (dAsg (dVar 2) (gTup 3 (gCons (gName 3) (gCons (gName 4) (gCons (gName 5) gNil)))))
    (dSeq (dAsg (dVar 5) (gTup 2 (gCons (gName 6) (gCons (gName 7) gNil))))
    (dSeq (dAsg (dCall sp_ltake (dCons (dVar 0) (dCons (dC (.int 4)) dNil))) (gName 8))
    (dSeq (dIfS (dTest (dOp (oEq false) (dVar 8) (dC (.int 0)))) (dRet (dGc0 (dCall sp_lone (dCons (dVar 0) (dCons (dLst (dCons (dTup (dCons (dOp oAdd2 (dVar 3) (dC (.int 1))) (dCons (dVar 4) (dCons (dVar 5) dNil)))) (dCons (dTup (dCons (dOp oSub (dVar 3) (dC (.int 1))) (dCons (dVar 4) (dCons (dVar 5) dNil)))) (dCons (dTup (dCons (dCB cLen (dCons (dVar 1) dNil)) (dCons (dVar 4) (dCons (dVar 5) dNil)))) (dCons (dTup (dCons (dC (.bl true)) (dCons (dVar 4) (dCons (dVar 5) dNil)))) (dCons (dTup (dCons (dC .non) (dCons (dVar 4) (dCons (dVar 5) dNil)))) dNil)))))) dNil))))) dNext)
    (dSeq (dIfS (dTest (dOp (oEq false) (dVar 8) (dC (.int 1)))) (dRet (dGc0 (dCall sp_lone (dCons (dVar 0) (dCons (dLst (dCons (dTup (dCons (dVar 3) (dCons (dOp oIx (dVar 1) (dVar 3)) (dCons (dVar 5) dNil)))) (dCons (dTup (dCons (dVar 3) (dCons (dOp oAdd2 (dVar 4) (dC (.int 1))) (dCons (dVar 5) dNil)))) (dCons (dTup (dCons (dVar 3) (dCons (dUn oNeg (dC (.int 1))) (dCons (dVar 5) dNil)))) (dCons (dTup (dCons (dVar 3) (dCons (dC (.bl true)) (dCons (dVar 5) dNil)))) (dCons (dTup (dCons (dVar 3) (dCons (dTup (dCons (dVar 4) dNil)) (dCons (dVar 5) dNil)))) dNil)))))) dNil))))) dNext)
    (dSeq (dIfS (dTest (dOp (oEq false) (dVar 8) (dC (.int 2)))) (dSeq (dAsg (dGc0 (dCall sp_lone (dCons (dVar 0) (dCons (dLst (dCons (dTup (dCons (dUn oNeg (dC (.int 1))) (dCons (dVar 7) dNil))) (dCons (dTup (dCons (dVar 6) (dCons (dC (.int 100)) dNil))) (dCons (dTup (dCons (dVar 6) (dCons (dUn oNeg (dC (.int 1))) dNil))) (dCons (dTup (dCons (dC (.bl true)) (dCons (dVar 7) dNil))) (dCons (dTup (dCons (dVar 6) (dCons (dC (.bl true)) dNil))) (dCons (dTup (dCons (dVar 6) (dCons (dVar 7) (dCons (dC (.int 0)) dNil)))) (dCons (dTup (dCons (dVar 6) dNil)) (dCons (dVar 6) (dCons (dC (.str "0")) (dCons (dTup (dCons (dOp oAdd2 (dVar 6) (dC (.int 1))) (dCons (dVar 7) dNil))) (dCons (dTup (dCons (dVar 6) (dCons (dC (.str "a")) dNil))) dNil)))))))))))) dNil)))) (gName 9))
    (dRet (dTup (dCons (dVar 3) (dCons (dVar 4) (dCons (dVar 9) dNil)))))) dNext)
    (dRet (dGc0 (dCall sp_lone (dCons (dVar 0) (dCons (dLst (dCons (dTup (dCons (dVar 3) (dCons (dVar 4) dNil))) (dCons (dTup (dCons (dVar 3) (dCons (dVar 4) (dCons (dVar 5) (dCons (dC (.int 0)) dNil))))) (dCons (dVar 3) (dCons (dC .non) (dCons (dC (.str "entry")) (dCons (dTup dNil) (dCons (dC (.bl true)) (dCons (dTup (dCons (dVar 5) (dCons (dVar 4) (dCons (dVar 3) dNil)))) dNil))))))))) dNil)))))))))))
def sp_lbent_entry : DSp := fun ds S post => ∃ (x y : Int) (zs : List Int) (e : D), ds = [.lr 0, tI zs, e] ∧ S = [jar x y] ∧ JOk x y ∧ Sizes24 zs ∧ Ent3 zs e ∧ ∀ d x' y', JOk x' y' → Tb 5 d → post d [jar x' y']
theorem len_lbent_entry : ∀ ds S post, sp_lbent_entry ds S post → ds.length = 3 := by
  rintro _ _ _ ⟨_, _, _, _, rfl, _⟩
  rfl
theorem hd_lbent_entry : ∀ ds S post, sp_lbent_entry ds S post → b_lbent_entry (endsD S post) (startD ["jar", "sizes", "entry", "i", "a", "stamp", "c", "h", "way", "odd"] ds) S := by
  rintro ds S post ⟨x, y, zs, e, rfl, rfl, ok, hz, he, h⟩
  obtain ⟨i, a, c, g, z, rfl, i1, i2, hzs, a1, a2, z6, zl, c1, c2, g1, g2⟩ := he
  have hC : CMAX = 100000000000000001000 := rfl
  have hat := atI_of (xs := zs.map D.int) (v := .int z) i1 (by rw [List.getElem?_map, hzs]; rfl)
  have si : ∀ {k : Nat}, Tb k (.int i) := fun {k} => tb_sm (by omega) (by omega)
  have sa : ∀ {k : Nat}, Tb k (.int a) := fun {k} => tb_sm (by omega) (by omega)
  have sc : ∀ {k : Nat}, Tb k (.int c) := fun {k} => tb_sm (by omega) (by omega)
  have sg : ∀ {k : Nat}, Tb k (.int g) := fun {k} => tb_sm (by omega) (by omega)
  have st : ∀ {k : Nat}, Tb (k + 1) (.tup [.int c, .int g]) := fun {k} => tb_2 sc sg
  unfold b_lbent_entry
  rw [go_seqS]
  try walk_at "dgo1"
  rw [go_seqS]
  try walk_at "dgo1"
  rw [go_seqS]
  try walk_at "dgo1"
  refine call_take (j := 0) rfl ok (by decide) (by decide) fun way x1 y1 ok1 w1 w2 => ?_
  try walk_at "dgo1"
  rw [go_seqS]
  try walk_at "dgo1"
  have fin : ∀ (os : List D) (u v : Int), JOk u v → (∀ d ∈ os, Tb 5 d) → os ≠ [] → os.length ≤ 100 → callD sp_lone [.lr 0, .lr 1] [jar u v, .lst os] (fun d S1 => below 1 d = true ∧ (S1.take 1).all (belowE 1) = true ∧ fnEnd [jar x y] post d (S1.take 1)) := fun os u v ok2 ho h0 hl => by
    refine call_lone (j := 0) (k := 1) (by decide) rfl rfl ok2 h0 (by omega) (belows_iff.mpr fun d hd => okT0 (ho d hd).ok) fun d hd x3 y3 ok3 => ?_
    have hd' := ho d hd
    exact ⟨okT_below _ _ hd'.ok, by simp [belowE, belows, below], end_t hd'.ok (h d x3 y3 ok3 hd')⟩
  split
  · repeat (first | refine And.intro (by decide) ?_ | refine Exists.intro _ (And.intro hat ?_))
    refine fin _ x1 y1 ok1 ?_ (by simp) (by simp)
    repeat' (first | exact thn | refine thc ?_ ?_ | exact tb_bl | exact tb_non | exact tb_str (by decide +kernel) | exact tb_sm (by omega) (by omega) | exact tb_nil | exact st | refine tb_4 ?_ ?_ ?_ ?_ | refine tb_3 ?_ ?_ ?_ | refine tb_2 ?_ ?_ | refine tb_1 ?_)
  rw [go_seqS]
  try walk_at "dgo1"
  split
  · repeat (first | refine And.intro (by decide) ?_ | refine Exists.intro _ (And.intro hat ?_))
    refine fin _ x1 y1 ok1 ?_ (by simp) (by simp)
    repeat' (first | exact thn | refine thc ?_ ?_ | exact tb_bl | exact tb_non | exact tb_str (by decide +kernel) | exact tb_sm (by omega) (by omega) | exact tb_nil | exact st | refine tb_4 ?_ ?_ ?_ ?_ | refine tb_3 ?_ ?_ ?_ | refine tb_2 ?_ ?_ | refine tb_1 ?_)
  rw [go_seqS]
  try walk_at "dgo1"
  split
  · rw [go_seqS]
    try walk_at "dgo1"
    repeat (first | refine And.intro (by decide) ?_ | refine Exists.intro _ (And.intro hat ?_))
    have ho : ∀ d ∈ [D.tup [.int (-1), .int g], D.tup [.int c, .int 100], D.tup [.int c, .int (-1)], D.tup [.bl true, .int g], D.tup [.int c, .bl true], D.tup [.int c, .int g, .int 0], D.tup [.int c], D.int c, D.str "0", D.tup [.int (c + 1), .int g], D.tup [.int c, .str "a"]], Tb 4 d := by
      repeat' (first | exact thn | refine thc ?_ ?_ | exact tb_bl | exact tb_non | exact tb_str (by decide +kernel) | exact tb_sm (by omega) (by omega) | exact tb_nil | exact st | refine tb_4 ?_ ?_ ?_ ?_ | refine tb_3 ?_ ?_ ?_ | refine tb_2 ?_ ?_ | refine tb_1 ?_)
    refine call_lone (j := 0) (k := 1) (by decide) rfl rfl ok1 (by simp) (by simp) (belows_iff.mpr fun d hd => okT0 (ho d hd).ok) fun d hd x3 y3 ok3 => ?_
    have hd' := ho d hd
    refine ⟨okT_below _ _ hd'.ok, by simp [belowE, belows, below], ?_⟩
    try walk_at "dgo1"
    have hr : Tb 5 (.tup [.int i, .int a, d]) := tb_3 si sa hd'
    exact ⟨by decide, end_t hr.ok (h _ x3 y3 ok3 hr)⟩
  · repeat (first | refine And.intro (by decide) ?_ | refine Exists.intro _ (And.intro hat ?_))
    refine fin _ x1 y1 ok1 ?_ (by simp) (by simp)
    repeat' (first | exact thn | refine thc ?_ ?_ | exact tb_bl | exact tb_non | exact tb_str (by decide +kernel) | exact tb_sm (by omega) (by omega) | exact tb_nil | exact st | refine tb_4 ?_ ?_ ?_ ?_ | refine tb_3 ?_ ?_ ?_ | refine tb_2 ?_ ?_ | refine tb_1 ?_)
theorem call_bent_entry {S : Store} {j : Nat} {x y : Int} {zs : List Int} {e : D} {post : DK} (hj : S[j]? = some (jar x y)) (ok : JOk x y) (hz : Sizes24 zs) (he : Ent3 zs e) (h : ∀ d x' y', JOk x' y' → Tb 5 d → post d (S.set j (jar x' y'))) : callD sp_lbent_entry [.lr j, tI zs, e] S post :=
  call_one hj (by simp [belows, below_tI, okT0 he.tb.ok]) jar_below ⟨x, y, zs, e, rfl, rfl, ok, hz, he, fun d x' y' k a => by
    have := h d x' y' k a
    dsimp only
    rw [ren_below _ _ (okT0 a.ok)]
    simpa [setAll, renE, rens, ren] using this⟩
theorem ok_lbent_entry {P : Program} {w : World} {K : PySem.W.Frag} {mg : Str → Option Value} {base : Heap} {f : Addr} {fd : FuncData} (F : Fun K "_law_bent_entry" "_law_bent_entry" s_lbent_entry f fd) (W : Bl mg) (C_lone : CalG P w K mg base 2 "_law_one" sp_lone) (C_ltake : CalG P w K mg base 1 "_law_take" sp_ltake) :
    FnG P w K mg base CX0 3 f fd ["jar", "sizes", "entry"] (spL K sp_lbent_entry) := by
  refine fn_okG (tb := b_lbent_entry) F sc_lbent_entry len_lbent_entry (fun cdv A outer s H E hgd hr => ?_) hd_lbent_entry
  have sc := sc_lbent_entry
  have hu := hr.units
  have hu1 := Nat.lt_of_le_of_lt (Nat.add_le_add_left (show 1 ≤ 64 by decide) _) hu
  have hu65 := units65 hr
  exact (dss_cons (ds_asg (de_var 2) (dg_tup rfl (dgs_cons (dg_name 3 sc.nd) (dgs_cons (dg_name 4 sc.nd) (dgs_cons (dg_name 5 sc.nd) dgs_nil)))))
      (dss_cons (ds_asg (de_var 5) (dg_tup rfl (dgs_cons (dg_name 6 sc.nd) (dgs_cons (dg_name 7 sc.nd) dgs_nil))))
      (dss_cons (ds_set 8 sc.nd (de_cal C_ltake hgd hr (by decide) (by rfl) (da_cons (de_var 0) (da_cons de_int da_nil))))
      (dss_cons (ds_if (dt_cmp (op_eq2 hu) rul_eq (de_var 8) de_int (nomark _)) (dss_one (ds_ret (de_gc0 (de_cal C_lone hgd hr (by decide) (by rfl) (da_cons (de_var 0) (da_cons (de_lst (da_cons (de_tup (da_cons (de_op op_add4 rul_add4 (de_var 3) de_int) (da_cons (de_var 4) (da_cons (de_var 5) da_nil)))) (da_cons (de_tup (da_cons (de_op op_sub rul_sub (de_var 3) de_int) (da_cons (de_var 4) (da_cons (de_var 5) da_nil)))) (da_cons (de_tup (da_cons (de_callB call_len_seq rul_len (by rfl) W.len_ PySem.boot_len (da_cons (de_var 1) da_nil)) (da_cons (de_var 4) (da_cons (de_var 5) da_nil)))) (da_cons (de_tup (da_cons de_bl (da_cons (de_var 4) (da_cons (de_var 5) da_nil)))) (da_cons (de_tup (da_cons de_non (da_cons (de_var 4) (da_cons (de_var 5) da_nil)))) da_nil)))))) da_nil)))))) dss_nil)
      (dss_cons (ds_if (dt_cmp (op_eq2 hu) rul_eq (de_var 8) de_int (nomark _)) (dss_one (ds_ret (de_gc0 (de_cal C_lone hgd hr (by decide) (by rfl) (da_cons (de_var 0) (da_cons (de_lst (da_cons (de_tup (da_cons (de_var 3) (da_cons (de_ix ix_seq rul_ix (de_var 1) (de_var 3)) (da_cons (de_var 5) da_nil)))) (da_cons (de_tup (da_cons (de_var 3) (da_cons (de_op op_add4 rul_add4 (de_var 4) de_int) (da_cons (de_var 5) da_nil)))) (da_cons (de_tup (da_cons (de_var 3) (da_cons (de_un un_neg rul_neg de_int) (da_cons (de_var 5) da_nil)))) (da_cons (de_tup (da_cons (de_var 3) (da_cons de_bl (da_cons (de_var 5) da_nil)))) (da_cons (de_tup (da_cons (de_var 3) (da_cons (de_tup (da_cons (de_var 4) da_nil)) (da_cons (de_var 5) da_nil)))) da_nil)))))) da_nil)))))) dss_nil)
      (dss_cons (ds_if (dt_cmp (op_eq2 hu) rul_eq (de_var 8) de_int (nomark _)) (dss_cons (ds_set 9 sc.nd (de_gc0 (de_cal C_lone hgd hr (by decide) (by rfl) (da_cons (de_var 0) (da_cons (de_lst (da_cons (de_tup (da_cons (de_un un_neg rul_neg de_int) (da_cons (de_var 7) da_nil))) (da_cons (de_tup (da_cons (de_var 6) (da_cons de_int da_nil))) (da_cons (de_tup (da_cons (de_var 6) (da_cons (de_un un_neg rul_neg de_int) da_nil))) (da_cons (de_tup (da_cons de_bl (da_cons (de_var 7) da_nil))) (da_cons (de_tup (da_cons (de_var 6) (da_cons de_bl da_nil))) (da_cons (de_tup (da_cons (de_var 6) (da_cons (de_var 7) (da_cons de_int da_nil)))) (da_cons (de_tup (da_cons (de_var 6) da_nil)) (da_cons (de_var 6) (da_cons de_str (da_cons (de_tup (da_cons (de_op op_add4 rul_add4 (de_var 6) de_int) (da_cons (de_var 7) da_nil))) (da_cons (de_tup (da_cons (de_var 6) (da_cons de_str da_nil))) da_nil)))))))))))) da_nil)))))
      (dss_one (ds_ret (de_tup (da_cons (de_var 3) (da_cons (de_var 4) (da_cons (de_var 9) da_nil))))))) dss_nil)
      (dss_one (ds_ret (de_gc0 (de_cal C_lone hgd hr (by decide) (by rfl) (da_cons (de_var 0) (da_cons (de_lst (da_cons (de_tup (da_cons (de_var 3) (da_cons (de_var 4) da_nil))) (da_cons (de_tup (da_cons (de_var 3) (da_cons (de_var 4) (da_cons (de_var 5) (da_cons de_int da_nil))))) (da_cons (de_var 3) (da_cons de_non (da_cons de_str (da_cons (de_tup da_nil) (da_cons de_bl (da_cons (de_tup (da_cons (de_var 5) (da_cons (de_var 4) (da_cons (de_var 3) da_nil)))) da_nil))))))))) da_nil))))))))))))
def b_lbent_lot : DS :=
  (dSeq (dAsg (dCB cLen (dCons (dVar 1) dNil)) (gName 3))
    (dSeq (dAsg (dLst (dCons (dTup dNil) (dCons (dOp oAdd2 (dVar 2) (dSl (dVar 2) (dPart (dOp oSub (dCB cLen (dCons (dVar 2) dNil)) (dC (.int 1)))) dNoPart)) (dCons (dOp oAdd2 (dTup (dCons (dUn oNeg (dC (.int 1))) dNil)) (dVar 2)) (dCons (dOp oAdd2 (dVar 2) (dTup (dCons (dVar 3) dNil))) (dCons (dRevT (dVar 2)) (dCons (dC .non) (dCons (dOp oIx (dVar 2) (dC (.int 0))) (dCons (dC (.str "lot")) (dCons (dOp oAdd2 (dVar 2) (dTup (dCons (dC (.bl true)) dNil))) dNil)))))))))) (gName 4))
    (dRet (dGc0 (dCall sp_lone (dCons (dVar 0) (dCons (dOp oAdd2 (dVar 4) (dLst (dCons (dSl (dVar 2) (dPart (dC (.int 1))) dNoPart) (dCons (dTup (dCons (dC (.bl false)) dNil)) (dCons (dOp oAdd2 (dSl (dVar 2) dNoPart (dPart (dC (.int 1)))) (dTup (dCons (dC .non) dNil))) dNil))))) dNil)))))))
def sp_lbent_lot : DSp := fun ds S post => ∃ (x y : Int) (zs ls : List Int), ds = [.lr 0, tI zs, tI ls] ∧ S = [jar x y] ∧ JOk x y ∧ Sizes24 zs ∧ LotOf zs.length ls ∧ ∀ d x' y', JOk x' y' → Odd d → post d [jar x' y']
theorem len_lbent_lot : ∀ ds S post, sp_lbent_lot ds S post → ds.length = 3 := by
  rintro _ _ _ ⟨_, _, _, _, rfl, _⟩
  rfl
theorem tbs_ints {k : Nat} {ls : List Int} {n : Int} (h : ∀ i ∈ ls, 0 ≤ i ∧ i < n) (hn : n ≤ 100) : ∀ d ∈ ls.map D.int, Tb k d := fun d hd => by
  obtain ⟨i, hi, rfl⟩ := List.mem_map.mp hd
  have := h i hi
  have hC : CMAX = 100000000000000001000 := rfl
  exact tb_sm (by omega) (by omega)
theorem tbs_app {k : Nat} {xs ys : List D} (h1 : ∀ d ∈ xs, Tb k d) (h2 : ∀ d ∈ ys, Tb k d) : ∀ d ∈ xs ++ ys, Tb k d := fun d hd => (List.mem_append.mp hd).elim (h1 d) (h2 d)
theorem tbs_cut {k : Nat} {xs : List D} {lo hi : Option Int} (h : ∀ d ∈ xs, Tb k d) : ∀ d ∈ DL.cutD xs lo hi, Tb k d := fun d hd => h d (List.mem_of_mem_drop (List.mem_of_mem_take hd))
theorem tbs_rev {k : Nat} {xs : List D} (h : ∀ d ∈ xs, Tb k d) : ∀ d ∈ xs.reverse, Tb k d := fun d hd => h d (List.mem_reverse.mp hd)
theorem cut_len {xs : List D} {lo hi : Option Int} : (DL.cutD xs lo hi).length ≤ xs.length := by
  unfold DL.cutD
  rw [List.length_take, List.length_drop]
  omega
theorem hd_lbent_lot : ∀ ds S post, sp_lbent_lot ds S post → b_lbent_lot (endsD S post) (startD ["jar", "sizes", "lot", "n", "found"] ds) S := by
  rintro ds S post ⟨x, y, zs, ls, rfl, rfl, ok, hz, hL, h⟩
  have hz2 := hz.2.1
  have hl1 := hL.1
  have hl2 := hL.2.1
  have hC : CMAX = 100000000000000001000 := rfl
  obtain ⟨l0, lt, rfl⟩ : ∃ l0 lt, ls = l0 :: lt := by
    cases ls with
    | nil => simp at hl1
    | cons a b => exact ⟨a, b, rfl⟩
  have b0 := hL.2.2.2 l0 List.mem_cons_self
  have hts : ∀ k : Nat, ∀ d ∈ (D.int l0 :: lt.map D.int), Tb k d := fun k => tbs_ints hL.2.2.2 (by omega)
  have hlen : (D.int l0 :: lt.map D.int).length ≤ 24 := by
    have e : (D.int l0 :: lt.map D.int) = (l0 :: lt).map D.int := rfl
    rw [e, List.length_map]
    omega
  have hat : L2.atI (D.int l0 :: lt.map D.int) 0 = some (.int l0) := go_at0
  unfold b_lbent_lot
  rw [go_seqS]
  try walk_at "dgo1"
  generalize (D.int l0 :: lt.map D.int) = us at hts hlen hat ⊢
  rw [go_seqS]
  try walk_at "dgo1"
  have k1 := cut_len (xs := us) (lo := some ((us.length : Int) - 1)) (hi := none)
  have k2 := cut_len (xs := us) (lo := some 1) (hi := none)
  have k3 := cut_len (xs := us) (lo := none) (hi := some 1)
  have k4 : (DL.cutD us (some ((us.length : Int) - 1)) none).length ≤ 1 := by
    by_cases q : 0 ≤ (us.length : Int) - 1
    · rw [cut_from q, List.length_drop]
      omega
    · omega
  have o1 : Odd (.tup []) := odd_tup thn (by simp)
  have o2 : Odd (.tup (us ++ DL.cutD us (some ((us.length : Int) - 1)) none)) := odd_tup (tbs_app (hts 9) (tbs_cut (hts 9))) (by rw [List.length_append]; omega)
  have o3 : Odd (.tup (D.int (-1) :: us)) := odd_tup (thc (tb_sm (by omega) (by omega)) (hts 9)) (by rw [List.length_cons]; omega)
  have o4 : Odd (.tup (us ++ [D.int (zs.length : Int)])) := odd_tup (tbs_app (hts 9) (thc (tb_sm (by omega) (by omega)) thn)) (by rw [List.length_append]; simp; omega)
  have o5 : Odd (.tup us.reverse) := odd_tup (tbs_rev (hts 9)) (by rw [List.length_reverse]; omega)
  have o6 : Odd (.int l0) := odd_sm (by omega) (by omega)
  have o7 : Odd (.str "lot") := odd_str (by decide +kernel)
  have o8 : Odd (.tup (us ++ [D.bl true])) := odd_tup (tbs_app (hts 9) (thc tb_bl thn)) (by rw [List.length_append]; simp; omega)
  have o9 : Odd (.tup (DL.cutD us (some 1) none)) := odd_tup (tbs_cut (hts 9)) (by omega)
  have o10 : Odd (.tup [D.bl false]) := odd_tup (thc tb_bl thn) (by simp)
  have o11 : Odd (.tup (DL.cutD us none (some 1) ++ [D.non])) := odd_tup (tbs_app (tbs_cut (hts 9)) (thc tb_non thn)) (by rw [List.length_append]; simp; omega)
  have hA : ∀ d ∈ [D.tup [], .tup (us ++ DL.cutD us (some ((us.length : Int) - 1)) none), .tup (D.int (-1) :: us), .tup (us ++ [D.int (zs.length : Int)]), .tup us.reverse, .non, .int l0, .str "lot", .tup (us ++ [D.bl true])], Odd d :=
    thc o1 (thc o2 (thc o3 (thc o4 (thc o5 (thc odd_non (thc o6 (thc o7 (thc o8 thn))))))))
  have hB : ∀ d ∈ [D.tup (DL.cutD us (some 1) none), .tup [D.bl false], .tup (DL.cutD us none (some 1) ++ [D.non])], Odd d := thc o9 (thc o10 (thc o11 thn))
  have hAB : ∀ d ∈ [D.tup [], .tup (us ++ DL.cutD us (some ((us.length : Int) - 1)) none), .tup (D.int (-1) :: us), .tup (us ++ [D.int (zs.length : Int)]), .tup us.reverse, .non, .int l0, .str "lot", .tup (us ++ [D.bl true]), .tup (DL.cutD us (some 1) none), .tup [D.bl false], .tup (DL.cutD us none (some 1) ++ [D.non])], Odd d :=
    thc o1 (thc o2 (thc o3 (thc o4 (thc o5 (thc odd_non (thc o6 (thc o7 (thc o8 (thc o9 (thc o10 (thc o11 thn)))))))))))
  refine ⟨by decide, by omega, by decide, by omega, by decide, by omega, _, hat, by decide, by omega, by decide, by decide, by decide, by omega, by decide, by decide, ?_⟩
  refine call_lone (j := 0) (k := 3) (by decide) rfl rfl ok (by simp) (by simp) (belows_iff.mpr fun d hd => odd_below (hAB d hd)) fun d hd x3 y3 ok3 => ?_
  have hd' := hAB d hd
  refine ⟨odd_below hd', ?_, end_t hd'.1.ok (h d x3 y3 ok3 hd')⟩
  show (belowE 2 (jar x3 y3) && (belows 2 _ && true)) = true
  rw [jar_below, belows_iff.mpr fun d hd => odd_below (hA d hd)]
  rfl
theorem call_bent_lot {S : Store} {j : Nat} {x y : Int} {zs ls : List Int} {post : DK} (hj : S[j]? = some (jar x y)) (ok : JOk x y) (hz : Sizes24 zs) (hL : LotOf zs.length ls) (h : ∀ d x' y', JOk x' y' → Odd d → post d (S.set j (jar x' y'))) : callD sp_lbent_lot [.lr j, tI zs, tI ls] S post :=
  call_one hj (by simp [belows, below_tI]) jar_below ⟨x, y, zs, ls, rfl, rfl, ok, hz, hL, fun d x' y' k a => by
    have := h d x' y' k a
    dsimp only
    rw [ren_below _ _ (odd_below a)]
    simpa [setAll, renE, rens, ren] using this⟩
theorem ok_lbent_lot {P : Program} {w : World} {K : PySem.W.Frag} {mg : Str → Option Value} {base : Heap} {f : Addr} {fd : FuncData} (F : Fun K "_law_bent_lot" "_law_bent_lot" s_lbent_lot f fd) (W : Bl mg) (C_lone : CalG P w K mg base 2 "_law_one" sp_lone) :
    FnG P w K mg base CX0 3 f fd ["jar", "sizes", "lot"] (spL K sp_lbent_lot) := by
  refine fn_okG (tb := b_lbent_lot) F sc_lbent_lot len_lbent_lot (fun cdv A outer s H E hgd hr => ?_) hd_lbent_lot
  have sc := sc_lbent_lot
  have hu := hr.units
  have hu1 := Nat.lt_of_le_of_lt (Nat.add_le_add_left (show 1 ≤ 64 by decide) _) hu
  have hu65 := units65 hr
  exact (dss_cons (ds_set 3 sc.nd (de_callB call_len_seq rul_len (by rfl) W.len_ PySem.boot_len (da_cons (de_var 1) da_nil)))
      (dss_cons (ds_set 4 sc.nd (de_lst (da_cons (de_tup da_nil) (da_cons (de_op op_add4 rul_add4 (de_var 2) (de_sl (de_var 2) (do_some (de_op op_sub rul_sub (de_callB call_len_seq rul_len (by rfl) W.len_ PySem.boot_len (da_cons (de_var 2) da_nil)) de_int)) do_none)) (da_cons (de_op op_add4 rul_add4 (de_tup (da_cons (de_un un_neg rul_neg de_int) da_nil)) (de_var 2)) (da_cons (de_op op_add4 rul_add4 (de_var 2) (de_tup (da_cons (de_var 3) da_nil))) (da_cons (de_revT (de_var 2)) (da_cons de_non (da_cons (de_ix ix_seq rul_ix (de_var 2) de_int) (da_cons de_str (da_cons (de_op op_add4 rul_add4 (de_var 2) (de_tup (da_cons de_bl da_nil))) da_nil)))))))))))
      (dss_one (ds_ret (de_gc0 (de_cal C_lone hgd hr (by decide) (by rfl) (da_cons (de_var 0) (da_cons (de_op op_add4 rul_add4 (de_var 4) (de_lst (da_cons (de_sl (de_var 2) (do_some de_int) do_none) (da_cons (de_tup (da_cons de_bl da_nil)) (da_cons (de_op op_add4 rul_add4 (de_sl (de_var 2) do_none (do_some de_int)) (de_tup (da_cons de_non da_nil))) da_nil))))) da_nil))))))))
def b_lbent_entries : DS :=
  (dSeq (dAsg (dCall sp_ltake (dCons (dVar 0) (dCons (dC (.int 6)) dNil))) (gName 3))
    (dSeq (dIfS (dTest (dOp (oEq false) (dVar 3) (dC (.int 0)))) (dRet (dGc0 (dCall sp_lone (dCons (dVar 0) (dCons (dLst (dCons (dSl (dVar 2) (dPart (dC (.int 1))) dNoPart) (dCons (dRevT (dVar 2)) (dCons (dOp oAdd2 (dVar 2) (dSl (dVar 2) dNoPart (dPart (dC (.int 1))))) (dCons (dC .non) (dCons (dC (.int 7)) (dCons (dC (.str "entries")) (dCons (dTup (dCons (dVar 2) dNil)) dNil)))))))) dNil))))) dNext)
    (dSeq (dIfS (dAnd (dTest (dOp oLt (dVar 3) (dC (.int 4)))) (dTest (dOp (oEq true) (dVar 2) (dTup dNil)))) (dSeq (dAsg (dCall sp_ltake (dCons (dVar 0) (dCons (dCB cLen (dCons (dVar 2) dNil)) dNil))) (gName 4))
    (dRet (dOp oAdd2 (dOp oAdd2 (dSl (dVar 2) dNoPart (dPart (dVar 4))) (dTup (dCons (dCall sp_lbent_entry (dCons (dVar 0) (dCons (dVar 1) (dCons (dOp oIx (dVar 2) (dVar 4)) dNil)))) dNil))) (dSl (dVar 2) (dPart (dOp oAdd2 (dVar 4) (dC (.int 1)))) dNoPart)))) dNext)
    (dSeq (dIfS (dAnd (dTest (dOp (oEq false) (dVar 3) (dC (.int 4)))) (dTest (dOp oGt (dCB cLen (dCons (dVar 2) dNil)) (dC (.int 1))))) (dSeq (dAsg (dOp oAdd2 (dC (.int 1)) (dCall sp_ltake (dCons (dVar 0) (dCons (dOp oSub (dCB cLen (dCons (dVar 2) dNil)) (dC (.int 1))) dNil)))) (gName 4))
    (dRet (dOp oAdd2 (dOp oAdd2 (dSl (dVar 2) dNoPart (dPart (dOp oSub (dVar 4) (dC (.int 1))))) (dTup (dCons (dOp oIx (dVar 2) (dVar 4)) (dCons (dOp oIx (dVar 2) (dOp oSub (dVar 4) (dC (.int 1)))) dNil)))) (dSl (dVar 2) (dPart (dOp oAdd2 (dVar 4) (dC (.int 1)))) dNoPart)))) dNext)
    (dRet (dVar 2))))))
def sp_lbent_entries : DSp := fun ds S post => ∃ (x y : Int) (zs ls : List Int) (xs : List D), ds = [.lr 0, tI zs, .tup xs] ∧ S = [jar x y] ∧ JOk x y ∧ Sizes24 zs ∧ ls.length ≤ 24 ∧ RowOf zs ls xs ∧ ∀ d x' y', JOk x' y' → Odd d → post d [jar x' y']
theorem len_lbent_entries : ∀ ds S post, sp_lbent_entries ds S post → ds.length = 3 := by
  rintro _ _ _ ⟨_, _, _, _, _, rfl, _⟩
  rfl
theorem hd_lbent_entries : ∀ ds S post, sp_lbent_entries ds S post → b_lbent_entries (endsD S post) (startD ["jar", "sizes", "entries", "way", "at"] ds) S := by
  rintro ds S post ⟨x, y, zs, ls, xs, rfl, rfl, ok, hz, hl, hR, h⟩
  have hlen : xs.length ≤ 24 := by rw [hR.1]; exact hl
  have hts : ∀ k : Nat, ∀ d ∈ xs, Tb (k + 2) d := fun k d hd => (hR.mem d hd).tb.mono (by omega)
  have hent := hR.mem
  have hth : ∀ d ∈ xs, Th 45 d := fun d hd => (hts 0 d hd).th.mono (by decide)
  have oxs : Odd (.tup xs) := odd_tup (hts 7) (by omega)
  unfold b_lbent_entries
  rw [go_seqS]
  try walk_at "dgo1"
  refine call_take (j := 0) rfl ok (by decide) (by decide) fun way x1 y1 ok1 w1 w2 => ?_
  try walk_at "dgo1"
  rw [go_seqS]
  try walk_at "dgo1"
  split
  · have k1 := cut_len (xs := xs) (lo := none) (hi := some 1)
    have k2 := cut_len (xs := xs) (lo := some 1) (hi := none)
    have k3 : (DL.cutD xs none (some 1)).length ≤ 1 := by
      rw [cut_to (by decide), List.length_take]
      exact Nat.min_le_left _ _
    have hA : ∀ d ∈ [D.tup (DL.cutD xs (some 1) none), .tup xs.reverse, .tup (xs ++ DL.cutD xs none (some 1)), .non, .int 7, .str "entries", .tup [.tup xs]], Odd d := by
      have hC : CMAX = 100000000000000001000 := rfl
      refine thc (odd_tup (tbs_cut (hts 7)) (by omega)) (thc (odd_tup (tbs_rev (hts 7)) (by rw [List.length_reverse]; omega)) (thc (odd_tup (tbs_app (hts 7) (tbs_cut (hts 7))) (by rw [List.length_append]; omega)) (thc odd_non (thc (odd_sm (by omega) (by omega)) (thc (odd_str (by decide +kernel)) (thc (odd_tup (thc (tb_tup (hts 6)) thn) (by simp)) thn))))))
    refine ⟨by omega, by decide, by decide, call_lone (j := 0) (k := 1) (by decide) rfl rfl ok1 (by simp) (by simp) (belows_iff.mpr fun d hd => odd_below (hA d hd)) fun d hd x3 y3 ok3 => ?_⟩
    have hd' := hA d hd
    exact ⟨odd_below hd', by simp [belowE, belows, below], end_t hd'.1.ok (h d x3 y3 ok3 hd')⟩
  rw [go_seqS]
  try walk_at "dgo1"
  by_cases q4 : way < 4
  rw [if_pos q4]
  refine ⟨by decide, oEq_nil hth (by decide) ?_⟩
  try walk_at "dgo1"
  by_cases h0 : xs = []
  case neg =>
    have hp : 0 < xs.length := List.length_pos_iff.mpr h0
    rw [if_pos (by simp [h0])]
    rw [go_seqS]
    try walk_at "dgo1"
    refine call_take (j := 0) rfl ok1 (by omega) (by omega) fun r x2 y2 ok2 ra rb => ?_
    try walk_at "dgo1"
    have hr : r.toNat < xs.length := by omega
    have hat := atI_of ra (List.getElem?_eq_getElem hr)
    have hem := List.getElem_mem hr
    generalize xs[r.toNat] = e at hat hem
    refine ⟨e, hat, call_bent_entry (j := 0) rfl ok2 hz (hent e hem) fun d x3 y3 ok3 hd => ?_⟩
    try walk_at "dgo1"
    have k1 := cut_len (xs := xs) (lo := none) (hi := some r)
    have hel : ∀ d' ∈ DL.cutD xs none (some r) ++ [d] ++ DL.cutD xs (some (r + 1)) none, Tb 9 d' := tbs_app (tbs_app (tbs_cut (hts 7)) (thc (hd.mono (by decide)) thn)) (tbs_cut (hts 7))
    have hll : (DL.cutD xs none (some r) ++ [d] ++ DL.cutD xs (some (r + 1)) none).length ≤ 30 := by
      rw [cut_to ra, cut_from (by omega), List.length_append, List.length_append, List.length_take, List.length_drop, List.length_singleton]
      omega
    have ho := odd_tup hel hll
    rw [List.length_append] at hll
    exact ⟨by decide, by omega, by omega, end_t ho.1.ok (h _ x3 y3 ok3 ho)⟩
  rw [if_neg (by simp [h0])]
  rotate_left
  rw [if_neg q4]
  all_goals
    try rw [go_seqS]
    try walk_at "dgo1"
    by_cases q5 : way = 4
    · rw [if_pos q5]
      by_cases q6 : 1 < xs.length
      · rw [if_pos (by omega)]
        rw [go_seqS]
        try walk_at "dgo1"
        refine call_take (j := 0) rfl ok1 (by omega) (by omega) fun r x2 y2 ok2 ra rb => ?_
        try walk_at "dgo1"
        have i1 : (1 + r).toNat < xs.length := by omega
        have i2 : (1 + r - 1).toNat < xs.length := by omega
        have hat1 := atI_of (i := 1 + r) (by omega) (List.getElem?_eq_getElem i1)
        have hat2 := atI_of (i := 1 + r - 1) (by omega) (List.getElem?_eq_getElem i2)
        have m1 := List.getElem_mem i1
        have m2 := List.getElem_mem i2
        generalize xs[(1 + r).toNat] = e1 at hat1 m1
        generalize xs[(1 + r - 1).toNat] = e2 at hat2 m2
        refine ⟨e1, hat1, e2, hat2, ?_⟩
        try walk_at "dgo1"
        have hel : ∀ d' ∈ DL.cutD xs none (some (1 + r - 1)) ++ [e1, e2] ++ DL.cutD xs (some (1 + r + 1)) none, Tb 9 d' := tbs_app (tbs_app (tbs_cut (hts 7)) (thc (hts 7 e1 m1) (thc (hts 7 e2 m2) thn))) (tbs_cut (hts 7))
        have hll : (DL.cutD xs none (some (1 + r - 1)) ++ [e1, e2] ++ DL.cutD xs (some (1 + r + 1)) none).length ≤ 30 := by
          rw [cut_to (by omega), cut_from (by omega), List.length_append, List.length_append, List.length_take, List.length_drop]
          simp only [List.length_cons, List.length_nil]
          omega
        have ho := odd_tup hel hll
        have k1 := cut_len (xs := xs) (lo := none) (hi := some (1 + r - 1))
        rw [List.length_append] at hll
        exact ⟨by decide, by omega, by omega, end_t ho.1.ok (h _ x2 y2 ok2 ho)⟩
      · rw [if_neg (by omega)]
        try walk_at "dgo1"
        exact end_t oxs.1.ok (h _ x1 y1 ok1 oxs)
    · rw [if_neg q5]
      try walk_at "dgo1"
      exact end_t oxs.1.ok (h _ x1 y1 ok1 oxs)
theorem call_bent_entries {S : Store} {j : Nat} {x y : Int} {zs ls : List Int} {xs : List D} {post : DK} (hj : S[j]? = some (jar x y)) (ok : JOk x y) (hz : Sizes24 zs) (hl : ls.length ≤ 24) (hR : RowOf zs ls xs) (h : ∀ d x' y', JOk x' y' → Odd d → post d (S.set j (jar x' y'))) : callD sp_lbent_entries [.lr j, tI zs, .tup xs] S post :=
  call_one hj (by simp [belows, below_tI, okT0 hR.tb.ok]) jar_below ⟨x, y, zs, ls, xs, rfl, rfl, ok, hz, hl, hR, fun d x' y' k a => by
    have := h d x' y' k a
    dsimp only
    rw [ren_below _ _ (odd_below a)]
    simpa [setAll, renE, rens, ren] using this⟩
theorem ok_lbent_entries {P : Program} {w : World} {K : PySem.W.Frag} {mg : Str → Option Value} {base : Heap} {f : Addr} {fd : FuncData} (F : Fun K "_law_bent_entries" "_law_bent_entries" s_lbent_entries f fd) (W : Bl mg) (C_ltake : CalG P w K mg base 1 "_law_take" sp_ltake) (C_lbent_entry : CalG P w K mg base 3 "_law_bent_entry" sp_lbent_entry) (C_lone : CalG P w K mg base 2 "_law_one" sp_lone) :
    FnG P w K mg base CX0 4 f fd ["jar", "sizes", "entries"] (spL K sp_lbent_entries) := by
  refine fn_okG (tb := b_lbent_entries) F sc_lbent_entries len_lbent_entries (fun cdv A outer s H E hgd hr => ?_) hd_lbent_entries
  have sc := sc_lbent_entries
  have hu := hr.units
  have hu1 := Nat.lt_of_le_of_lt (Nat.add_le_add_left (show 1 ≤ 64 by decide) _) hu
  have hu65 := units65 hr
  exact (dss_cons (ds_set 3 sc.nd (de_cal C_ltake hgd hr (by decide) (by rfl) (da_cons (de_var 0) (da_cons de_int da_nil))))
      (dss_cons (ds_if (dt_cmp (op_eq2 hu) rul_eq (de_var 3) de_int (nomark _)) (dss_one (ds_ret (de_gc0 (de_cal C_lone hgd hr (by decide) (by rfl) (da_cons (de_var 0) (da_cons (de_lst (da_cons (de_sl (de_var 2) (do_some de_int) do_none) (da_cons (de_revT (de_var 2)) (da_cons (de_op op_add4 rul_add4 (de_var 2) (de_sl (de_var 2) do_none (do_some de_int))) (da_cons de_non (da_cons de_int (da_cons de_str (da_cons (de_tup (da_cons (de_var 2) da_nil)) da_nil)))))))) da_nil)))))) dss_nil)
      (dss_cons (ds_if (PW.pt (dw_and (dt_cmp op_lt rul_lt (de_var 3) de_int (nomark _)) (dw_and1 (dt_cmp (op_ne2 hu) rul_ne (de_var 2) (de_tup da_nil) (nomark _))))) (dss_cons (ds_set 4 sc.nd (de_cal C_ltake hgd hr (by decide) (by rfl) (da_cons (de_var 0) (da_cons (de_callB call_len_seq rul_len (by rfl) W.len_ PySem.boot_len (da_cons (de_var 2) da_nil)) da_nil))))
      (dss_one (ds_ret (de_op op_add4 rul_add4 (de_op op_add4 rul_add4 (de_sl (de_var 2) do_none (do_some (de_var 4))) (de_tup (da_cons (de_cal C_lbent_entry hgd hr (by decide) (by rfl) (da_cons (de_var 0) (da_cons (de_var 1) (da_cons (de_ix ix_seq rul_ix (de_var 2) (de_var 4)) da_nil)))) da_nil))) (de_sl (de_var 2) (do_some (de_op op_add4 rul_add4 (de_var 4) de_int)) do_none))))) dss_nil)
      (dss_cons (ds_if (PW.pt (dw_and (dt_cmp (op_eq2 hu) rul_eq (de_var 3) de_int (nomark _)) (dw_and1 (dt_cmp op_gt rul_gt (de_callB call_len_seq rul_len (by rfl) W.len_ PySem.boot_len (da_cons (de_var 2) da_nil)) de_int (nomark _))))) (dss_cons (ds_set 4 sc.nd (de_op op_add4 rul_add4 de_int (de_cal C_ltake hgd hr (by decide) (by rfl) (da_cons (de_var 0) (da_cons (de_op op_sub rul_sub (de_callB call_len_seq rul_len (by rfl) W.len_ PySem.boot_len (da_cons (de_var 2) da_nil)) de_int) da_nil)))))
      (dss_one (ds_ret (de_op op_add4 rul_add4 (de_op op_add4 rul_add4 (de_sl (de_var 2) do_none (do_some (de_op op_sub rul_sub (de_var 4) de_int))) (de_tup (da_cons (de_ix ix_seq rul_ix (de_var 2) (de_var 4)) (da_cons (de_ix ix_seq rul_ix (de_var 2) (de_op op_sub rul_sub (de_var 4) de_int)) da_nil)))) (de_sl (de_var 2) (do_some (de_op op_add4 rul_add4 (de_var 4) de_int)) do_none))))) dss_nil)
      (dss_one (ds_ret (de_var 2)))))))
--@@split
/-! the three that are right -/
theorem Odd.th {d : D} (h : Odd d) : Th 50 d := h.1.th.mono (by decide)
theorem lot_odd {n : Int} {ls : List Int} (h : LotOf n ls) (hn : n ≤ 24) : Odd (tI ls) := by
  refine odd_tup (tbs_ints h.2.2.2 (by omega)) ?_
  rw [List.length_map]
  have := h.2.1
  omega
theorem row_odd {zs ls : List Int} {xs : List D} (hl : ls.length ≤ 24) (h : RowOf zs ls xs) : Odd (.tup xs) := odd_tup (fun d hd => (h.mem d hd).tb.mono (by decide)) (by rw [h.1]; omega)
def b_lrows_right (K : PySem.W.Frag) (cl : CL) : DS :=
  (dSeq (dAsg (dCall sp_ldrawn_lot (dCons (dVar 0) (dCons (dCB cLen (dCons (dVar 1) dNil)) dNil))) (gName 2))
    (dSeq (dAsg (dCall sp_ldrawn_entries (dCons (dVar 0) (dCons (dVar 1) (dCons (dVar 2) dNil)))) (gName 3))
    (dSeq (dIfS (dTest (dOp (oEq true) (dCB cRepr (dCons (dLam N_lheard (b_lheard K cl) (dCallX (sp_made_row cl) (dToXs (dCons (dVar 1) (dCons (dVar 2) (dCons (dVar 3) dNil)))))) dNil)) (dCB cRepr (dCons (dTup (dCons (dC (.str "told")) (dCons (dVar 3) dNil))) dNil)))) (dRet (dC (.bl false))) dNext)
    (dSeq (dAsg (dCall sp_lbent_entries (dCons (dVar 0) (dCons (dVar 1) (dCons (dVar 3) dNil)))) (gName 4))
    (dSeq (dIfS (dTest (dOp (oEq true) (dCB cRepr (dCons (dLam N_lheard (b_lheard K cl) (dCallX (sp_made_row cl) (dToXs (dCons (dVar 1) (dCons (dVar 2) (dCons (dVar 4) dNil)))))) dNil)) (dCB cRepr (dCons (dCall sp_lrow_due (dCons (dVar 1) (dCons (dVar 2) (dCons (dVar 4) dNil)))) dNil)))) (dRet (dC (.bl false))) dNext)
    (dSeq (dAsg (dCall sp_lbent_lot (dCons (dVar 0) (dCons (dVar 1) (dCons (dVar 2) dNil)))) (gName 5))
    (dRet (dOp (oEq false) (dCB cRepr (dCons (dLam N_lheard (b_lheard K cl) (dCallX (sp_made_row cl) (dToXs (dCons (dVar 1) (dCons (dVar 5) (dCons (dVar 4) dNil)))))) dNil)) (dCB cRepr (dCons (dCall sp_lrow_due (dCons (dVar 1) (dCons (dVar 5) (dCons (dVar 4) dNil)))) dNil))))))))))
def sp_lrows_right : DSp := fun ds S post => ∃ (x y : Int) (zs : List Int), ds = [.lr 0, tI zs] ∧ S = [jar x y] ∧ JOk x y ∧ Sizes24 zs ∧ ∀ x' y', JOk x' y' → post (.bl true) [jar x' y']
theorem len_lrows_right : ∀ ds S post, sp_lrows_right ds S post → ds.length = 2 := by
  rintro _ _ _ ⟨_, _, _, rfl, _⟩
  rfl
theorem hd_lrows_right {K : PySem.W.Frag} {cl : CL} (hC : Clf K cl) : ∀ ds S post, sp_lrows_right ds S post → b_lrows_right K cl (endsD S post) (startD ["jar", "sizes", "lot", "row", "odd", "other"] ds) S := by
  rintro ds S post ⟨x, y, zs, rfl, rfl, ok, hz, h⟩
  have hz1 := hz.1
  have hz2 := hz.2.1
  have oz := okT_tI zs
  unfold b_lrows_right
  rw [go_seqS]
  try walk_at "dgo1"
  refine call_dlot (j := 0) rfl ok (by omega) (by omega) fun ls x1 y1 ok1 hL => ?_
  have ol := lot_odd hL (by omega)
  have hl24 : ls.length ≤ 24 := by have := hL.2.1; omega
  try walk_at "dgo1"
  rw [go_seqS]
  try walk_at "dgo1"
  refine call_dents (j := 0) rfl ok1 hz hl24 hL.2.2.2 fun xs x2 y2 ok2 hR => ?_
  have ox := row_odd hl24 hR
  try walk_at "dgo1"
  rw [go_seqS]
  try walk_at "dgo1"
  have e1 : dueW (rowR (tI zs) (tI ls) (.tup xs)) (.tup xs) = .tup [.str "told", .tup xs] := by
    rw [rowR_tI hz, row2_ok hL hR]
    rfl
  have fz : zs.length ≤ 1000 := by omega
  refine heard_row hC oz ol.1.ok ox.1.ok (Nat.le_trans ol.2 (by decide)) rfl rfl rfl ?_
  have f1 : Fine 100000 60 (.tup [.str "told", .tup xs]) := by
    have := fine_row2 (zs := zs) (d2 := tI ls) (d3 := .tup xs) fz ox.1.bi ox.2
    rwa [row2_ok hL hR] at this
  rw [e1]
  refine go_repr f1 (by decide) (by decide) ?_
  try walk_at "dgo1"
  refine ⟨by decide, go_repr f1 (by decide) (by decide) ?_⟩
  try walk_at "dgo1"
  try rw [if_neg (by simp)]
  rw [go_seqS]
  try walk_at "dgo1"
  refine call_bent_entries (j := 0) rfl ok2 hz hl24 hR fun od x3 y3 ok3 ho => ?_
  try walk_at "dgo1"
  rw [go_seqS]
  try walk_at "dgo1"
  refine heard_row hC oz ol.1.ok ho.1.ok (Nat.le_trans ol.2 (by decide)) rfl rfl rfl ?_
  rw [rowR_tI hz]
  have f2 := fine_row2 (zs := zs) (d2 := tI ls) fz ho.1.bi ho.2
  refine go_repr f2 (by decide) (by decide) ?_
  refine call_lrdue ol.th ho.1.ok (Nat.le_trans ol.2 (by decide)) ?_
  refine go_repr f2 (by decide) (by decide) ?_
  try walk_at "dgo1"
  try rw [if_neg (by simp)]
  rw [go_seqS]
  try walk_at "dgo1"
  refine call_bent_lot (j := 0) rfl ok3 hz hL fun fd x4 y4 ok4 hf => ?_
  try walk_at "dgo1"
  refine heard_row hC oz hf.1.ok ho.1.ok (Nat.le_trans hf.2 (by decide)) rfl rfl rfl ?_
  rw [rowR_tI hz]
  have f3 := fine_row2 (zs := zs) (d2 := fd) fz ho.1.bi ho.2
  refine go_repr f3 (by decide) (by decide) ?_
  refine call_lrdue hf.th ho.1.ok (Nat.le_trans hf.2 (by decide)) ?_
  refine go_repr f3 (by decide) (by decide) ?_
  try walk_at "dgo1"
  try rw [decide_eq_true rfl]
  exact end_t rfl (h x4 y4 ok4)
theorem call_rrows {S : Store} {j : Nat} {x y : Int} {zs : List Int} {post : DK} (hj : S[j]? = some (jar x y)) (ok : JOk x y) (hz : Sizes24 zs) (h : ∀ x' y', JOk x' y' → post (.bl true) (S.set j (jar x' y'))) : callD sp_lrows_right [.lr j, tI zs] S post :=
  call_one hj (by simp [belows, below_tI]) jar_below ⟨x, y, zs, rfl, rfl, ok, hz, fun x' y' k => by
    have := h x' y' k
    simpa [setAll, renE, rens, ren] using this⟩
theorem ok_lrows_right {P : Program} {w : World} {K : PySem.W.Frag} {mg : Str → Option Value} {base : Heap} {f : Addr} {fd : FuncData} (F : Fun K "_law_rows_right" "_law_rows_right" s_lrows_right f fd) (W : Bl mg) (cl : CL) (M : Clm mg cl) (hC : Clf K cl) (C_made_row : CalX P w K mg base 6 "made_row" (sp_made_row cl)) (C_lrow_due : CalG P w K mg base 4 "_law_row_due" sp_lrow_due) (C_lbent_lot : CalG P w K mg base 3 "_law_bent_lot" sp_lbent_lot) (C_lbent_entries : CalG P w K mg base 4 "_law_bent_entries" sp_lbent_entries) (C_ldrawn_entries : CalG P w K mg base 4 "_law_drawn_entries" sp_ldrawn_entries) (C_ldrawn_lot : CalG P w K mg base 3 "_law_drawn_lot" sp_ldrawn_lot) {gH cA pA : Addr} {fdH : FuncData} (FH : Fun K "_law_heard" "_law_heard" s_lheard gH fdH) (mH : mg "_law_heard" = some (.ref gH)) (BH0 : L2.Binds K fdH ["call"] []) (hcode : fd.code = .ref cA) (TB : LamX.TabB base mg cA pA) (hT : (pA, ("_law_rows_right.<locals>.<lambda>" : Str)) ∈ HasT.T) (hU : ∀ p ∈ HasT.T, p.1 = pA → p.2 = ("_law_rows_right.<locals>.<lambda>" : Str)) :
    FnG P w K mg base CX0 9 f fd ["jar", "sizes"] (spL K sp_lrows_right) := by
  obtain ⟨ocH, odH, kVH, docH, pmH, anH, cdH, ctH, oslH, rfl, lkH, hcH⟩ := FH.ex
  have BH := BH0
  refine fn_okGC (tb := b_lrows_right K cl) F hcode sc_lrows_right len_lrows_right (fun A outer s H E hgd hr => ?_) (hd_lrows_right hC)
  have sc := sc_lrows_right
  have hu := hr.units
  have hu1 := Nat.lt_of_le_of_lt (Nat.add_le_add_left (show 1 ≤ 64 by decide) _) hu
  have hu65 := units65 hr
  exact (dss_cons (ds_set 2 sc.nd (de_cal C_ldrawn_lot hgd hr (by decide) (by rfl) (da_cons (de_var 0) (da_cons (de_callB call_len_seq rul_len (by rfl) W.len_ PySem.boot_len (da_cons (de_var 1) da_nil)) da_nil))))
      (dss_cons (ds_set 3 sc.nd (de_cal C_ldrawn_entries hgd hr (by decide) (by rfl) (da_cons (de_var 0) (da_cons (de_var 1) (da_cons (de_var 2) da_nil)))))
      (dss_cons (ds_if (dt_cmp (op_ne2 hu) rul_ne (de_callB (call_repr_dp hgd hu) rul_repr (by rfl) W.repr_ PyProof.Rows.boot_repr (da_cons (de_lam (Ng := N_lheard) (b := b_lheard K cl) (te := (dCallX (sp_made_row cl) (dToXs (dCons (dVar 1) (dCons (dVar 2) (dCons (dVar 3) dNil)))))) (by rfl) mH FH.kp hgd lkH hcH BH sc_lheard rfl (.inl rfl) (fun s H act hr hact => ok_lheard W M hC hgd hr act hact) TB rfl hT hU hr (LamX.lamS_by (by rfl)) rfl (fun _ _ _ _ _ => rfl) (fun A outer s H E f c hgd hr => (de_calX C_made_row hgd hr (by decide) (by rfl) takes_lam (da_toX (da_cons (de_var 1) (da_cons (de_var 2) (da_cons (de_var 3) da_nil))))))) da_nil)) (de_callB (call_repr_dp hgd hu) rul_repr (by rfl) W.repr_ PyProof.Rows.boot_repr (da_cons (de_tup (da_cons de_str (da_cons (de_var 3) da_nil))) da_nil)) (nomark _)) (dss_one (ds_ret de_bl)) dss_nil)
      (dss_cons (ds_set 4 sc.nd (de_cal C_lbent_entries hgd hr (by decide) (by rfl) (da_cons (de_var 0) (da_cons (de_var 1) (da_cons (de_var 3) da_nil)))))
      (dss_cons (ds_if (dt_cmp (op_ne2 hu) rul_ne (de_callB (call_repr_dp hgd hu) rul_repr (by rfl) W.repr_ PyProof.Rows.boot_repr (da_cons (de_lam (Ng := N_lheard) (b := b_lheard K cl) (te := (dCallX (sp_made_row cl) (dToXs (dCons (dVar 1) (dCons (dVar 2) (dCons (dVar 4) dNil)))))) (by rfl) mH FH.kp hgd lkH hcH BH sc_lheard rfl (.inl rfl) (fun s H act hr hact => ok_lheard W M hC hgd hr act hact) TB rfl hT hU hr (LamX.lamS_by (by rfl)) rfl (fun _ _ _ _ _ => rfl) (fun A outer s H E f c hgd hr => (de_calX C_made_row hgd hr (by decide) (by rfl) takes_lam (da_toX (da_cons (de_var 1) (da_cons (de_var 2) (da_cons (de_var 4) da_nil))))))) da_nil)) (de_callB (call_repr_dp hgd hu) rul_repr (by rfl) W.repr_ PyProof.Rows.boot_repr (da_cons (de_cal C_lrow_due hgd hr (by decide) (by rfl) (da_cons (de_var 1) (da_cons (de_var 2) (da_cons (de_var 4) da_nil)))) da_nil)) (nomark _)) (dss_one (ds_ret de_bl)) dss_nil)
      (dss_cons (ds_set 5 sc.nd (de_cal C_lbent_lot hgd hr (by decide) (by rfl) (da_cons (de_var 0) (da_cons (de_var 1) (da_cons (de_var 2) da_nil)))))
      (dss_one (ds_ret (de_cmp (op_eq2 hu) rul_eq (de_callB (call_repr_dp hgd hu) rul_repr (by rfl) W.repr_ PyProof.Rows.boot_repr (da_cons (de_lam (Ng := N_lheard) (b := b_lheard K cl) (te := (dCallX (sp_made_row cl) (dToXs (dCons (dVar 1) (dCons (dVar 5) (dCons (dVar 4) dNil)))))) (by rfl) mH FH.kp hgd lkH hcH BH sc_lheard rfl (.inl rfl) (fun s H act hr hact => ok_lheard W M hC hgd hr act hact) TB rfl hT hU hr (LamX.lamS_by (by rfl)) rfl (fun _ _ _ _ _ => rfl) (fun A outer s H E f c hgd hr => (de_calX C_made_row hgd hr (by decide) (by rfl) takes_lam (da_toX (da_cons (de_var 1) (da_cons (de_var 5) (da_cons (de_var 4) da_nil))))))) da_nil)) (de_callB (call_repr_dp hgd hu) rul_repr (by rfl) W.repr_ PyProof.Rows.boot_repr (da_cons (de_cal C_lrow_due hgd hr (by decide) (by rfl) (da_cons (de_var 1) (da_cons (de_var 5) (da_cons (de_var 4) da_nil)))) da_nil)) (nomark _))))))))))
/-! letters -/
def LetT (d : D) : Prop := Tb 12 d ∧ (partsD (spanOf d)).length ≤ 30 ∧ (partsD (bodyOf d)).length ≤ 30
theorem let_pair {a b : D} (ha : Odd a) (hb : Odd b) : LetT (.tup [a, b]) := ⟨(tb_2 ha.1 hb.1).mono (by decide), ha.2, hb.2⟩
theorem lot_len {n : Int} {ls : List Int} (h : LotOf n ls) (hn : n ≤ 24) : ls.length ≤ 24 := by have := h.2.1; omega
def b_lletters_right (K : PySem.W.Frag) (cl : CL) : DS :=
  (dSeq (dAsg (dCall sp_ldrawn_lot (dCons (dVar 0) (dCons (dCB cLen (dCons (dVar 1) dNil)) dNil))) (gName 2))
    (dSeq (dAsg (dGc0 (dCall sp_ldrawn_entries (dCons (dVar 0) (dCons (dVar 1) (dCons (dCall sp_lsome (dCons (dVar 0) (dCons (dVar 2) dNil))) dNil))))) (gName 3))
    (dSeq (dAsg (dTup (dCons (dVar 2) (dCons (dVar 3) dNil))) (gName 4))
    (dSeq (dIfS (dTest (dOp (oEq true) (dCB cRepr (dCons (dLam N_lheard (b_lheard K cl) (dCallX (sp_made_letter cl) (dToXs (dCons (dVar 1) (dCons (dVar 4) dNil))))) dNil)) (dCB cRepr (dCons (dTup (dCons (dC (.str "told")) (dCons (dVar 4) dNil))) dNil)))) (dRet (dC (.bl false))) dNext)
    (dSeq (dAsg (dTup (dCons (dVar 2) (dCons (dCall sp_lbent_entries (dCons (dVar 0) (dCons (dVar 1) (dCons (dVar 3) dNil)))) dNil))) (gName 5))
    (dSeq (dAsg (dCall sp_lbent_lot (dCons (dVar 0) (dCons (dVar 1) (dCons (dVar 2) dNil)))) (gName 6))
    (dSeq (dAsg (dLst (dCons (dVar 5) (dCons (dTup (dCons (dVar 6) (dCons (dOp oIx (dVar 5) (dC (.int 1))) dNil))) (dCons (dGc0 (dCall sp_lone (dCons (dVar 0) (dCons (dLst (dCons (dTup (dCons (dVar 2) dNil)) (dCons (dTup (dCons (dVar 2) (dCons (dVar 3) (dCons (dVar 3) dNil)))) (dCons (dC .non) (dCons (dC (.int 7)) (dCons (dC (.str "letter")) (dCons (dTup (dCons (dVar 3) (dCons (dVar 2) dNil))) dNil))))))) dNil)))) dNil)))) (gName 7))
    (dSeq (dFor (wSeq (dVar 7)) (gName 8) (dIfS (dTest (dOp (oEq true) (dCB cRepr (dCons (dLam N_lheard (b_lheard K cl) (dCallX (sp_made_letter cl) (dToXs (dCons (dVar 1) (dCons (dVar 8) dNil))))) dNil)) (dCB cRepr (dCons (dCall sp_lletter_due (dCons (dVar 1) (dCons (dVar 8) dNil))) dNil)))) (dRet (dC (.bl false))) dNext))
    (dRet (dC (.bl true)))))))))))
def sp_lletters_right : DSp := fun ds S post => ∃ (x y : Int) (zs : List Int), ds = [.lr 0, tI zs] ∧ S = [jar x y] ∧ JOk x y ∧ Sizes24 zs ∧ ∀ x' y', JOk x' y' → post (.bl true) [jar x' y']
theorem len_lletters_right : ∀ ds S post, sp_lletters_right ds S post → ds.length = 2 := by
  rintro _ _ _ ⟨_, _, _, rfl, _⟩
  rfl
theorem hd_lletters_right {K : PySem.W.Frag} {cl : CL} (hC : Clf K cl) : ∀ ds S post, sp_lletters_right ds S post → b_lletters_right K cl (endsD S post) (startD ["jar", "sizes", "span", "entries", "letter", "odd", "far", "others", "one"] ds) S := by
  rintro ds S post ⟨x, y, zs, rfl, rfl, ok, hz, h⟩
  have hz1 := hz.1
  have hz2 := hz.2.1
  have oz := okT_tI zs
  unfold b_lletters_right
  rw [go_seqS]
  try walk_at "dgo1"
  refine call_dlot (j := 0) rfl ok (by omega) (by omega) fun ls x1 y1 ok1 hL => ?_
  have ol := lot_odd hL (by omega)
  have hl24 := lot_len hL (by omega)
  try walk_at "dgo1"
  rw [go_seqS]
  try walk_at "dgo1"
  refine call_someT (j := 0) rfl ok1 (by omega) fun ms x2 y2 ok2 hs => ?_
  try walk_at "dgo1"
  have hm24 : ms.length ≤ 24 := Nat.le_trans hs.length_le hl24
  refine call_dentsL (j := 0) (k := 1) (by decide) rfl rfl ok2 hz hm24 (fun i hi => hL.2.2.2 i (hs.subset hi)) fun xs x3 y3 ok3 hR => ?_
  have ox := row_odd hm24 hR
  refine ⟨odd_below ox, by simp [belowE, belows, below], ?_⟩
  try walk_at "dgo1"
  rw [go_seqS]
  try walk_at "dgo1"
  refine ⟨by decide, ?_⟩
  rw [go_seqS]
  try walk_at "dgo1"
  have hlt := let_pair ol ox
  have e1 : dueW (letR (tI zs) (.tup [tI ls, .tup xs])) (.tup [tI ls, .tup xs]) = .tup [.str "told", .tup [tI ls, .tup xs]] := by
    rw [letR_tI hz, let2_ok hL hs hR]
    rfl
  have f1 : Fine 100000 60 (.tup [.str "told", .tup [tI ls, .tup xs]]) := by
    have := fine_let2 (zs := zs) hlt.1.bi hlt.2.1 hlt.2.2
    rwa [let2_ok hL hs hR] at this
  refine heard_letter hC oz hlt.1.ok (Nat.le_trans hlt.2.1 (by decide)) (Nat.le_trans hlt.2.2 (by decide)) rfl rfl ?_
  rw [e1]
  refine go_repr f1 (by decide) (by decide) ?_
  try walk_at "dgo1"
  refine ⟨by decide, go_repr f1 (by decide) (by decide) ?_⟩
  try walk_at "dgo1"
  try rw [if_neg (by simp)]
  rw [go_seqS]
  try walk_at "dgo1"
  refine call_bent_entries (j := 0) rfl ok3 hz hm24 hR fun od x4 y4 ok4 ho => ?_
  try walk_at "dgo1"
  refine ⟨by decide, ?_⟩
  rw [go_seqS]
  try walk_at "dgo1"
  refine call_bent_lot (j := 0) rfl ok4 hz hL fun fd x5 y5 ok5 hf => ?_
  try walk_at "dgo1"
  rw [go_seqS]
  try walk_at "dgo1"
  have tl : Tb 11 (tI ls) := ol.1.mono (by decide)
  have tx : Tb 11 (.tup xs) := ox.1.mono (by decide)
  have hA : ∀ d ∈ [D.tup [tI ls], .tup [tI ls, .tup xs, .tup xs], .non, .int 7, .str "letter", .tup [.tup xs, tI ls]], LetT d := by
    have hC : CMAX = 100000000000000001000 := rfl
    refine thc ⟨tb_1 tl, ol.2, by simp [bodyOf, partsD]⟩ (thc ⟨tb_3 tl tx tx, ol.2, ox.2⟩ (thc ⟨tb_non, by simp [spanOf, partsD], by simp [bodyOf, partsD]⟩ (thc ⟨tb_sm (by omega) (by omega), by simp [spanOf, partsD], by simp [bodyOf, partsD]⟩ (thc ⟨tb_str (by decide +kernel), by simp [spanOf, partsD], by simp [bodyOf, partsD]⟩ (thc ⟨tb_2 tx tl, ox.2, ol.2⟩ thn)))))
  refine ⟨by decide, by decide, by decide, by decide, by decide, call_lone (j := 0) (k := 1) (by decide) rfl rfl ok5 (by simp) (by simp) (belows_iff.mpr fun d hd => okT0 (hA d hd).1.ok) fun d hd x6 y6 ok6 => ?_⟩
  have hd' := hA d hd
  refine ⟨okT_below _ _ hd'.1.ok, by simp [belowE, belows, below], by decide, ?_⟩
  have hB : ∀ e ∈ [D.tup [tI ls, od], .tup [fd, od], d], LetT e := thc (let_pair ol ho) (thc (let_pair hf ho) (thc hd' thn))
  try walk_at "dgo1"
  have ef : (D.tup (ls.map D.int)) = tI ls := rfl
  rw [ef]
  generalize [D.tup [tI ls, od], .tup [fd, od], d] = os at hB ⊢
  rw [go_seqS]
  try walk_at "dgo1"
  refine for_inv (fun i ρ S => ∃ (t8 : Option D), ρ = [some (.lr 0), some (tI zs), some (tI ls), some (.tup xs), some (.tup [tI ls, .tup xs]), some (.tup [tI ls, od]), some fd, some (.lr 1), t8] ∧ S = [jar x6 y6, .lst os]) ⟨none, rfl, rfl⟩ (fun i ρ S _ hI => ?_) (fun i e ρ S he hI => ?_) fun ρ S hI => ?_
  · obtain ⟨t8, rfl, rfl⟩ := hI
    first | trivial | exact seqOf_lr.mpr rfl | rfl
  · obtain ⟨t8, rfl, rfl⟩ := hI
    have hL8 := hB e (List.mem_of_getElem? he)
    have f8 := fine_let2 (zs := zs) hL8.1.bi hL8.2.1 hL8.2.2
    try walk_at "dgo1"
    refine heard_letter hC oz hL8.1.ok (Nat.le_trans hL8.2.1 (by decide)) (Nat.le_trans hL8.2.2 (by decide)) rfl rfl ?_
    rw [letR_tI hz]
    refine go_repr f8 (by decide) (by decide) ?_
    refine call_lldue (hL8.1.th.mono (by decide)) (Nat.le_trans hL8.2.1 (by decide)) (Nat.le_trans hL8.2.2 (by decide)) ?_
    refine go_repr f8 (by decide) (by decide) ?_
    try walk_at "dgo1"
    try rw [if_neg (by simp)]
    exact ⟨_, rfl⟩
  · obtain ⟨t8, rfl, rfl⟩ := hI
    try walk_at "dgo1"
    exact end_t rfl (h x6 y6 ok6)
theorem call_rletters {S : Store} {j : Nat} {x y : Int} {zs : List Int} {post : DK} (hj : S[j]? = some (jar x y)) (ok : JOk x y) (hz : Sizes24 zs) (h : ∀ x' y', JOk x' y' → post (.bl true) (S.set j (jar x' y'))) : callD sp_lletters_right [.lr j, tI zs] S post :=
  call_one hj (by simp [belows, below_tI]) jar_below ⟨x, y, zs, rfl, rfl, ok, hz, fun x' y' k => by
    have := h x' y' k
    simpa [setAll, renE, rens, ren] using this⟩
theorem ok_lletters_right {P : Program} {w : World} {K : PySem.W.Frag} {mg : Str → Option Value} {base : Heap} {f : Addr} {fd : FuncData} (F : Fun K "_law_letters_right" "_law_letters_right" s_lletters_right f fd) (W : Bl mg) (cl : CL) (M : Clm mg cl) (hC : Clf K cl) (C_made_letter : CalX P w K mg base 6 "made_letter" (sp_made_letter cl)) (C_lletter_due : CalG P w K mg base 4 "_law_letter_due" sp_lletter_due) (C_lone : CalG P w K mg base 2 "_law_one" sp_lone) (C_lbent_lot : CalG P w K mg base 3 "_law_bent_lot" sp_lbent_lot) (C_lbent_entries : CalG P w K mg base 4 "_law_bent_entries" sp_lbent_entries) (C_lsome : CalG P w K mg base 2 "_law_some" sp_lsome) (C_ldrawn_entries : CalG P w K mg base 4 "_law_drawn_entries" sp_ldrawn_entries) (C_ldrawn_lot : CalG P w K mg base 3 "_law_drawn_lot" sp_ldrawn_lot) {gH cA pA : Addr} {fdH : FuncData} (FH : Fun K "_law_heard" "_law_heard" s_lheard gH fdH) (mH : mg "_law_heard" = some (.ref gH)) (BH0 : L2.Binds K fdH ["call"] []) (hcode : fd.code = .ref cA) (TB : LamX.TabB base mg cA pA) (hT : (pA, ("_law_letters_right.<locals>.<lambda>" : Str)) ∈ HasT.T) (hU : ∀ p ∈ HasT.T, p.1 = pA → p.2 = ("_law_letters_right.<locals>.<lambda>" : Str)) :
    FnG P w K mg base CX0 9 f fd ["jar", "sizes"] (spL K sp_lletters_right) := by
  obtain ⟨ocH, odH, kVH, docH, pmH, anH, cdH, ctH, oslH, rfl, lkH, hcH⟩ := FH.ex
  have BH := BH0
  refine fn_okGC (tb := b_lletters_right K cl) F hcode sc_lletters_right len_lletters_right (fun A outer s H E hgd hr => ?_) (hd_lletters_right hC)
  have sc := sc_lletters_right
  have hu := hr.units
  have hu1 := Nat.lt_of_le_of_lt (Nat.add_le_add_left (show 1 ≤ 64 by decide) _) hu
  have hu65 := units65 hr
  exact (dss_cons (ds_set 2 sc.nd (de_cal C_ldrawn_lot hgd hr (by decide) (by rfl) (da_cons (de_var 0) (da_cons (de_callB call_len_seq rul_len (by rfl) W.len_ PySem.boot_len (da_cons (de_var 1) da_nil)) da_nil))))
      (dss_cons (ds_set 3 sc.nd (de_gc0 (de_cal C_ldrawn_entries hgd hr (by decide) (by rfl) (da_cons (de_var 0) (da_cons (de_var 1) (da_cons (de_cal C_lsome hgd hr (by decide) (by rfl) (da_cons (de_var 0) (da_cons (de_var 2) da_nil))) da_nil))))))
      (dss_cons (ds_set 4 sc.nd (de_tup (da_cons (de_var 2) (da_cons (de_var 3) da_nil))))
      (dss_cons (ds_if (dt_cmp (op_ne2 hu) rul_ne (de_callB (call_repr_dp hgd hu) rul_repr (by rfl) W.repr_ PyProof.Rows.boot_repr (da_cons (de_lam (Ng := N_lheard) (b := b_lheard K cl) (te := (dCallX (sp_made_letter cl) (dToXs (dCons (dVar 1) (dCons (dVar 4) dNil))))) (by rfl) mH FH.kp hgd lkH hcH BH sc_lheard rfl (.inl rfl) (fun s H act hr hact => ok_lheard W M hC hgd hr act hact) TB rfl hT hU hr (LamX.lamS_by (by rfl)) rfl (fun _ _ _ _ _ => rfl) (fun A outer s H E f c hgd hr => (de_calX C_made_letter hgd hr (by decide) (by rfl) takes_lam (da_toX (da_cons (de_var 1) (da_cons (de_var 4) da_nil)))))) da_nil)) (de_callB (call_repr_dp hgd hu) rul_repr (by rfl) W.repr_ PyProof.Rows.boot_repr (da_cons (de_tup (da_cons de_str (da_cons (de_var 4) da_nil))) da_nil)) (nomark _)) (dss_one (ds_ret de_bl)) dss_nil)
      (dss_cons (ds_set 5 sc.nd (de_tup (da_cons (de_var 2) (da_cons (de_cal C_lbent_entries hgd hr (by decide) (by rfl) (da_cons (de_var 0) (da_cons (de_var 1) (da_cons (de_var 3) da_nil)))) da_nil))))
      (dss_cons (ds_set 6 sc.nd (de_cal C_lbent_lot hgd hr (by decide) (by rfl) (da_cons (de_var 0) (da_cons (de_var 1) (da_cons (de_var 2) da_nil)))))
      (dss_cons (ds_set 7 sc.nd (de_lst (da_cons (de_var 5) (da_cons (de_tup (da_cons (de_var 6) (da_cons (de_ix ix_seq rul_ix (de_var 5) de_int) da_nil))) (da_cons (de_gc0 (de_cal C_lone hgd hr (by decide) (by rfl) (da_cons (de_var 0) (da_cons (de_lst (da_cons (de_tup (da_cons (de_var 2) da_nil)) (da_cons (de_tup (da_cons (de_var 2) (da_cons (de_var 3) (da_cons (de_var 3) da_nil)))) (da_cons de_non (da_cons de_int (da_cons de_str (da_cons (de_tup (da_cons (de_var 3) (da_cons (de_var 2) da_nil))) da_nil))))))) da_nil)))) da_nil)))))
      (dss_cons (ds_for PassesOwn.never rfl (di_seq (de_var 7)) (dg_name 8 sc.nd) (dss_one (ds_if (dt_cmp (op_ne2 hu) rul_ne (de_callB (call_repr_dp hgd hu) rul_repr (by rfl) W.repr_ PyProof.Rows.boot_repr (da_cons (de_lam (Ng := N_lheard) (b := b_lheard K cl) (te := (dCallX (sp_made_letter cl) (dToXs (dCons (dVar 1) (dCons (dVar 8) dNil))))) (by rfl) mH FH.kp hgd lkH hcH BH sc_lheard rfl (.inl rfl) (fun s H act hr hact => ok_lheard W M hC hgd hr act hact) TB rfl hT hU hr (LamX.lamS_by (by rfl)) rfl (fun _ _ _ _ _ => rfl) (fun A outer s H E f c hgd hr => (de_calX C_made_letter hgd hr (by decide) (by rfl) takes_lam (da_toX (da_cons (de_var 1) (da_cons (de_var 8) da_nil)))))) da_nil)) (de_callB (call_repr_dp hgd hu) rul_repr (by rfl) W.repr_ PyProof.Rows.boot_repr (da_cons (de_cal C_lletter_due hgd hr (by decide) (by rfl) (da_cons (de_var 1) (da_cons (de_var 8) da_nil))) da_nil)) (nomark _)) (dss_one (ds_ret de_bl)) dss_nil)))
      (dss_one (ds_ret de_bl))))))))))
--@@split
/-! wrong sizes -/
theorem sizesF_bent {zs : List Int} (hz : Sizes24 zs) {at_ : Int} (a0 : 0 ≤ at_) (a1 : at_ < zs.length) {b : D} (hb : numIn 1 6 b = false) : sizesF (.tup (DL.cutD (zs.map D.int) none (some at_) ++ [b] ++ DL.cutD (zs.map D.int) (some (at_ + 1)) none)) = some at_ := by
  rw [cut_to a0, cut_from (by omega)]
  have hz1 := hz.1
  have hz2 := hz.2.1
  have e1 : (at_ + 1).toNat = at_.toNat + 1 := by omega
  have hn : at_.toNat < zs.length := by omega
  rw [e1]
  have hlen : ((zs.map D.int).take at_.toNat ++ [b] ++ (zs.map D.int).drop (at_.toNat + 1)).length = zs.length := by
    rw [List.length_append, List.length_append, List.length_take, List.length_drop, List.length_singleton, List.length_map]
    omega
  have ht : ((zs.map D.int).take at_.toNat).length = at_.toNat := by
    rw [List.length_take, List.length_map]
    omega
  unfold sizesF
  rw [if_pos (by simp only [tupIn, Bool.and_eq_true, decide_eq_true_eq, hlen]; omega)]
  have hat : ((zs.map D.int).take at_.toNat ++ [b] ++ (zs.map D.int).drop (at_.toNat + 1))[at_.toNat]? = some b := by
    rw [List.append_assoc, List.getElem?_append_right (by omega), ht, Nat.sub_self]
    rfl
  have := fstN_at (f := fun _ x => numIn 1 6 x) hat (fun j hj => ?_) hb
  · show fstN _ _ = _
    rw [show partsD (D.tup ((zs.map D.int).take at_.toNat ++ [b] ++ (zs.map D.int).drop (at_.toNat + 1))) = (zs.map D.int).take at_.toNat ++ [b] ++ (zs.map D.int).drop (at_.toNat + 1) from rfl, this]
    congr 1
    omega
  · have hj' : j < zs.length := by omega
    have hx : ((zs.map D.int).take at_.toNat ++ [b] ++ (zs.map D.int).drop (at_.toNat + 1))[j]? = some (.int zs[j]) := by
      rw [List.append_assoc, List.getElem?_append_left (by omega), List.getElem?_take_of_lt hj, List.getElem?_map, List.getElem?_eq_getElem hj']
      rfl
    rw [getD_of hx]
    have := hz.2.2 _ (List.getElem_mem hj')
    simp only [numIn, Bool.and_eq_true, decide_eq_true_eq]
    exact this
theorem rowR_bad {d1 d2 d3 : D} {k : Int} (h : sizesF d1 = some k) : rowR d1 d2 d3 = some (.sizes, k) := by
  unfold rowR
  rw [h]
theorem letR_bad {d1 d2 : D} {k : Int} (h : sizesF d1 = some k) : letR d1 d2 = some (.sizes, k) := by
  unfold letR
  rw [h]
def b_lsizes_right (K : PySem.W.Frag) (cl : CL) : DS :=
  (dSeq (dAsg (dTup (dCons (dCall sp_ltake (dCons (dVar 0) (dCons (dCB cLen (dCons (dVar 1) dNil)) dNil))) (dCons (dGc0 (dCall sp_lone (dCons (dVar 0) (dCons (dLst (dCons (dTup (dCons (dC (.int 0)) dNil)) (dCons (dTup dNil) (dCons (dC .non) dNil)))) dNil)))) dNil))) (gTup 2 (gCons (gName 2) (gCons (gName 3) gNil))))
    (dSeq (dAsg (dOp oAdd2 (dOp oAdd2 (dSl (dVar 1) dNoPart (dPart (dVar 2))) (dTup (dCons (dGc0 (dCall sp_lone (dCons (dVar 0) (dCons (dLst (dCons (dC (.int 0)) (dCons (dC (.int 7)) (dCons (dUn oNeg (dC (.int 1))) (dCons (dC (.bl true)) (dCons (dC .non) (dCons (dC (.str "2")) (dCons (dTup (dCons (dC (.int 2)) dNil)) dNil)))))))) dNil)))) dNil))) (dSl (dVar 1) (dPart (dOp oAdd2 (dVar 2) (dC (.int 1)))) dNoPart)) (gName 4))
    (dSeq (dAsg (dGc0 (dCall sp_lone (dCons (dVar 0) (dCons (dLst (dCons (dTup dNil) (dCons (dC .non) (dCons (dTup (dCons (dTup (dCons (dC (.int 0)) (dCons (dC (.int 0)) (dCons (dTup (dCons (dC (.int 0)) (dCons (dC (.int 0)) dNil))) dNil)))) dNil)) dNil)))) dNil)))) (gName 5))
    (dSeq (dIfS (dTest (dOp (oEq true) (dCB cRepr (dCons (dLam N_lheard (b_lheard K cl) (dCallX (sp_made_row cl) (dToXs (dCons (dVar 4) (dCons (dVar 3) (dCons (dVar 5) dNil)))))) dNil)) (dCB cRepr (dCons (dTup (dCons (dC (.str "sizes")) (dCons (dVar 2) dNil))) dNil)))) (dRet (dC (.bl false))) dNext)
    (dSeq (dIfS (dTest (dOp (oEq true) (dCB cRepr (dCons (dLam N_lheard (b_lheard K cl) (dCallX (sp_made_letter cl) (dToXs (dCons (dVar 4) (dCons (dVar 5) dNil))))) dNil)) (dCB cRepr (dCons (dTup (dCons (dC (.str "sizes")) (dCons (dVar 2) dNil))) dNil)))) (dRet (dC (.bl false))) dNext)
    (dSeq (dAsg (dGc0 (dCall sp_lone (dCons (dVar 0) (dCons (dLst (dCons (dTup dNil) (dCons (dC .non) (dCons (dC (.int 5)) (dCons (dC (.str "22")) (dCons (dOp oMul2 (dTup (dCons (dC (.int 2)) dNil)) (dC (.int 25))) dNil)))))) dNil)))) (gName 6))
    (dSeq (dIfS (dTest (dOp (oEq true) (dCB cRepr (dCons (dLam N_lheard (b_lheard K cl) (dCallX (sp_made_letter cl) (dToXs (dCons (dVar 6) (dCons (dVar 5) dNil))))) dNil)) (dCB cRepr (dCons (dTup (dCons (dC (.str "sizes")) (dCons (dUn oNeg (dC (.int 1))) dNil))) dNil)))) (dRet (dC (.bl false))) dNext)
    (dRet (dOp (oEq false) (dCB cRepr (dCons (dLam N_lheard (b_lheard K cl) (dCallX (sp_made_row cl) (dToXs (dCons (dVar 6) (dCons (dVar 3) (dCons (dVar 5) dNil)))))) dNil)) (dCB cRepr (dCons (dTup (dCons (dC (.str "sizes")) (dCons (dUn oNeg (dC (.int 1))) dNil))) dNil)))))))))))
def sp_lsizes_right : DSp := fun ds S post => ∃ (x y : Int) (zs : List Int), ds = [.lr 0, tI zs] ∧ S = [jar x y] ∧ JOk x y ∧ Sizes24 zs ∧ ∀ x' y', JOk x' y' → post (.bl true) [jar x' y']
theorem len_lsizes_right : ∀ ds S post, sp_lsizes_right ds S post → ds.length = 2 := by
  rintro _ _ _ ⟨_, _, _, rfl, _⟩
  rfl
theorem hd_lsizes_right {K : PySem.W.Frag} {cl : CL} (hC : Clf K cl) : ∀ ds S post, sp_lsizes_right ds S post → b_lsizes_right K cl (endsD S post) (startD ["jar", "sizes", "at", "lot", "odd", "thing", "far"] ds) S := by
  rintro ds S post ⟨x, y, zs, rfl, rfl, ok, hz, h⟩
  have hz1 := hz.1
  have hz2 := hz.2.1
  have hCm : CMAX = 100000000000000001000 := rfl
  unfold b_lsizes_right
  rw [go_seqS]
  try walk_at "dgo1"
  refine call_take (j := 0) rfl ok (by omega) (by omega) fun at_ x1 y1 ok1 a0 a1 => ?_
  have hL : ∀ d ∈ [D.tup [.int 0], .tup [], .non], Odd d := thc (odd_tup (thc (tb_sm (by omega) (by omega)) thn) (by simp)) (thc (odd_tup thn (by simp)) (thc odd_non thn))
  refine ⟨by decide, by decide, by decide, call_lone (j := 0) (k := 1) (by decide) rfl rfl ok1 (by simp) (by simp) (belows_iff.mpr fun d hd => odd_below (hL d hd)) fun lot hlot x2 y2 ok2 => ?_⟩
  have ol := hL lot hlot
  refine ⟨odd_below ol, by simp [belowE, belows, below], by decide, ?_⟩
  try walk_at "dgo1"
  rw [go_seqS]
  try walk_at "dgo1"
  have hB : ∀ d ∈ [D.int 0, .int 7, .int (-1), .bl true, .non, .str "2", .tup [.int 2]], Odd d ∧ numIn 1 6 d = false := thc ⟨odd_sm (by omega) (by omega), by decide⟩ (thc ⟨odd_sm (by omega) (by omega), by decide⟩ (thc ⟨odd_sm (by omega) (by omega), by decide⟩ (thc ⟨odd_bl, rfl⟩ (thc ⟨odd_non, rfl⟩ (thc ⟨odd_str (by decide +kernel), rfl⟩ (thc ⟨odd_tup (thc (tb_sm (by omega) (by omega)) thn) (by simp), rfl⟩ thn))))))
  refine ⟨by decide, by decide, call_lone (j := 0) (k := 1) (by decide) rfl rfl ok2 (by simp) (by simp) (belows_iff.mpr fun d hd => odd_below (hB d hd).1) fun b hb x3 y3 ok3 => ?_⟩
  obtain ⟨ob, nb⟩ := hB b hb
  refine ⟨odd_below ob, by simp [belowE, belows, below], ?_⟩
  try walk_at "dgo1"
  have hs := sizesF_bent hz a0 a1 nb
  have k1 := cut_len (xs := zs.map D.int) (lo := none) (hi := some at_)
  have k2 := cut_len (xs := zs.map D.int) (lo := some (at_ + 1)) (hi := none)
  rw [List.length_map] at k1 k2
  have ho : okT (.tup (DL.cutD (zs.map D.int) none (some at_) ++ [b] ++ DL.cutD (zs.map D.int) (some (at_ + 1)) none)) = true := by
    rw [okT, okTs_iff]
    intro d hd
    rcases List.mem_append.mp hd with hd | hd
    · rcases List.mem_append.mp hd with hd | hd
      · have := List.mem_of_mem_drop (List.mem_of_mem_take hd)
        obtain ⟨i, _, rfl⟩ := List.mem_map.mp this
        rfl
      · rw [List.mem_singleton.mp hd]
        exact ob.1.ok
    · have := List.mem_of_mem_drop (List.mem_of_mem_take hd)
      obtain ⟨i, _, rfl⟩ := List.mem_map.mp this
      rfl
  refine ⟨by decide, by omega, by rw [List.length_append]; simp only [List.length_singleton]; omega, ?_⟩
  generalize D.tup (DL.cutD (zs.map D.int) none (some at_) ++ [b] ++ DL.cutD (zs.map D.int) (some (at_ + 1)) none) = odd at hs ho ⊢
  rw [go_seqS]
  try walk_at "dgo1"
  have hT : ∀ d ∈ [D.tup [], .non, .tup [.tup [.int 0, .int 0, .tup [.int 0, .int 0]]]], Odd d ∧ LetT d := by
    have z : ∀ {k : Nat}, Tb k (.int 0) := fun {k} => tb_sm (by omega) (by omega)
    exact thc ⟨odd_tup thn (by simp), tb_nil, by simp [spanOf, partsD], by simp [bodyOf, partsD]⟩ (thc ⟨odd_non, tb_non, by simp [spanOf, partsD], by simp [bodyOf, partsD]⟩ (thc ⟨odd_tup (thc (tb_3 z z (tb_2 z z)) thn) (by simp), tb_1 (tb_3 z z (tb_2 z z)), by simp [spanOf, partsD], by simp [bodyOf, partsD]⟩ thn))
  refine ⟨by decide, by decide, by decide, by decide, by decide, call_lone (j := 0) (k := 1) (by decide) rfl rfl ok3 (by simp) (by simp) (belows_iff.mpr fun d hd => odd_below (hT d hd).1) fun thing ht x4 y4 ok4 => ?_⟩
  obtain ⟨ot, lt⟩ := hT thing ht
  refine ⟨odd_below ot, by simp [belowE, belows, below], ?_⟩
  try walk_at "dgo1"
  have fs : ∀ k : Int, -1 ≤ k → k < 24 → Fine 100000 60 (.tup [.str "sizes", .int k]) := fun k k0 k1 => fine_wd (w := .sizes) (by omega)
  rw [go_seqS]
  try walk_at "dgo1"
  refine heard_row hC ho ol.1.ok ot.1.ok (Nat.le_trans ol.2 (by decide)) rfl rfl rfl ?_
  rw [rowR_bad hs, show dueW (some (Wd.sizes, at_)) thing = .tup [.str "sizes", .int at_] from rfl]
  refine go_repr (fs at_ (by omega) (by omega)) (by decide) (by decide) ?_
  refine ⟨by decide, go_repr (fs at_ (by omega) (by omega)) (by decide) (by decide) ?_⟩
  try walk_at "dgo1"
  rw [if_neg (by simp)]
  rw [go_seqS]
  try walk_at "dgo1"
  refine heard_letter hC ho lt.1.ok (Nat.le_trans lt.2.1 (by decide)) (Nat.le_trans lt.2.2 (by decide)) rfl rfl ?_
  rw [letR_bad hs, show dueW (some (Wd.sizes, at_)) thing = .tup [.str "sizes", .int at_] from rfl]
  refine go_repr (fs at_ (by omega) (by omega)) (by decide) (by decide) ?_
  refine ⟨by decide, go_repr (fs at_ (by omega) (by omega)) (by decide) (by decide) ?_⟩
  try walk_at "dgo1"
  rw [if_neg (by simp)]
  rw [go_seqS]
  try walk_at "dgo1"
  have hF : ∀ d ∈ [D.tup [], .non, .int 5, .str "22", .tup (List.replicate (Int.toNat 25) [D.int 2]).flatten], okT d = true ∧ sizesF d = some (-1) := thc ⟨rfl, by decide⟩ (thc ⟨rfl, by decide⟩ (thc ⟨rfl, by decide⟩ (thc ⟨rfl, rfl⟩ (thc ⟨by decide +kernel, by decide +kernel⟩ thn))))
  refine ⟨by decide, by decide, by simp, by decide, by decide, by decide, by decide, call_lone (j := 0) (k := 1) (by decide) rfl rfl ok4 (by simp) (by simp) (belows_iff.mpr fun d hd => okT0 (hF d hd).1) fun far hfar x5 y5 ok5 => ?_⟩
  obtain ⟨of_, sf⟩ := hF far hfar
  refine ⟨okT_below _ _ of_, by simp [belowE, belows, below], ?_⟩
  try walk_at "dgo1"
  rw [go_seqS]
  try walk_at "dgo1"
  refine heard_letter hC of_ lt.1.ok (Nat.le_trans lt.2.1 (by decide)) (Nat.le_trans lt.2.2 (by decide)) rfl rfl ?_
  rw [letR_bad sf, show dueW (some (Wd.sizes, -1)) thing = .tup [.str "sizes", .int (-1)] from rfl]
  refine go_repr (fs (-1) (by decide) (by decide)) (by decide) (by decide) ?_
  refine ⟨by decide, go_repr (fs (-1) (by decide) (by decide)) (by decide) (by decide) ?_⟩
  try walk_at "dgo1"
  rw [if_neg (by simp)]
  try walk_at "dgo1"
  refine heard_row hC of_ ol.1.ok ot.1.ok (Nat.le_trans ol.2 (by decide)) rfl rfl rfl ?_
  rw [rowR_bad sf, show dueW (some (Wd.sizes, -1)) thing = .tup [.str "sizes", .int (-1)] from rfl]
  refine go_repr (fs (-1) (by decide) (by decide)) (by decide) (by decide) ?_
  refine ⟨by decide, go_repr (fs (-1) (by decide) (by decide)) (by decide) (by decide) ?_⟩
  refine go_eq_str.mpr ?_
  rw [decide_eq_true rfl]
  exact end_t rfl (h x5 y5 ok5)
theorem call_rsizes {S : Store} {j : Nat} {x y : Int} {zs : List Int} {post : DK} (hj : S[j]? = some (jar x y)) (ok : JOk x y) (hz : Sizes24 zs) (h : ∀ x' y', JOk x' y' → post (.bl true) (S.set j (jar x' y'))) : callD sp_lsizes_right [.lr j, tI zs] S post :=
  call_one hj (by simp [belows, below_tI]) jar_below ⟨x, y, zs, rfl, rfl, ok, hz, fun x' y' k => by
    have := h x' y' k
    simpa [setAll, renE, rens, ren] using this⟩
theorem ok_lsizes_right {P : Program} {w : World} {K : PySem.W.Frag} {mg : Str → Option Value} {base : Heap} {f : Addr} {fd : FuncData} (F : Fun K "_law_sizes_right" "_law_sizes_right" s_lsizes_right f fd) (W : Bl mg) (cl : CL) (M : Clm mg cl) (hC : Clf K cl) (C_made_row : CalX P w K mg base 6 "made_row" (sp_made_row cl)) (C_made_letter : CalX P w K mg base 6 "made_letter" (sp_made_letter cl)) (C_lone : CalG P w K mg base 2 "_law_one" sp_lone) (C_ltake : CalG P w K mg base 1 "_law_take" sp_ltake) {gH cA pA : Addr} {fdH : FuncData} (FH : Fun K "_law_heard" "_law_heard" s_lheard gH fdH) (mH : mg "_law_heard" = some (.ref gH)) (BH0 : L2.Binds K fdH ["call"] []) (hcode : fd.code = .ref cA) (TB : LamX.TabB base mg cA pA) (hT : (pA, ("_law_sizes_right.<locals>.<lambda>" : Str)) ∈ HasT.T) (hU : ∀ p ∈ HasT.T, p.1 = pA → p.2 = ("_law_sizes_right.<locals>.<lambda>" : Str)) :
    FnG P w K mg base CX0 9 f fd ["jar", "sizes"] (spL K sp_lsizes_right) := by
  obtain ⟨ocH, odH, kVH, docH, pmH, anH, cdH, ctH, oslH, rfl, lkH, hcH⟩ := FH.ex
  have BH := BH0
  refine fn_okGC (tb := b_lsizes_right K cl) F hcode sc_lsizes_right len_lsizes_right (fun A outer s H E hgd hr => ?_) (hd_lsizes_right hC)
  have sc := sc_lsizes_right
  have hu := hr.units
  have hu1 := Nat.lt_of_le_of_lt (Nat.add_le_add_left (show 1 ≤ 64 by decide) _) hu
  have hu65 := units65 hr
  exact (dss_cons (ds_asg (de_tup (da_cons (de_cal C_ltake hgd hr (by decide) (by rfl) (da_cons (de_var 0) (da_cons (de_callB call_len_seq rul_len (by rfl) W.len_ PySem.boot_len (da_cons (de_var 1) da_nil)) da_nil))) (da_cons (de_gc0 (de_cal C_lone hgd hr (by decide) (by rfl) (da_cons (de_var 0) (da_cons (de_lst (da_cons (de_tup (da_cons de_int da_nil)) (da_cons (de_tup da_nil) (da_cons de_non da_nil)))) da_nil)))) da_nil))) (dg_tup rfl (dgs_cons (dg_name 2 sc.nd) (dgs_cons (dg_name 3 sc.nd) dgs_nil))))
      (dss_cons (ds_set 4 sc.nd (de_op op_add4 rul_add4 (de_op op_add4 rul_add4 (de_sl (de_var 1) do_none (do_some (de_var 2))) (de_tup (da_cons (de_gc0 (de_cal C_lone hgd hr (by decide) (by rfl) (da_cons (de_var 0) (da_cons (de_lst (da_cons de_int (da_cons de_int (da_cons (de_un un_neg rul_neg de_int) (da_cons de_bl (da_cons de_non (da_cons de_str (da_cons (de_tup (da_cons de_int da_nil)) da_nil)))))))) da_nil)))) da_nil))) (de_sl (de_var 1) (do_some (de_op op_add4 rul_add4 (de_var 2) de_int)) do_none)))
      (dss_cons (ds_set 5 sc.nd (de_gc0 (de_cal C_lone hgd hr (by decide) (by rfl) (da_cons (de_var 0) (da_cons (de_lst (da_cons (de_tup da_nil) (da_cons de_non (da_cons (de_tup (da_cons (de_tup (da_cons de_int (da_cons de_int (da_cons (de_tup (da_cons de_int (da_cons de_int da_nil))) da_nil)))) da_nil)) da_nil)))) da_nil)))))
      (dss_cons (ds_if (dt_cmp (op_ne2 hu) rul_ne (de_callB (call_repr_dp hgd hu) rul_repr (by rfl) W.repr_ PyProof.Rows.boot_repr (da_cons (de_lam (Ng := N_lheard) (b := b_lheard K cl) (te := (dCallX (sp_made_row cl) (dToXs (dCons (dVar 4) (dCons (dVar 3) (dCons (dVar 5) dNil)))))) (by rfl) mH FH.kp hgd lkH hcH BH sc_lheard rfl (.inl rfl) (fun s H act hr hact => ok_lheard W M hC hgd hr act hact) TB rfl hT hU hr (LamX.lamS_by (by rfl)) rfl (fun _ _ _ _ _ => rfl) (fun A outer s H E f c hgd hr => (de_calX C_made_row hgd hr (by decide) (by rfl) takes_lam (da_toX (da_cons (de_var 4) (da_cons (de_var 3) (da_cons (de_var 5) da_nil))))))) da_nil)) (de_callB (call_repr_dp hgd hu) rul_repr (by rfl) W.repr_ PyProof.Rows.boot_repr (da_cons (de_tup (da_cons de_str (da_cons (de_var 2) da_nil))) da_nil)) (nomark _)) (dss_one (ds_ret de_bl)) dss_nil)
      (dss_cons (ds_if (dt_cmp (op_ne2 hu) rul_ne (de_callB (call_repr_dp hgd hu) rul_repr (by rfl) W.repr_ PyProof.Rows.boot_repr (da_cons (de_lam (Ng := N_lheard) (b := b_lheard K cl) (te := (dCallX (sp_made_letter cl) (dToXs (dCons (dVar 4) (dCons (dVar 5) dNil))))) (by rfl) mH FH.kp hgd lkH hcH BH sc_lheard rfl (.inl rfl) (fun s H act hr hact => ok_lheard W M hC hgd hr act hact) TB rfl hT hU hr (LamX.lamS_by (by rfl)) rfl (fun _ _ _ _ _ => rfl) (fun A outer s H E f c hgd hr => (de_calX C_made_letter hgd hr (by decide) (by rfl) takes_lam (da_toX (da_cons (de_var 4) (da_cons (de_var 5) da_nil)))))) da_nil)) (de_callB (call_repr_dp hgd hu) rul_repr (by rfl) W.repr_ PyProof.Rows.boot_repr (da_cons (de_tup (da_cons de_str (da_cons (de_var 2) da_nil))) da_nil)) (nomark _)) (dss_one (ds_ret de_bl)) dss_nil)
      (dss_cons (ds_set 6 sc.nd (de_gc0 (de_cal C_lone hgd hr (by decide) (by rfl) (da_cons (de_var 0) (da_cons (de_lst (da_cons (de_tup da_nil) (da_cons de_non (da_cons de_int (da_cons de_str (da_cons (de_op op_mul2 rul_mul2 (de_tup (da_cons de_int da_nil)) de_int) da_nil)))))) da_nil)))))
      (dss_cons (ds_if (dt_cmp (op_ne2 hu) rul_ne (de_callB (call_repr_dp hgd hu) rul_repr (by rfl) W.repr_ PyProof.Rows.boot_repr (da_cons (de_lam (Ng := N_lheard) (b := b_lheard K cl) (te := (dCallX (sp_made_letter cl) (dToXs (dCons (dVar 6) (dCons (dVar 5) dNil))))) (by rfl) mH FH.kp hgd lkH hcH BH sc_lheard rfl (.inl rfl) (fun s H act hr hact => ok_lheard W M hC hgd hr act hact) TB rfl hT hU hr (LamX.lamS_by (by rfl)) rfl (fun _ _ _ _ _ => rfl) (fun A outer s H E f c hgd hr => (de_calX C_made_letter hgd hr (by decide) (by rfl) takes_lam (da_toX (da_cons (de_var 6) (da_cons (de_var 5) da_nil)))))) da_nil)) (de_callB (call_repr_dp hgd hu) rul_repr (by rfl) W.repr_ PyProof.Rows.boot_repr (da_cons (de_tup (da_cons de_str (da_cons (de_un un_neg rul_neg de_int) da_nil))) da_nil)) (nomark _)) (dss_one (ds_ret de_bl)) dss_nil)
      (dss_one (ds_ret (de_cmp (op_eq2 hu) rul_eq (de_callB (call_repr_dp hgd hu) rul_repr (by rfl) W.repr_ PyProof.Rows.boot_repr (da_cons (de_lam (Ng := N_lheard) (b := b_lheard K cl) (te := (dCallX (sp_made_row cl) (dToXs (dCons (dVar 6) (dCons (dVar 3) (dCons (dVar 5) dNil)))))) (by rfl) mH FH.kp hgd lkH hcH BH sc_lheard rfl (.inl rfl) (fun s H act hr hact => ok_lheard W M hC hgd hr act hact) TB rfl hT hU hr (LamX.lamS_by (by rfl)) rfl (fun _ _ _ _ _ => rfl) (fun A outer s H E f c hgd hr => (de_calX C_made_row hgd hr (by decide) (by rfl) takes_lam (da_toX (da_cons (de_var 6) (da_cons (de_var 3) (da_cons (de_var 5) da_nil))))))) da_nil)) (de_callB (call_repr_dp hgd hu) rul_repr (by rfl) W.repr_ PyProof.Rows.boot_repr (da_cons (de_tup (da_cons de_str (da_cons (de_un un_neg rul_neg de_int) da_nil))) da_nil)) (nomark _)))))))))))
/-! law -/
theorem jset {S : Store} {j : Nat} {e e' : Ent} (h : S[j]? = some e) : (S.set j e')[j]? = some e' := List.getElem?_set_self (List.getElem?_eq_some_iff.mp h).1
def b_law : DS :=
  (dSeq (dFor (wRng1 (dCons (dC (.int 3)) dNil)) (gName 1) (dSeq (dAsg (dCall sp_lpool (dCons (dVar 0) (dCons (dVar 1) dNil))) (gName 2))
    (dSeq (dAsg (dCall sp_ldrawn_sizes (dCons (dVar 2) (dCons (dIf (dTest (dOp (oEq false) (dCall sp_ltake (dCons (dVar 2) (dCons (dC (.int 4)) dNil))) (dC (.int 0)))) (dC (.int 24)) (dC (.int 6))) (dCons (dC (.int 6)) dNil)))) (gName 3))
    (dSeq (dIfS (dOr (dNot (dTest (dCall sp_lrows_right (dCons (dVar 2) (dCons (dVar 3) dNil))))) (dNot (dTest (dCall sp_lletters_right (dCons (dVar 2) (dCons (dVar 3) dNil)))))) (dRet (dC (.bl false))) dNext)
    (dIfS (dNot (dTest (dCall sp_lsizes_right (dCons (dVar 2) (dCons (dVar 3) dNil))))) (dRet (dC (.bl false))) dNext)))))
    (dRet (dC (.bl true))))
def sp_law : DSp := fun ds S post => ∃ ns : List Int, ns.length ≤ 63 ∧ ds = [.rl (ns.map .int)] ∧ S = [] ∧ post (.bl true) []
theorem len_law : ∀ ds S post, sp_law ds S post → ds.length = 1 := by
  rintro _ _ _ ⟨_, _, rfl, _⟩
  rfl
theorem hd_law : ∀ ds S post, sp_law ds S post → b_law (endsD S post) (startD ["script", "k", "jar", "sizes"] ds) S := by
  rintro ds S post ⟨ns, hn, rfl, rfl, h⟩
  unfold b_law
  rw [go_seqS]
  try walk_at "dgo1"
  refine ⟨by decide, by decide, for_inv (fun i ρ S => ∃ (t1 t2 t3 : Option D), ρ = [some (.rl (ns.map .int)), t1, t2, t3]) ⟨none, none, none, rfl⟩ (fun _ _ _ _ _ => trivial) (fun i d ρ S hd hI => ?_) fun ρ S hI => ?_⟩
  · obtain ⟨t1, t2, t3, rfl⟩ := hI
    obtain ⟨hi, rfl⟩ := upTo_get hd
    have hi3 : i < 3 := hi
    try walk_at "dgo1"
    rw [go_seqS]
    try walk_at "dgo1"
    refine call_pool (by omega) (by omega) (by omega) fun x1 y1 ok1 => ?_
    have h0 : (S ++ [jar x1 y1])[S.length]? = some (jar x1 y1) := by
      rw [List.getElem?_append_right (Nat.le_refl _), Nat.sub_self]
      rfl
    generalize S ++ [jar x1 y1] = S1 at h0 ⊢
    generalize S.length = j at h0 ⊢
    try walk_at "dgo1"
    rw [go_seqS]
    try walk_at "dgo1"
    refine call_take h0 ok1 (by decide) (by decide) fun r x2 y2 ok2 ra rb => ?_
    have h1 := jset (e' := jar x2 y2) h0
    generalize S1.set j (jar x2 y2) = S2 at h1 ⊢
    try walk_at "dgo1"
    split
    refine call_sizes h1 ok2 (by decide) (by decide) (by decide) (by decide) fun zs x3 y3 ok3 l1 l2 hz => ?_
    have hS : Sizes24 zs := ⟨l1, by omega, fun z hm => ⟨(hz z hm).1, (hz z hm).2.2⟩⟩
    rotate_left
    refine call_sizes h1 ok2 (by decide) (by decide) (by decide) (by decide) fun zs x3 y3 ok3 l1 l2 hz => ?_
    have hS : Sizes24 zs := ⟨l1, by omega, fun z hm => ⟨(hz z hm).1, (hz z hm).2.2⟩⟩
    all_goals
      have h2 := jset (e' := jar x3 y3) h1
      generalize S2.set j (jar x3 y3) = S3 at h2 ⊢
      try walk_at "dgo1"
      rw [go_seqS]
      try walk_at "dgo1"
      refine call_rrows h2 ok3 hS fun x4 y4 ok4 => ?_
      have h3 := jset (e' := jar x4 y4) h2
      generalize S3.set j (jar x4 y4) = S4 at h3 ⊢
      try walk_at "dgo1"
      try rw [if_neg (by decide)]
      refine call_rletters h3 ok4 hS fun x5 y5 ok5 => ?_
      have h4 := jset (e' := jar x5 y5) h3
      generalize S4.set j (jar x5 y5) = S5 at h4 ⊢
      try walk_at "dgo1"
      try rw [if_neg (by decide)]
      refine call_rsizes h4 ok5 hS fun x6 y6 ok6 => ?_
      try walk_at "dgo1"
      try rw [if_neg (by decide)]
      exact ⟨_, _, _, rfl⟩
  · obtain ⟨t1, t2, t3, rfl⟩ := hI
    try walk_at "dgo1"
    exact end_none (by simp [below]) h
theorem ok_law {P : Program} {w : World} {K : PySem.W.Frag} {mg : Str → Option Value} {base : Heap} {f : Addr} {fd : FuncData} (F : Fun K "law" "law" s_law f fd) (W : Bl mg) (C_lsizes_right : CalG P w K mg base 9 "_law_sizes_right" sp_lsizes_right) (C_lrows_right : CalG P w K mg base 9 "_law_rows_right" sp_lrows_right) (C_lletters_right : CalG P w K mg base 9 "_law_letters_right" sp_lletters_right) (C_ltake : CalG P w K mg base 1 "_law_take" sp_ltake) (C_ldrawn_sizes : CalG P w K mg base 3 "_law_drawn_sizes" sp_ldrawn_sizes) (C_lpool : CalG P w K mg base 1 "_law_pool" sp_lpool) :
    FnG P w K mg base CX0 10 f fd ["script"] (spL K sp_law) := by
  refine fn_okG (tb := b_law) F sc_law len_law (fun cdv A outer s H E hgd hr => ?_) hd_law
  have sc := sc_law
  have hu := hr.units
  have hu1 := Nat.lt_of_le_of_lt (Nat.add_le_add_left (show 1 ≤ 64 by decide) _) hu
  have hu65 := units65 hr
  exact (dss_cons (ds_for PassesOwn.never rfl (di_rng1 (by rfl) W.range_ (da_cons de_int da_nil)) (dg_name 1 sc.nd) (dss_cons (ds_set 2 sc.nd (de_cal C_lpool hgd hr (by decide) (by rfl) (da_cons (de_var 0) (da_cons (de_var 1) da_nil))))
      (dss_cons (ds_set 3 sc.nd (de_cal C_ldrawn_sizes hgd hr (by decide) (by rfl) (da_cons (de_var 2) (da_cons (de_ifExp (dt_cmp (op_eq2 hu) rul_eq (de_cal C_ltake hgd hr (by decide) (by rfl) (da_cons (de_var 2) (da_cons de_int da_nil))) de_int (nomark _)) de_int de_int) (da_cons de_int da_nil)))))
      (dss_cons (ds_if (PW.pt (dw_or (dt_not (dt_val (de_cal C_lrows_right hgd hr (by decide) (by rfl) (da_cons (de_var 2) (da_cons (de_var 3) da_nil))))) (dw_or1 (dt_not (dt_val (de_cal C_lletters_right hgd hr (by decide) (by rfl) (da_cons (de_var 2) (da_cons (de_var 3) da_nil)))))))) (dss_one (ds_ret de_bl)) dss_nil)
      (dss_one (ds_if (dt_not (dt_val (de_cal C_lsizes_right hgd hr (by decide) (by rfl) (da_cons (de_var 2) (da_cons (de_var 3) da_nil))))) (dss_one (ds_ret de_bl)) dss_nil))))))
      (dss_one (ds_ret de_bl)))
--@@split
omit [HasT] in
theorem own_mk {mg : Str → Option Value} {q : Program} {nm : Str} {fb : Addr} {P : Addr → Prop} (h : ((recsOf q).any fun e => e.name == nm) = true) (e : mg nm = some (.ref fb)) (p : P fb) : ∃ r ∈ recsOf q, ∃ fb, mg r.name = some (.ref fb) ∧ P fb := by
  obtain ⟨r, hr, hn⟩ := List.any_eq_true.mp h
  have : r.name = nm := beq_iff_eq.mp hn
  exact ⟨r, hr, fb, by rw [this]; exact e, p⟩
omit [HasT] in
theorem all_mk {l : PySem.W.OpenLaw} {w : World} {K : PySem.W.Frag} {h : Heap} {mg : Str → Option Value} {fa f0 f1 f2 f3 f4 f5 f6 f7 f8 f9 f10 f11 f12 f13 f14 f15 f16 f17 f18 f19 f20 f21 f22 f23 f24 f25 f26 f27 f28 f29 f30 f31 f32 f33 f34 f35 f36 f37 f38 f39 f40 f41 : Addr} (X : K.In h) (G : h.Ns mainGlobals mg) (hfa : mg "law" = some (.ref fa))
    {od0 an0 od1 an1 od2 an2 od3 an3 od4 an4 od5 an5 od6 an6 od7 an7 od8 an8 od9 an9 od10 an10 od11 an11 od12 an12 od13 an13 od14 an14 od15 an15 od16 an16 od17 an17 od18 an18 od19 an19 od20 an20 od21 an21 od22 an22 od23 an23 od24 an24 od25 an25 od26 an26 od27 an27 od28 an28 od29 an29 od30 an30 od31 an31 od32 an32 od33 an33 od34 an34 od35 an35 od36 an36 od37 an37 od38 an38 od39 an39 od40 an40 od41 an41 : Option Addr} {sl0 sl1 sl2 sl3 sl4 sl5 sl6 sl7 sl8 sl9 sl10 sl11 sl12 sl13 sl14 sl15 sl16 sl17 sl18 sl19 sl20 sl21 sl22 sl23 sl24 sl25 sl26 sl27 sl28 sl29 sl30 sl31 sl32 sl33 sl34 sl35 sl36 sl37 sl38 sl39 sl40 sl41 : Array (Option Value)} {oc0 kV0 dc0 pm0 cd0 ct0 oc1 kV1 dc1 pm1 cd1 ct1 oc2 kV2 dc2 pm2 cd2 ct2 oc3 kV3 dc3 pm3 cd3 ct3 oc4 kV4 dc4 pm4 cd4 ct4 oc5 kV5 dc5 pm5 cd5 ct5 oc6 kV6 dc6 pm6 cd6 ct6 oc7 kV7 dc7 pm7 cd7 ct7 oc8 kV8 dc8 pm8 cd8 ct8 oc9 kV9 dc9 pm9 cd9 ct9 oc10 kV10 dc10 pm10 cd10 ct10 oc11 kV11 dc11 pm11 cd11 ct11 oc12 kV12 dc12 pm12 cd12 ct12 oc13 kV13 dc13 pm13 cd13 ct13 oc14 kV14 dc14 pm14 cd14 ct14 oc15 kV15 dc15 pm15 cd15 ct15 oc16 kV16 dc16 pm16 cd16 ct16 oc17 kV17 dc17 pm17 cd17 ct17 oc18 kV18 dc18 pm18 cd18 ct18 oc19 kV19 dc19 pm19 cd19 ct19 oc20 kV20 dc20 pm20 cd20 ct20 oc21 kV21 dc21 pm21 cd21 ct21 oc22 kV22 dc22 pm22 cd22 ct22 oc23 kV23 dc23 pm23 cd23 ct23 oc24 kV24 dc24 pm24 cd24 ct24 oc25 kV25 dc25 pm25 cd25 ct25 oc26 kV26 dc26 pm26 cd26 ct26 oc27 kV27 dc27 pm27 cd27 ct27 oc28 kV28 dc28 pm28 cd28 ct28 oc29 kV29 dc29 pm29 cd29 ct29 oc30 kV30 dc30 pm30 cd30 ct30 oc31 kV31 dc31 pm31 cd31 ct31 oc32 kV32 dc32 pm32 cd32 ct32 oc33 kV33 dc33 pm33 cd33 ct33 oc34 kV34 dc34 pm34 cd34 ct34 oc35 kV35 dc35 pm35 cd35 ct35 oc36 kV36 dc36 pm36 cd36 ct36 oc37 kV37 dc37 pm37 cd37 ct37 oc38 kV38 dc38 pm38 cd38 ct38 oc39 kV39 dc39 pm39 cd39 ct39 oc40 kV40 dc40 pm40 cd40 ct40 oc41 kV41 dc41 pm41 cd41 ct41 : Value}
    {tk_MOST_WORTHS tk_MOST_SETTINGS tk_MOST_HOUSE : Tok}
    {k_BadSizes k_BadLot k_BadRow k_BadLetter k_Refused : Addr}
    {nm_BadSizes qq_BadSizes : Str} {NN_BadSizes : Addr} {bs_BadSizes bm_BadSizes : List Value} {sn_BadSizes : List Str} {sub_BadSizes : List Value} {ab_BadSizes : Bool} {col_BadSizes : Option Bool} {dd_BadSizes : Option Addr} {m0_BadSizes m1_BadSizes m2_BadSizes m3_BadSizes m5_BadSizes : Option Value}
    {nm_BadLot qq_BadLot : Str} {NN_BadLot : Addr} {bs_BadLot bm_BadLot : List Value} {sn_BadLot : List Str} {sub_BadLot : List Value} {ab_BadLot : Bool} {col_BadLot : Option Bool} {dd_BadLot : Option Addr} {m0_BadLot m1_BadLot m2_BadLot m3_BadLot m5_BadLot : Option Value}
    {nm_BadRow qq_BadRow : Str} {NN_BadRow : Addr} {bs_BadRow bm_BadRow : List Value} {sn_BadRow : List Str} {sub_BadRow : List Value} {ab_BadRow : Bool} {col_BadRow : Option Bool} {dd_BadRow : Option Addr} {m0_BadRow m1_BadRow m2_BadRow m3_BadRow m5_BadRow : Option Value}
    {nm_BadLetter qq_BadLetter : Str} {NN_BadLetter : Addr} {bs_BadLetter bm_BadLetter : List Value} {sn_BadLetter : List Str} {sub_BadLetter : List Value} {ab_BadLetter : Bool} {col_BadLetter : Option Bool} {dd_BadLetter : Option Addr} {m0_BadLetter m1_BadLetter m2_BadLetter m3_BadLetter m5_BadLetter : Option Value}
    {kI : Addr} {odI anI : Option Addr} {slI : Array (Option Value)} {ocI kVI dcI pmI cdI ctI : Value}
    (a0 : PySem.W.nsIn K mainGlobals "number_within" = some (some (.ref f0))) (l0 : K.lookup f0 = some ⟨oc0, od0, .func (PySem.W.fnOf "number_within" "number_within" (defArgs s_number_within) (defBody s_number_within) (defScope s_number_within) .none kV0 dc0 pm0 an0 cd0 ct0), sl0⟩) (c0 : PySem.W.codeIn K cd0 "number_within" = true) (k0 : PySem.W.keepIn K (.ref f0) = true)
    (a1 : PySem.W.nsIn K mainGlobals "tuple_sized" = some (some (.ref f1))) (l1 : K.lookup f1 = some ⟨oc1, od1, .func (PySem.W.fnOf "tuple_sized" "tuple_sized" (defArgs s_tuple_sized) (defBody s_tuple_sized) (defScope s_tuple_sized) .none kV1 dc1 pm1 an1 cd1 ct1), sl1⟩) (c1 : PySem.W.codeIn K cd1 "tuple_sized" = true) (k1 : PySem.W.keepIn K (.ref f1) = true)
    (a2 : PySem.W.nsIn K mainGlobals "sizes_fault" = some (some (.ref f2))) (l2 : K.lookup f2 = some ⟨oc2, od2, .func (PySem.W.fnOf "sizes_fault" "sizes_fault" (defArgs s_sizes_fault) (defBody s_sizes_fault) (defScope s_sizes_fault) .none kV2 dc2 pm2 an2 cd2 ct2), sl2⟩) (c2 : PySem.W.codeIn K cd2 "sizes_fault" = true) (k2 : PySem.W.keepIn K (.ref f2) = true)
    (a3 : PySem.W.nsIn K mainGlobals "made_sizes" = some (some (.ref f3))) (l3 : K.lookup f3 = some ⟨oc3, od3, .func (PySem.W.fnOf "made_sizes" "made_sizes" (defArgs s_made_sizes) (defBody s_made_sizes) (defScope s_made_sizes) .none kV3 dc3 pm3 an3 cd3 ct3), sl3⟩) (c3 : PySem.W.codeIn K cd3 "made_sizes" = true) (k3 : PySem.W.keepIn K (.ref f3) = true)
    (a4 : PySem.W.nsIn K mainGlobals "setting_of" = some (some (.ref f4))) (l4 : K.lookup f4 = some ⟨oc4, od4, .func (PySem.W.fnOf "setting_of" "setting_of" (defArgs s_setting_of) (defBody s_setting_of) (defScope s_setting_of) .none kV4 dc4 pm4 an4 cd4 ct4), sl4⟩) (c4 : PySem.W.codeIn K cd4 "setting_of" = true) (k4 : PySem.W.keepIn K (.ref f4) = true)
    (a5 : PySem.W.nsIn K mainGlobals "rises" = some (some (.ref f5))) (l5 : K.lookup f5 = some ⟨oc5, od5, .func (PySem.W.fnOf "rises" "rises" (defArgs s_rises) (defBody s_rises) (defScope s_rises) .none kV5 dc5 pm5 an5 cd5 ct5), sl5⟩) (c5 : PySem.W.codeIn K cd5 "rises" = true) (k5 : PySem.W.keepIn K (.ref f5) = true)
    (a6 : PySem.W.nsIn K mainGlobals "settings_rise" = some (some (.ref f6))) (l6 : K.lookup f6 = some ⟨oc6, od6, .func (PySem.W.fnOf "settings_rise" "settings_rise" (defArgs s_settings_rise) (defBody s_settings_rise) (defScope s_settings_rise) .none kV6 dc6 pm6 an6 cd6 ct6), sl6⟩) (c6 : PySem.W.codeIn K cd6 "settings_rise" = true) (k6 : PySem.W.keepIn K (.ref f6) = true)
    (a7 : PySem.W.nsIn K mainGlobals "lot_of" = some (some (.ref f7))) (l7 : K.lookup f7 = some ⟨oc7, od7, .func (PySem.W.fnOf "lot_of" "lot_of" (defArgs s_lot_of) (defBody s_lot_of) (defScope s_lot_of) .none kV7 dc7 pm7 an7 cd7 ct7), sl7⟩) (c7 : PySem.W.codeIn K cd7 "lot_of" = true) (k7 : PySem.W.keepIn K (.ref f7) = true)
    (a8 : PySem.W.nsIn K mainGlobals "made_lot" = some (some (.ref f8))) (l8 : K.lookup f8 = some ⟨oc8, od8, .func (PySem.W.fnOf "made_lot" "made_lot" (defArgs s_made_lot) (defBody s_made_lot) (defScope s_made_lot) .none kV8 dc8 pm8 an8 cd8 ct8), sl8⟩) (c8 : PySem.W.codeIn K cd8 "made_lot" = true) (k8 : PySem.W.keepIn K (.ref f8) = true)
    (a9 : PySem.W.nsIn K mainGlobals "plain_pair" = some (some (.ref f9))) (l9 : K.lookup f9 = some ⟨oc9, od9, .func (PySem.W.fnOf "plain_pair" "plain_pair" (defArgs s_plain_pair) (defBody s_plain_pair) (defScope s_plain_pair) .none kV9 dc9 pm9 an9 cd9 ct9), sl9⟩) (c9 : PySem.W.codeIn K cd9 "plain_pair" = true) (k9 : PySem.W.keepIn K (.ref f9) = true)
    (a10 : PySem.W.nsIn K mainGlobals "worth_of" = some (some (.ref f10))) (l10 : K.lookup f10 = some ⟨oc10, od10, .func (PySem.W.fnOf "worth_of" "worth_of" (defArgs s_worth_of) (defBody s_worth_of) (defScope s_worth_of) .none kV10 dc10 pm10 an10 cd10 ct10), sl10⟩) (c10 : PySem.W.codeIn K cd10 "worth_of" = true) (k10 : PySem.W.keepIn K (.ref f10) = true)
    (a11 : PySem.W.nsIn K mainGlobals "has_worth" = some (some (.ref f11))) (l11 : K.lookup f11 = some ⟨oc11, od11, .func (PySem.W.fnOf "has_worth" "has_worth" (defArgs s_has_worth) (defBody s_has_worth) (defScope s_has_worth) .none kV11 dc11 pm11 an11 cd11 ct11), sl11⟩) (c11 : PySem.W.codeIn K cd11 "has_worth" = true) (k11 : PySem.W.keepIn K (.ref f11) = true)
    (a12 : PySem.W.nsIn K mainGlobals "plain_number" = some (some (.ref f12))) (l12 : K.lookup f12 = some ⟨oc12, od12, .func (PySem.W.fnOf "plain_number" "plain_number" (defArgs s_plain_number) (defBody s_plain_number) (defScope s_plain_number) .none kV12 dc12 pm12 an12 cd12 ct12), sl12⟩) (c12 : PySem.W.codeIn K cd12 "plain_number" = true) (k12 : PySem.W.keepIn K (.ref f12) = true)
    (a13 : PySem.W.nsIn K mainGlobals "house_number" = some (some (.ref f13))) (l13 : K.lookup f13 = some ⟨oc13, od13, .func (PySem.W.fnOf "house_number" "house_number" (defArgs s_house_number) (defBody s_house_number) (defScope s_house_number) .none kV13 dc13 pm13 an13 cd13 ct13), sl13⟩) (c13 : PySem.W.codeIn K cd13 "house_number" = true) (k13 : PySem.W.keepIn K (.ref f13) = true)
    (a14 : PySem.W.nsIn K mainGlobals "plain_stamp" = some (some (.ref f14))) (l14 : K.lookup f14 = some ⟨oc14, od14, .func (PySem.W.fnOf "plain_stamp" "plain_stamp" (defArgs s_plain_stamp) (defBody s_plain_stamp) (defScope s_plain_stamp) .none kV14 dc14 pm14 an14 cd14 ct14), sl14⟩) (c14 : PySem.W.codeIn K cd14 "plain_stamp" = true) (k14 : PySem.W.keepIn K (.ref f14) = true)
    (a15 : PySem.W.nsIn K mainGlobals "entry_of" = some (some (.ref f15))) (l15 : K.lookup f15 = some ⟨oc15, od15, .func (PySem.W.fnOf "entry_of" "entry_of" (defArgs s_entry_of) (defBody s_entry_of) (defScope s_entry_of) .none kV15 dc15 pm15 an15 cd15 ct15), sl15⟩) (c15 : PySem.W.codeIn K cd15 "entry_of" = true) (k15 : PySem.W.keepIn K (.ref f15) = true)
    (a16 : PySem.W.nsIn K mainGlobals "must_be_row" = some (some (.ref f16))) (l16 : K.lookup f16 = some ⟨oc16, od16, .func (PySem.W.fnOf "must_be_row" "must_be_row" (defArgs s_must_be_row) (defBody s_must_be_row) (defScope s_must_be_row) .none kV16 dc16 pm16 an16 cd16 ct16), sl16⟩) (c16 : PySem.W.codeIn K cd16 "must_be_row" = true) (k16 : PySem.W.keepIn K (.ref f16) = true)
    (a17 : PySem.W.nsIn K mainGlobals "made_row" = some (some (.ref f17))) (l17 : K.lookup f17 = some ⟨oc17, od17, .func (PySem.W.fnOf "made_row" "made_row" (defArgs s_made_row) (defBody s_made_row) (defScope s_made_row) .none kV17 dc17 pm17 an17 cd17 ct17), sl17⟩) (c17 : PySem.W.codeIn K cd17 "made_row" = true) (k17 : PySem.W.keepIn K (.ref f17) = true)
    (a18 : PySem.W.nsIn K mainGlobals "must_be_letter" = some (some (.ref f18))) (l18 : K.lookup f18 = some ⟨oc18, od18, .func (PySem.W.fnOf "must_be_letter" "must_be_letter" (defArgs s_must_be_letter) (defBody s_must_be_letter) (defScope s_must_be_letter) .none kV18 dc18 pm18 an18 cd18 ct18), sl18⟩) (c18 : PySem.W.codeIn K cd18 "must_be_letter" = true) (k18 : PySem.W.keepIn K (.ref f18) = true)
    (a19 : PySem.W.nsIn K mainGlobals "made_letter" = some (some (.ref f19))) (l19 : K.lookup f19 = some ⟨oc19, od19, .func (PySem.W.fnOf "made_letter" "made_letter" (defArgs s_made_letter) (defBody s_made_letter) (defScope s_made_letter) .none kV19 dc19 pm19 an19 cd19 ct19), sl19⟩) (c19 : PySem.W.codeIn K cd19 "made_letter" = true) (k19 : PySem.W.keepIn K (.ref f19) = true)
    (a20 : PySem.W.nsIn K mainGlobals "_law_take" = some (some (.ref f20))) (l20 : K.lookup f20 = some ⟨oc20, od20, .func (PySem.W.fnOf "_law_take" "_law_take" (defArgs s_ltake) (defBody s_ltake) (defScope s_ltake) .none kV20 dc20 pm20 an20 cd20 ct20), sl20⟩) (c20 : PySem.W.codeIn K cd20 "_law_take" = true) (k20 : PySem.W.keepIn K (.ref f20) = true)
    (a21 : PySem.W.nsIn K mainGlobals "_law_one" = some (some (.ref f21))) (l21 : K.lookup f21 = some ⟨oc21, od21, .func (PySem.W.fnOf "_law_one" "_law_one" (defArgs s_lone) (defBody s_lone) (defScope s_lone) .none kV21 dc21 pm21 an21 cd21 ct21), sl21⟩) (c21 : PySem.W.codeIn K cd21 "_law_one" = true) (k21 : PySem.W.keepIn K (.ref f21) = true)
    (a22 : PySem.W.nsIn K mainGlobals "_law_heard" = some (some (.ref f22))) (l22 : K.lookup f22 = some ⟨oc22, od22, .func (PySem.W.fnOf "_law_heard" "_law_heard" (defArgs s_lheard) (defBody s_lheard) (defScope s_lheard) .none kV22 dc22 pm22 an22 cd22 ct22), sl22⟩) (c22 : PySem.W.codeIn K cd22 "_law_heard" = true) (k22 : PySem.W.keepIn K (.ref f22) = true)
    (a23 : PySem.W.nsIn K mainGlobals "_law_sizes_right" = some (some (.ref f23))) (l23 : K.lookup f23 = some ⟨oc23, od23, .func (PySem.W.fnOf "_law_sizes_right" "_law_sizes_right" (defArgs s_lsizes_right) (defBody s_lsizes_right) (defScope s_lsizes_right) .none kV23 dc23 pm23 an23 cd23 ct23), sl23⟩) (c23 : PySem.W.codeIn K cd23 "_law_sizes_right" = true) (k23 : PySem.W.keepIn K (.ref f23) = true)
    (a24 : PySem.W.nsIn K mainGlobals "_law_is_below" = some (some (.ref f24))) (l24 : K.lookup f24 = some ⟨oc24, od24, .func (PySem.W.fnOf "_law_is_below" "_law_is_below" (defArgs s_lis_below) (defBody s_lis_below) (defScope s_lis_below) .none kV24 dc24 pm24 an24 cd24 ct24), sl24⟩) (c24 : PySem.W.codeIn K cd24 "_law_is_below" = true) (k24 : PySem.W.keepIn K (.ref f24) = true)
    (a25 : PySem.W.nsIn K mainGlobals "_law_is_stamp" = some (some (.ref f25))) (l25 : K.lookup f25 = some ⟨oc25, od25, .func (PySem.W.fnOf "_law_is_stamp" "_law_is_stamp" (defArgs s_lis_stamp) (defBody s_lis_stamp) (defScope s_lis_stamp) .none kV25 dc25 pm25 an25 cd25 ct25), sl25⟩) (c25 : PySem.W.codeIn K cd25 "_law_is_stamp" = true) (k25 : PySem.W.keepIn K (.ref f25) = true)
    (a26 : PySem.W.nsIn K mainGlobals "_law_is_entry" = some (some (.ref f26))) (l26 : K.lookup f26 = some ⟨oc26, od26, .func (PySem.W.fnOf "_law_is_entry" "_law_is_entry" (defArgs s_lis_entry) (defBody s_lis_entry) (defScope s_lis_entry) .none kV26 dc26 pm26 an26 cd26 ct26), sl26⟩) (c26 : PySem.W.codeIn K cd26 "_law_is_entry" = true) (k26 : PySem.W.keepIn K (.ref f26) = true)
    (a27 : PySem.W.nsIn K mainGlobals "_law_is_lot" = some (some (.ref f27))) (l27 : K.lookup f27 = some ⟨oc27, od27, .func (PySem.W.fnOf "_law_is_lot" "_law_is_lot" (defArgs s_lis_lot) (defBody s_lis_lot) (defScope s_lis_lot) .none kV27 dc27 pm27 an27 cd27 ct27), sl27⟩) (c27 : PySem.W.codeIn K cd27 "_law_is_lot" = true) (k27 : PySem.W.keepIn K (.ref f27) = true)
    (a28 : PySem.W.nsIn K mainGlobals "_law_row_due" = some (some (.ref f28))) (l28 : K.lookup f28 = some ⟨oc28, od28, .func (PySem.W.fnOf "_law_row_due" "_law_row_due" (defArgs s_lrow_due) (defBody s_lrow_due) (defScope s_lrow_due) .none kV28 dc28 pm28 an28 cd28 ct28), sl28⟩) (c28 : PySem.W.codeIn K cd28 "_law_row_due" = true) (k28 : PySem.W.keepIn K (.ref f28) = true)
    (a29 : PySem.W.nsIn K mainGlobals "_law_bent_lot" = some (some (.ref f29))) (l29 : K.lookup f29 = some ⟨oc29, od29, .func (PySem.W.fnOf "_law_bent_lot" "_law_bent_lot" (defArgs s_lbent_lot) (defBody s_lbent_lot) (defScope s_lbent_lot) .none kV29 dc29 pm29 an29 cd29 ct29), sl29⟩) (c29 : PySem.W.codeIn K cd29 "_law_bent_lot" = true) (k29 : PySem.W.keepIn K (.ref f29) = true)
    (a30 : PySem.W.nsIn K mainGlobals "_law_bent_entry" = some (some (.ref f30))) (l30 : K.lookup f30 = some ⟨oc30, od30, .func (PySem.W.fnOf "_law_bent_entry" "_law_bent_entry" (defArgs s_lbent_entry) (defBody s_lbent_entry) (defScope s_lbent_entry) .none kV30 dc30 pm30 an30 cd30 ct30), sl30⟩) (c30 : PySem.W.codeIn K cd30 "_law_bent_entry" = true) (k30 : PySem.W.keepIn K (.ref f30) = true)
    (a31 : PySem.W.nsIn K mainGlobals "_law_bent_entries" = some (some (.ref f31))) (l31 : K.lookup f31 = some ⟨oc31, od31, .func (PySem.W.fnOf "_law_bent_entries" "_law_bent_entries" (defArgs s_lbent_entries) (defBody s_lbent_entries) (defScope s_lbent_entries) .none kV31 dc31 pm31 an31 cd31 ct31), sl31⟩) (c31 : PySem.W.codeIn K cd31 "_law_bent_entries" = true) (k31 : PySem.W.keepIn K (.ref f31) = true)
    (a32 : PySem.W.nsIn K mainGlobals "_law_drawn_stamp" = some (some (.ref f32))) (l32 : K.lookup f32 = some ⟨oc32, od32, .func (PySem.W.fnOf "_law_drawn_stamp" "_law_drawn_stamp" (defArgs s_ldrawn_stamp) (defBody s_ldrawn_stamp) (defScope s_ldrawn_stamp) .none kV32 dc32 pm32 an32 cd32 ct32), sl32⟩) (c32 : PySem.W.codeIn K cd32 "_law_drawn_stamp" = true) (k32 : PySem.W.keepIn K (.ref f32) = true)
    (a33 : PySem.W.nsIn K mainGlobals "_law_drawn_entries" = some (some (.ref f33))) (l33 : K.lookup f33 = some ⟨oc33, od33, .func (PySem.W.fnOf "_law_drawn_entries" "_law_drawn_entries" (defArgs s_ldrawn_entries) (defBody s_ldrawn_entries) (defScope s_ldrawn_entries) .none kV33 dc33 pm33 an33 cd33 ct33), sl33⟩) (c33 : PySem.W.codeIn K cd33 "_law_drawn_entries" = true) (k33 : PySem.W.keepIn K (.ref f33) = true)
    (a34 : PySem.W.nsIn K mainGlobals "_law_some" = some (some (.ref f34))) (l34 : K.lookup f34 = some ⟨oc34, od34, .func (PySem.W.fnOf "_law_some" "_law_some" (defArgs s_lsome) (defBody s_lsome) (defScope s_lsome) .none kV34 dc34 pm34 an34 cd34 ct34), sl34⟩) (c34 : PySem.W.codeIn K cd34 "_law_some" = true) (k34 : PySem.W.keepIn K (.ref f34) = true)
    (a35 : PySem.W.nsIn K mainGlobals "_law_drawn_lot" = some (some (.ref f35))) (l35 : K.lookup f35 = some ⟨oc35, od35, .func (PySem.W.fnOf "_law_drawn_lot" "_law_drawn_lot" (defArgs s_ldrawn_lot) (defBody s_ldrawn_lot) (defScope s_ldrawn_lot) .none kV35 dc35 pm35 an35 cd35 ct35), sl35⟩) (c35 : PySem.W.codeIn K cd35 "_law_drawn_lot" = true) (k35 : PySem.W.keepIn K (.ref f35) = true)
    (a36 : PySem.W.nsIn K mainGlobals "_law_rows_right" = some (some (.ref f36))) (l36 : K.lookup f36 = some ⟨oc36, od36, .func (PySem.W.fnOf "_law_rows_right" "_law_rows_right" (defArgs s_lrows_right) (defBody s_lrows_right) (defScope s_lrows_right) .none kV36 dc36 pm36 an36 cd36 ct36), sl36⟩) (c36 : PySem.W.codeIn K cd36 "_law_rows_right" = true) (k36 : PySem.W.keepIn K (.ref f36) = true)
    (a37 : PySem.W.nsIn K mainGlobals "_law_letter_due" = some (some (.ref f37))) (l37 : K.lookup f37 = some ⟨oc37, od37, .func (PySem.W.fnOf "_law_letter_due" "_law_letter_due" (defArgs s_lletter_due) (defBody s_lletter_due) (defScope s_lletter_due) .none kV37 dc37 pm37 an37 cd37 ct37), sl37⟩) (c37 : PySem.W.codeIn K cd37 "_law_letter_due" = true) (k37 : PySem.W.keepIn K (.ref f37) = true)
    (a38 : PySem.W.nsIn K mainGlobals "_law_letters_right" = some (some (.ref f38))) (l38 : K.lookup f38 = some ⟨oc38, od38, .func (PySem.W.fnOf "_law_letters_right" "_law_letters_right" (defArgs s_lletters_right) (defBody s_lletters_right) (defScope s_lletters_right) .none kV38 dc38 pm38 an38 cd38 ct38), sl38⟩) (c38 : PySem.W.codeIn K cd38 "_law_letters_right" = true) (k38 : PySem.W.keepIn K (.ref f38) = true)
    (a39 : PySem.W.nsIn K mainGlobals "_law_drawn_sizes" = some (some (.ref f39))) (l39 : K.lookup f39 = some ⟨oc39, od39, .func (PySem.W.fnOf "_law_drawn_sizes" "_law_drawn_sizes" (defArgs s_ldrawn_sizes) (defBody s_ldrawn_sizes) (defScope s_ldrawn_sizes) .none kV39 dc39 pm39 an39 cd39 ct39), sl39⟩) (c39 : PySem.W.codeIn K cd39 "_law_drawn_sizes" = true) (k39 : PySem.W.keepIn K (.ref f39) = true)
    (a40 : PySem.W.nsIn K mainGlobals "_law_pool" = some (some (.ref f40))) (l40 : K.lookup f40 = some ⟨oc40, od40, .func (PySem.W.fnOf "_law_pool" "_law_pool" (defArgs s_lpool) (defBody s_lpool) (defScope s_lpool) .none kV40 dc40 pm40 an40 cd40 ct40), sl40⟩) (c40 : PySem.W.codeIn K cd40 "_law_pool" = true) (k40 : PySem.W.keepIn K (.ref f40) = true)
    (a41 : PySem.W.nsIn K mainGlobals "law" = some (some (.ref f41))) (l41 : K.lookup f41 = some ⟨oc41, od41, .func (PySem.W.fnOf "law" "law" (defArgs s_law) (defBody s_law) (defScope s_law) .none kV41 dc41 pm41 an41 cd41 ct41), sl41⟩) (c41 : PySem.W.codeIn K cd41 "law" = true) (k41 : PySem.W.keepIn K (.ref f41) = true)
    {q : Program}
    {cc23 pp23 : Addr} {ee23 : Value} {dq23 : Option Addr} {vq23 : Array Value} {sq23 : Array (Option Value)}
    {cc36 pp36 : Addr} {ee36 : Value} {dq36 : Option Addr} {vq36 : Array Value} {sq36 : Array (Option Value)}
    {cc38 pp38 : Addr} {ee38 : Value} {dq38 : Option Addr} {vq38 : Array Value} {sq38 : Array (Option Value)}
    (cst_MOST_WORTHS : PySem.W.nsIn K mainGlobals "MOST_WORTHS" = some (some (.int (6) tk_MOST_WORTHS)))
    (cst_MOST_SETTINGS : PySem.W.nsIn K mainGlobals "MOST_SETTINGS" = some (some (.int (24) tk_MOST_SETTINGS)))
    (cst_MOST_HOUSE : PySem.W.nsIn K mainGlobals "MOST_HOUSE" = some (some (.int (99) tk_MOST_HOUSE)))
    (na_BadSizes : PySem.W.nsIn K mainGlobals "BadSizes" = some (some (.ref k_BadSizes)))
    (na_BadLot : PySem.W.nsIn K mainGlobals "BadLot" = some (some (.ref k_BadLot)))
    (na_BadRow : PySem.W.nsIn K mainGlobals "BadRow" = some (some (.ref k_BadRow)))
    (na_BadLetter : PySem.W.nsIn K mainGlobals "BadLetter" = some (some (.ref k_BadLetter)))
    (na_Refused : PySem.W.nsIn K mainGlobals "Refused" = some (some (.ref k_Refused)))
    (xl_BadSizes : K.lookup k_BadSizes = some (excClassObj nm_BadSizes qq_BadSizes k_BadSizes NN_BadSizes bs_BadSizes bm_BadSizes true sn_BadSizes sub_BadSizes ab_BadSizes col_BadSizes dd_BadSizes m0_BadSizes m1_BadSizes m2_BadSizes m3_BadSizes m5_BadSizes "ValueError.__new__"))
    (rf_BadSizes : PySem.HandSPX.refsVE bm_BadSizes = true)
    (sa_BadSizes : PySem.W.findIn K (.ref k_BadSizes) "__setattr__" = some (some (.builtin "object.__setattr__")))
    (eb_BadSizes : PySem.W.subIn K (.ref k_BadSizes) (.type "BaseException") = some true)
    (ty_BadSizes : PySem.W.typeIn K (.ref k_BadSizes) = some (.type "type"))
    (kp_BadSizes : PySem.W.keepIn K (.ref k_BadSizes) = true)
    (nw_BadSizes : PySem.W.findIn K (.ref k_BadSizes) "what" = some none)
    (in_BadSizes : PySem.W.findIn K (.ref k_BadSizes) "__init__" = some (some (.ref kI)))
    (ga_BadSizes : PySem.W.findIn K (.ref k_BadSizes) "__getattribute__" = some (some (.builtin "BaseException.__getattribute__")))
    (gg_BadSizes : PySem.W.findIn K (.ref k_BadSizes) "__getattr__" = some none)
    (hd_BadSizes : PySem.W.hasDictIn K k_BadSizes = true)
    (ca_BadSizes : PySem.W.findIn K (.ref k_BadSizes) "__class__" = some (some (.builtin "object.__class__")))
    (mr_BadSizes : PySem.W.mroIn K k_BadSizes (.type "object") = some true)
    (sv_BadSizes : PySem.W.subIn K (.ref k_BadSizes) (.type "ValueError") = some true)
    (sb_BadSizes_Refused : PySem.W.subIn K (.ref k_BadSizes) (.ref k_Refused) = some true)
    (sb_BadSizes_BadLetter : PySem.W.subIn K (.ref k_BadSizes) (.ref k_BadLetter) = some false)
    (sb_BadSizes_BadRow : PySem.W.subIn K (.ref k_BadSizes) (.ref k_BadRow) = some false)
    (sb_BadSizes_BadLot : PySem.W.subIn K (.ref k_BadSizes) (.ref k_BadLot) = some false)
    (sb_BadSizes_BadSizes : PySem.W.subIn K (.ref k_BadSizes) (.ref k_BadSizes) = some true)
    (xl_BadLot : K.lookup k_BadLot = some (excClassObj nm_BadLot qq_BadLot k_BadLot NN_BadLot bs_BadLot bm_BadLot true sn_BadLot sub_BadLot ab_BadLot col_BadLot dd_BadLot m0_BadLot m1_BadLot m2_BadLot m3_BadLot m5_BadLot "ValueError.__new__"))
    (rf_BadLot : PySem.HandSPX.refsVE bm_BadLot = true)
    (sa_BadLot : PySem.W.findIn K (.ref k_BadLot) "__setattr__" = some (some (.builtin "object.__setattr__")))
    (eb_BadLot : PySem.W.subIn K (.ref k_BadLot) (.type "BaseException") = some true)
    (ty_BadLot : PySem.W.typeIn K (.ref k_BadLot) = some (.type "type"))
    (kp_BadLot : PySem.W.keepIn K (.ref k_BadLot) = true)
    (nw_BadLot : PySem.W.findIn K (.ref k_BadLot) "what" = some none)
    (in_BadLot : PySem.W.findIn K (.ref k_BadLot) "__init__" = some (some (.ref kI)))
    (ga_BadLot : PySem.W.findIn K (.ref k_BadLot) "__getattribute__" = some (some (.builtin "BaseException.__getattribute__")))
    (gg_BadLot : PySem.W.findIn K (.ref k_BadLot) "__getattr__" = some none)
    (hd_BadLot : PySem.W.hasDictIn K k_BadLot = true)
    (ca_BadLot : PySem.W.findIn K (.ref k_BadLot) "__class__" = some (some (.builtin "object.__class__")))
    (mr_BadLot : PySem.W.mroIn K k_BadLot (.type "object") = some true)
    (sv_BadLot : PySem.W.subIn K (.ref k_BadLot) (.type "ValueError") = some true)
    (sb_BadLot_Refused : PySem.W.subIn K (.ref k_BadLot) (.ref k_Refused) = some true)
    (sb_BadLot_BadLetter : PySem.W.subIn K (.ref k_BadLot) (.ref k_BadLetter) = some false)
    (sb_BadLot_BadRow : PySem.W.subIn K (.ref k_BadLot) (.ref k_BadRow) = some false)
    (sb_BadLot_BadLot : PySem.W.subIn K (.ref k_BadLot) (.ref k_BadLot) = some true)
    (sb_BadLot_BadSizes : PySem.W.subIn K (.ref k_BadLot) (.ref k_BadSizes) = some false)
    (xl_BadRow : K.lookup k_BadRow = some (excClassObj nm_BadRow qq_BadRow k_BadRow NN_BadRow bs_BadRow bm_BadRow true sn_BadRow sub_BadRow ab_BadRow col_BadRow dd_BadRow m0_BadRow m1_BadRow m2_BadRow m3_BadRow m5_BadRow "ValueError.__new__"))
    (rf_BadRow : PySem.HandSPX.refsVE bm_BadRow = true)
    (sa_BadRow : PySem.W.findIn K (.ref k_BadRow) "__setattr__" = some (some (.builtin "object.__setattr__")))
    (eb_BadRow : PySem.W.subIn K (.ref k_BadRow) (.type "BaseException") = some true)
    (ty_BadRow : PySem.W.typeIn K (.ref k_BadRow) = some (.type "type"))
    (kp_BadRow : PySem.W.keepIn K (.ref k_BadRow) = true)
    (nw_BadRow : PySem.W.findIn K (.ref k_BadRow) "what" = some none)
    (in_BadRow : PySem.W.findIn K (.ref k_BadRow) "__init__" = some (some (.ref kI)))
    (ga_BadRow : PySem.W.findIn K (.ref k_BadRow) "__getattribute__" = some (some (.builtin "BaseException.__getattribute__")))
    (gg_BadRow : PySem.W.findIn K (.ref k_BadRow) "__getattr__" = some none)
    (hd_BadRow : PySem.W.hasDictIn K k_BadRow = true)
    (ca_BadRow : PySem.W.findIn K (.ref k_BadRow) "__class__" = some (some (.builtin "object.__class__")))
    (mr_BadRow : PySem.W.mroIn K k_BadRow (.type "object") = some true)
    (sv_BadRow : PySem.W.subIn K (.ref k_BadRow) (.type "ValueError") = some true)
    (sb_BadRow_Refused : PySem.W.subIn K (.ref k_BadRow) (.ref k_Refused) = some true)
    (sb_BadRow_BadLetter : PySem.W.subIn K (.ref k_BadRow) (.ref k_BadLetter) = some false)
    (sb_BadRow_BadRow : PySem.W.subIn K (.ref k_BadRow) (.ref k_BadRow) = some true)
    (sb_BadRow_BadLot : PySem.W.subIn K (.ref k_BadRow) (.ref k_BadLot) = some false)
    (sb_BadRow_BadSizes : PySem.W.subIn K (.ref k_BadRow) (.ref k_BadSizes) = some false)
    (xl_BadLetter : K.lookup k_BadLetter = some (excClassObj nm_BadLetter qq_BadLetter k_BadLetter NN_BadLetter bs_BadLetter bm_BadLetter true sn_BadLetter sub_BadLetter ab_BadLetter col_BadLetter dd_BadLetter m0_BadLetter m1_BadLetter m2_BadLetter m3_BadLetter m5_BadLetter "ValueError.__new__"))
    (rf_BadLetter : PySem.HandSPX.refsVE bm_BadLetter = true)
    (sa_BadLetter : PySem.W.findIn K (.ref k_BadLetter) "__setattr__" = some (some (.builtin "object.__setattr__")))
    (eb_BadLetter : PySem.W.subIn K (.ref k_BadLetter) (.type "BaseException") = some true)
    (ty_BadLetter : PySem.W.typeIn K (.ref k_BadLetter) = some (.type "type"))
    (kp_BadLetter : PySem.W.keepIn K (.ref k_BadLetter) = true)
    (nw_BadLetter : PySem.W.findIn K (.ref k_BadLetter) "what" = some none)
    (in_BadLetter : PySem.W.findIn K (.ref k_BadLetter) "__init__" = some (some (.ref kI)))
    (ga_BadLetter : PySem.W.findIn K (.ref k_BadLetter) "__getattribute__" = some (some (.builtin "BaseException.__getattribute__")))
    (gg_BadLetter : PySem.W.findIn K (.ref k_BadLetter) "__getattr__" = some none)
    (hd_BadLetter : PySem.W.hasDictIn K k_BadLetter = true)
    (ca_BadLetter : PySem.W.findIn K (.ref k_BadLetter) "__class__" = some (some (.builtin "object.__class__")))
    (mr_BadLetter : PySem.W.mroIn K k_BadLetter (.type "object") = some true)
    (sv_BadLetter : PySem.W.subIn K (.ref k_BadLetter) (.type "ValueError") = some true)
    (sb_BadLetter_Refused : PySem.W.subIn K (.ref k_BadLetter) (.ref k_Refused) = some true)
    (sb_BadLetter_BadLetter : PySem.W.subIn K (.ref k_BadLetter) (.ref k_BadLetter) = some true)
    (sb_BadLetter_BadRow : PySem.W.subIn K (.ref k_BadLetter) (.ref k_BadRow) = some false)
    (sb_BadLetter_BadLot : PySem.W.subIn K (.ref k_BadLetter) (.ref k_BadLot) = some false)
    (sb_BadLetter_BadSizes : PySem.W.subIn K (.ref k_BadLetter) (.ref k_BadSizes) = some false)
    (hb_Refused : PySem.W.subIn K (.ref k_Refused) (.type "BaseException") = some true)
    (hc_Refused : PySem.W.isClsIn K k_Refused = true)
    (ht_Refused : PySem.W.typeIn K (.ref k_Refused) = some (.type "type"))
    (hs_Refused : PySem.W.subIn K (.ref k_Refused) (.ref k_Refused) = some true)
    (hb_BadLetter : PySem.W.subIn K (.ref k_BadLetter) (.type "BaseException") = some true)
    (hc_BadLetter : PySem.W.isClsIn K k_BadLetter = true)
    (ht_BadLetter : PySem.W.typeIn K (.ref k_BadLetter) = some (.type "type"))
    (hs_BadLetter : PySem.W.subIn K (.ref k_BadLetter) (.ref k_BadLetter) = some true)
    (hb_BadRow : PySem.W.subIn K (.ref k_BadRow) (.type "BaseException") = some true)
    (hc_BadRow : PySem.W.isClsIn K k_BadRow = true)
    (ht_BadRow : PySem.W.typeIn K (.ref k_BadRow) = some (.type "type"))
    (hs_BadRow : PySem.W.subIn K (.ref k_BadRow) (.ref k_BadRow) = some true)
    (hb_BadLot : PySem.W.subIn K (.ref k_BadLot) (.type "BaseException") = some true)
    (hc_BadLot : PySem.W.isClsIn K k_BadLot = true)
    (ht_BadLot : PySem.W.typeIn K (.ref k_BadLot) = some (.type "type"))
    (hs_BadLot : PySem.W.subIn K (.ref k_BadLot) (.ref k_BadLot) = some true)
    (hb_BadSizes : PySem.W.subIn K (.ref k_BadSizes) (.type "BaseException") = some true)
    (hc_BadSizes : PySem.W.isClsIn K k_BadSizes = true)
    (ht_BadSizes : PySem.W.typeIn K (.ref k_BadSizes) = some (.type "type"))
    (hs_BadSizes : PySem.W.subIn K (.ref k_BadSizes) (.ref k_BadSizes) = some true)
    (spn : PySem.W.specialIn K (.builtin "object.__class__") "__get__" = some (some (.builtin "getset_descriptor.__get__")))
    (tkn : PySem.W.takesIn K (.builtin "object.__class__") = some true)
    (tI : PySem.W.typeIn K (.ref kI) = some (.type "function"))
    (lI : K.lookup kI = some ⟨ocI, odI, .func (PySem.W.fnOf "__init__" "Refused.__init__" (defArgs s_init) (defBody s_init) (defScope s_init) .none kVI dcI pmI anI cdI ctI), slI⟩)
    (cI : PySem.W.codeIn K cdI "Refused.__init__" = true)
    (kI2 : PySem.W.keepIn K (.ref kI) = true)
    (z_type : PySem.W.nsIn K mainGlobals "type" = some none)
    (z_int : PySem.W.nsIn K mainGlobals "int" = some none)
    (z_isinstance : PySem.W.nsIn K mainGlobals "isinstance" = some none)
    (z_tuple : PySem.W.nsIn K mainGlobals "tuple" = some none)
    (z_len : PySem.W.nsIn K mainGlobals "len" = some none)
    (z_enumerate : PySem.W.nsIn K mainGlobals "enumerate" = some none)
    (z_zip : PySem.W.nsIn K mainGlobals "zip" = some none)
    (z_all : PySem.W.nsIn K mainGlobals "all" = some none)
    (z_repr : PySem.W.nsIn K mainGlobals "repr" = some none)
    (z_bool : PySem.W.nsIn K mainGlobals "bool" = some none)
    (z_range : PySem.W.nsIn K mainGlobals "range" = some none)
    (z_min : PySem.W.nsIn K mainGlobals "min" = some none)
    (z_max : PySem.W.nsIn K mainGlobals "max" = some none)
    (own : ∀ r ∈ recsOf q, ∀ fb, mg r.name = some (.ref fb) → LamX.OwnTab K fb h)
    (q23 : cd23 = .ref cc23)
    (d23 : K.lookup cc23 = some ⟨ee23, dq23, .fields vq23, sq23⟩)
    (v23 : vq23[11]? = some (.ref pp23))
    (hh23 : PySem.W.codeHdIn K cc23 pp23 = true)
    (oo23 : K.lookup pp23 = none)
    (r23 : ((recsOf q).any fun e => e.name == ("_law_sizes_right" : Str)) = true)
    (q36 : cd36 = .ref cc36)
    (d36 : K.lookup cc36 = some ⟨ee36, dq36, .fields vq36, sq36⟩)
    (v36 : vq36[11]? = some (.ref pp36))
    (hh36 : PySem.W.codeHdIn K cc36 pp36 = true)
    (oo36 : K.lookup pp36 = none)
    (r36 : ((recsOf q).any fun e => e.name == ("_law_rows_right" : Str)) = true)
    (q38 : cd38 = .ref cc38)
    (d38 : K.lookup cc38 = some ⟨ee38, dq38, .fields vq38, sq38⟩)
    (v38 : vq38[11]? = some (.ref pp38))
    (hh38 : PySem.W.codeHdIn K cc38 pp38 = true)
    (oo38 : K.lookup pp38 = none)
    (r38 : ((recsOf q).any fun e => e.name == ("_law_letters_right" : Str)) = true)
    (ne36_23 : pp36 ≠ pp23)
    (ne38_23 : pp38 ≠ pp23)
    (ne38_36 : pp38 ≠ pp36)
    : ∃ (T : HasT) (cs : List (Addr × Addr)) (fd : FuncData), TabsAt K h T cs ∧ (∀ (s : Shared) (v : Value), BindsTo s fd ⟨[v], []⟩ [("script", v)]) ∧ ∀ base : Heap, K.In base → base.Ns mainGlobals mg → (∀ p ∈ cs, LamX.TabB base mg p.1 p.2) → FnG l.prog w K mg base CX0 10 fa fd ["script"] (spL K sp_law) := by
  have e := hfa.symm.trans (PySem.W.mg_of X G a41)
  cases e
  have F0 := fun_mk (st := s_number_within) l0 c0 k0
  have B0 := F0.binds (ps := ["thing", "low", "high"]) fun _ _ _ _ _ _ us hl => match us, hl with | [_, _, _], _ => rfl
  have F1 := fun_mk (st := s_tuple_sized) l1 c1 k1
  have B1 := F1.binds (ps := ["thing", "low", "high"]) fun _ _ _ _ _ _ us hl => match us, hl with | [_, _, _], _ => rfl
  have F2 := fun_mk (st := s_sizes_fault) l2 c2 k2
  have B2 := F2.binds (ps := ["thing"]) fun _ _ _ _ _ _ us hl => match us, hl with | [_], _ => rfl
  have F3 := fun_mk (st := s_made_sizes) l3 c3 k3
  have B3 := F3.binds (ps := ["thing"]) fun _ _ _ _ _ _ us hl => match us, hl with | [_], _ => rfl
  have F4 := fun_mk (st := s_setting_of) l4 c4 k4
  have B4 := F4.binds (ps := ["sizes", "thing"]) fun _ _ _ _ _ _ us hl => match us, hl with | [_, _], _ => rfl
  have F5 := fun_mk (st := s_rises) l5 c5 k5
  have B5 := F5.binds (ps := ["parts"]) fun _ _ _ _ _ _ us hl => match us, hl with | [_], _ => rfl
  have F6 := fun_mk (st := s_settings_rise) l6 c6 k6
  have B6 := F6.binds (ps := ["sizes", "thing"]) fun _ _ _ _ _ _ us hl => match us, hl with | [_, _], _ => rfl
  have F7 := fun_mk (st := s_lot_of) l7 c7 k7
  have B7 := F7.binds (ps := ["sizes", "thing"]) fun _ _ _ _ _ _ us hl => match us, hl with | [_, _], _ => rfl
  have F8 := fun_mk (st := s_made_lot) l8 c8 k8
  have B8 := F8.binds (ps := ["sizes", "thing"]) fun _ _ _ _ _ _ us hl => match us, hl with | [_, _], _ => rfl
  have F9 := fun_mk (st := s_plain_pair) l9 c9 k9
  have B9 := F9.binds (ps := ["thing"]) fun _ _ _ _ _ _ us hl => match us, hl with | [_], _ => rfl
  have F10 := fun_mk (st := s_worth_of) l10 c10 k10
  have B10 := F10.binds (ps := ["sizes", "setting", "thing"]) fun _ _ _ _ _ _ us hl => match us, hl with | [_, _, _], _ => rfl
  have F11 := fun_mk (st := s_has_worth) l11 c11 k11
  have B11 := F11.binds (ps := ["sizes", "thing"]) fun _ _ _ _ _ _ us hl => match us, hl with | [_, _], _ => rfl
  have F12 := fun_mk (st := s_plain_number) l12 c12 k12
  have B12 := F12.binds (ps := ["thing"]) fun _ _ _ _ _ _ us hl => match us, hl with | [_], _ => rfl
  have F13 := fun_mk (st := s_house_number) l13 c13 k13
  have B13 := F13.binds (ps := ["thing"]) fun _ _ _ _ _ _ us hl => match us, hl with | [_], _ => rfl
  have F14 := fun_mk (st := s_plain_stamp) l14 c14 k14
  have B14 := F14.binds (ps := ["thing"]) fun _ _ _ _ _ _ us hl => match us, hl with | [_], _ => rfl
  have F15 := fun_mk (st := s_entry_of) l15 c15 k15
  have B15 := F15.binds (ps := ["sizes", "thing"]) fun _ _ _ _ _ _ us hl => match us, hl with | [_, _], _ => rfl
  have F16 := fun_mk (st := s_must_be_row) l16 c16 k16
  have B16 := F16.binds (ps := ["sizes", "lot", "thing"]) fun _ _ _ _ _ _ us hl => match us, hl with | [_, _, _], _ => rfl
  have F17 := fun_mk (st := s_made_row) l17 c17 k17
  have B17 := F17.binds (ps := ["sizes", "lot", "thing"]) fun _ _ _ _ _ _ us hl => match us, hl with | [_, _, _], _ => rfl
  have F18 := fun_mk (st := s_must_be_letter) l18 c18 k18
  have B18 := F18.binds (ps := ["sizes", "thing"]) fun _ _ _ _ _ _ us hl => match us, hl with | [_, _], _ => rfl
  have F19 := fun_mk (st := s_made_letter) l19 c19 k19
  have B19 := F19.binds (ps := ["sizes", "thing"]) fun _ _ _ _ _ _ us hl => match us, hl with | [_, _], _ => rfl
  have F20 := fun_mk (st := s_ltake) l20 c20 k20
  have B20 := F20.binds (ps := ["jar", "top"]) fun _ _ _ _ _ _ us hl => match us, hl with | [_, _], _ => rfl
  have F21 := fun_mk (st := s_lone) l21 c21 k21
  have B21 := F21.binds (ps := ["jar", "things"]) fun _ _ _ _ _ _ us hl => match us, hl with | [_, _], _ => rfl
  have F22 := fun_mk (st := s_lheard) l22 c22 k22
  have B22 := F22.binds (ps := ["call"]) fun _ _ _ _ _ _ us hl => match us, hl with | [_], _ => rfl
  have F23 := fun_mk (st := s_lsizes_right) l23 c23 k23
  have B23 := F23.binds (ps := ["jar", "sizes"]) fun _ _ _ _ _ _ us hl => match us, hl with | [_, _], _ => rfl
  have F24 := fun_mk (st := s_lis_below) l24 c24 k24
  have B24 := F24.binds (ps := ["x", "top"]) fun _ _ _ _ _ _ us hl => match us, hl with | [_, _], _ => rfl
  have F25 := fun_mk (st := s_lis_stamp) l25 c25 k25
  have B25 := F25.binds (ps := ["x"]) fun _ _ _ _ _ _ us hl => match us, hl with | [_], _ => rfl
  have F26 := fun_mk (st := s_lis_entry) l26 c26 k26
  have B26 := F26.binds (ps := ["sizes", "x"]) fun _ _ _ _ _ _ us hl => match us, hl with | [_, _], _ => rfl
  have F27 := fun_mk (st := s_lis_lot) l27 c27 k27
  have B27 := F27.binds (ps := ["sizes", "x"]) fun _ _ _ _ _ _ us hl => match us, hl with | [_, _], _ => rfl
  have F28 := fun_mk (st := s_lrow_due) l28 c28 k28
  have B28 := F28.binds (ps := ["sizes", "lot", "thing"]) fun _ _ _ _ _ _ us hl => match us, hl with | [_, _, _], _ => rfl
  have F29 := fun_mk (st := s_lbent_lot) l29 c29 k29
  have B29 := F29.binds (ps := ["jar", "sizes", "lot"]) fun _ _ _ _ _ _ us hl => match us, hl with | [_, _, _], _ => rfl
  have F30 := fun_mk (st := s_lbent_entry) l30 c30 k30
  have B30 := F30.binds (ps := ["jar", "sizes", "entry"]) fun _ _ _ _ _ _ us hl => match us, hl with | [_, _, _], _ => rfl
  have F31 := fun_mk (st := s_lbent_entries) l31 c31 k31
  have B31 := F31.binds (ps := ["jar", "sizes", "entries"]) fun _ _ _ _ _ _ us hl => match us, hl with | [_, _, _], _ => rfl
  have F32 := fun_mk (st := s_ldrawn_stamp) l32 c32 k32
  have B32 := F32.binds (ps := ["jar"]) fun _ _ _ _ _ _ us hl => match us, hl with | [_], _ => rfl
  have F33 := fun_mk (st := s_ldrawn_entries) l33 c33 k33
  have B33 := F33.binds (ps := ["jar", "sizes", "lot"]) fun _ _ _ _ _ _ us hl => match us, hl with | [_, _, _], _ => rfl
  have F34 := fun_mk (st := s_lsome) l34 c34 k34
  have B34 := F34.binds (ps := ["jar", "things"]) fun _ _ _ _ _ _ us hl => match us, hl with | [_, _], _ => rfl
  have F35 := fun_mk (st := s_ldrawn_lot) l35 c35 k35
  have B35 := F35.binds (ps := ["jar", "many"]) fun _ _ _ _ _ _ us hl => match us, hl with | [_, _], _ => rfl
  have F36 := fun_mk (st := s_lrows_right) l36 c36 k36
  have B36 := F36.binds (ps := ["jar", "sizes"]) fun _ _ _ _ _ _ us hl => match us, hl with | [_, _], _ => rfl
  have F37 := fun_mk (st := s_lletter_due) l37 c37 k37
  have B37 := F37.binds (ps := ["sizes", "thing"]) fun _ _ _ _ _ _ us hl => match us, hl with | [_, _], _ => rfl
  have F38 := fun_mk (st := s_lletters_right) l38 c38 k38
  have B38 := F38.binds (ps := ["jar", "sizes"]) fun _ _ _ _ _ _ us hl => match us, hl with | [_, _], _ => rfl
  have F39 := fun_mk (st := s_ldrawn_sizes) l39 c39 k39
  have B39 := F39.binds (ps := ["jar", "most", "high"]) fun _ _ _ _ _ _ us hl => match us, hl with | [_, _, _], _ => rfl
  have F40 := fun_mk (st := s_lpool) l40 c40 k40
  have B40 := F40.binds (ps := ["script", "k"]) fun _ _ _ _ _ _ us hl => match us, hl with | [_, _], _ => rfl
  have F41 := fun_mk (st := s_law) l41 c41 k41
  let T : HasT := ⟨[(pp23, ("_law_sizes_right.<locals>.<lambda>" : Str)), (pp36, ("_law_rows_right.<locals>.<lambda>" : Str)), (pp38, ("_law_letters_right.<locals>.<lambda>" : Str))]⟩
  have W : Bl mg := ⟨PySem.W.mg_none_of X G z_type, PySem.W.mg_none_of X G z_int, PySem.W.mg_none_of X G z_isinstance, PySem.W.mg_none_of X G z_tuple, PySem.W.mg_none_of X G z_len, PySem.W.mg_none_of X G z_enumerate, PySem.W.mg_none_of X G z_zip, PySem.W.mg_none_of X G z_all, PySem.W.mg_none_of X G z_repr, PySem.W.mg_none_of X G z_bool, PySem.W.mg_none_of X G z_range, PySem.W.mg_none_of X G z_min, PySem.W.mg_none_of X G z_max⟩
  have Z : Cst mg := ⟨⟨_, PySem.W.mg_of X G cst_MOST_WORTHS⟩, ⟨_, PySem.W.mg_of X G cst_MOST_SETTINGS⟩, ⟨_, PySem.W.mg_of X G cst_MOST_HOUSE⟩⟩
  let cl : CL := ⟨k_BadSizes, k_BadLot, k_BadRow, k_BadLetter, k_Refused⟩
  have M : Clm mg cl := ⟨PySem.W.mg_of X G na_BadSizes, PySem.W.mg_of X G na_BadLot, PySem.W.mg_of X G na_BadRow, PySem.W.mg_of X G na_BadLetter, PySem.W.mg_of X G na_Refused⟩
  have hC : Clf K cl := ⟨⟨⟨ga_BadSizes, gg_BadSizes, eb_BadSizes, hd_BadSizes⟩, ⟨ga_BadSizes, gg_BadSizes, eb_BadSizes, hd_BadSizes, ca_BadSizes, spn, tkn, mr_BadSizes⟩, nw_BadSizes⟩, ⟨⟨ga_BadLot, gg_BadLot, eb_BadLot, hd_BadLot⟩, ⟨ga_BadLot, gg_BadLot, eb_BadLot, hd_BadLot, ca_BadLot, spn, tkn, mr_BadLot⟩, nw_BadLot⟩, ⟨⟨ga_BadRow, gg_BadRow, eb_BadRow, hd_BadRow⟩, ⟨ga_BadRow, gg_BadRow, eb_BadRow, hd_BadRow, ca_BadRow, spn, tkn, mr_BadRow⟩, nw_BadRow⟩, ⟨⟨ga_BadLetter, gg_BadLetter, eb_BadLetter, hd_BadLetter⟩, ⟨ga_BadLetter, gg_BadLetter, eb_BadLetter, hd_BadLetter, ca_BadLetter, spn, tkn, mr_BadLetter⟩, nw_BadLetter⟩, ⟨hb_Refused, hc_Refused, ht_Refused, hs_Refused⟩, ⟨hb_BadLetter, hc_BadLetter, ht_BadLetter, hs_BadLetter⟩, ⟨hb_BadRow, hc_BadRow, ht_BadRow, hs_BadRow⟩, ⟨hb_BadLot, hc_BadLot, ht_BadLot, hs_BadLot⟩, ⟨hb_BadSizes, hc_BadSizes, ht_BadSizes, hs_BadSizes⟩, sb_BadSizes_Refused, sb_BadSizes_BadLetter, sb_BadSizes_BadRow, sb_BadSizes_BadLot, sb_BadSizes_BadSizes, sv_BadSizes, sb_BadLot_Refused, sb_BadLot_BadLetter, sb_BadLot_BadRow, sb_BadLot_BadLot, sb_BadLot_BadSizes, sv_BadLot, sb_BadRow_Refused, sb_BadRow_BadLetter, sb_BadRow_BadRow, sb_BadRow_BadLot, sb_BadRow_BadSizes, sv_BadRow, sb_BadLetter_Refused, sb_BadLetter_BadLetter, sb_BadLetter_BadRow, sb_BadLetter_BadLot, sb_BadLetter_BadSizes, sv_BadLetter⟩
  have FI := fun_mk (st := s_init) lI cI kI2
  have BI := FI.binds (ps := ["self", "what"]) fun _ _ _ _ _ _ us hl => match us, hl with | [_, _], _ => rfl
  have R_BadSizes : ∀ base : Heap, RaiC l.prog w K mg base "BadSizes" cl.c_BadSizes := fun base => ⟨⟨⟨_, _, _, _, _, _, _, _, _, _, _, _, _, _, _, xl_BadSizes, rf_BadSizes⟩, sa_BadSizes, eb_BadSizes, ty_BadSizes, kp_BadSizes⟩, nw_BadSizes, M.g_BadSizes, _, _, in_BadSizes, tI, ok_initC FI, BI⟩
  have R_BadLot : ∀ base : Heap, RaiC l.prog w K mg base "BadLot" cl.c_BadLot := fun base => ⟨⟨⟨_, _, _, _, _, _, _, _, _, _, _, _, _, _, _, xl_BadLot, rf_BadLot⟩, sa_BadLot, eb_BadLot, ty_BadLot, kp_BadLot⟩, nw_BadLot, M.g_BadLot, _, _, in_BadLot, tI, ok_initC FI, BI⟩
  have R_BadRow : ∀ base : Heap, RaiC l.prog w K mg base "BadRow" cl.c_BadRow := fun base => ⟨⟨⟨_, _, _, _, _, _, _, _, _, _, _, _, _, _, _, xl_BadRow, rf_BadRow⟩, sa_BadRow, eb_BadRow, ty_BadRow, kp_BadRow⟩, nw_BadRow, M.g_BadRow, _, _, in_BadRow, tI, ok_initC FI, BI⟩
  have R_BadLetter : ∀ base : Heap, RaiC l.prog w K mg base "BadLetter" cl.c_BadLetter := fun base => ⟨⟨⟨_, _, _, _, _, _, _, _, _, _, _, _, _, _, _, xl_BadLetter, rf_BadLetter⟩, sa_BadLetter, eb_BadLetter, ty_BadLetter, kp_BadLetter⟩, nw_BadLetter, M.g_BadLetter, _, _, in_BadLetter, tI, ok_initC FI, BI⟩
  have hall : ∀ p ∈ T.T, p.1 ∈ ([(cc23, pp23), (cc36, pp36), (cc38, pp38)] : List (Addr × Addr)).map (·.2) := fun p hp => List.mem_map_of_mem (f := Prod.fst) hp
  have hown : ∀ p ∈ ([(cc23, pp23), (cc36, pp36), (cc38, pp38)] : List (Addr × Addr)), ∃ r ∈ recsOf q, ∃ fb, mg r.name = some (.ref fb) ∧ OwnAt K fb p.1 p.2 := by
    intro p hp
    simp only [List.mem_cons, List.not_mem_nil, or_false] at hp
    rcases hp with rfl | rfl | rfl
    · exact own_mk r23 (PySem.W.mg_of X G a23) ⟨hh23, oo23, ⟨_, _, l23, rfl, q23⟩, ⟨_, _, _, _, d23, v23⟩⟩
    · exact own_mk r36 (PySem.W.mg_of X G a36) ⟨hh36, oo36, ⟨_, _, l36, rfl, q36⟩, ⟨_, _, _, _, d36, v36⟩⟩
    · exact own_mk r38 (PySem.W.mg_of X G a38) ⟨hh38, oo38, ⟨_, _, l38, rfl, q38⟩, ⟨_, _, _, _, d38, v38⟩⟩
  refine ⟨T, [(cc23, pp23), (cc36, pp36), (cc38, pp38)], PySem.W.fnOf "law" "law" (defArgs s_law) (defBody s_law) (defScope s_law) .none kV41 dc41 pm41 an41 cd41 ct41, TabsAt.of X own hown hall, fun s v => .of_eq rfl, fun base _ _ TB => ?_⟩
  have G0 := ok_number_within (P := l.prog) (w := w) (base := base) F0 W 
  have C_number_within : CalG l.prog w K mg base 1 "number_within" sp_number_within := ⟨f0, _, _, G0, PySem.W.mg_of X G a0, F0.kp, B0⟩
  have G1 := ok_tuple_sized (P := l.prog) (w := w) (base := base) F1 W 
  have C_tuple_sized : CalG l.prog w K mg base 1 "tuple_sized" sp_tuple_sized := ⟨f1, _, _, G1, PySem.W.mg_of X G a1, F1.kp, B1⟩
  have G2 := ok_sizes_fault (P := l.prog) (w := w) (base := base) F2 W Z C_number_within C_tuple_sized
  have C_sizes_fault : CalG l.prog w K mg base 2 "sizes_fault" sp_sizes_fault := ⟨f2, _, _, G2, PySem.W.mg_of X G a2, F2.kp, B2⟩
  have G3 := ok_made_sizes (P := l.prog) (w := w) (base := base) F3 W cl M hC C_sizes_fault (R_BadSizes _)
  have C_made_sizes : CalX l.prog w K mg base 3 "made_sizes" (sp_made_sizes cl) := ⟨f3, _, _, G3, PySem.W.mg_of X G a3, F3.kp, B3⟩
  have G4 := ok_setting_of (P := l.prog) (w := w) (base := base) F4 W 
  have C_setting_of : CalG l.prog w K mg base 1 "setting_of" sp_setting_of := ⟨f4, _, _, G4, PySem.W.mg_of X G a4, F4.kp, B4⟩
  have G5 := ok_rises (P := l.prog) (w := w) (base := base) F5 W 
  have C_rises : CalG l.prog w K mg base 1 "rises" sp_rises := ⟨f5, _, _, G5, PySem.W.mg_of X G a5, F5.kp, B5⟩
  have G6 := ok_settings_rise (P := l.prog) (w := w) (base := base) F6 W C_setting_of C_rises
  have C_settings_rise : CalG l.prog w K mg base 2 "settings_rise" sp_settings_rise := ⟨f6, _, _, G6, PySem.W.mg_of X G a6, F6.kp, B6⟩
  have G7 := ok_lot_of (P := l.prog) (w := w) (base := base) F7 W C_settings_rise
  have C_lot_of : CalG l.prog w K mg base 3 "lot_of" sp_lot_of := ⟨f7, _, _, G7, PySem.W.mg_of X G a7, F7.kp, B7⟩
  have G8 := ok_made_lot (P := l.prog) (w := w) (base := base) F8 W cl M hC C_lot_of (R_BadLot _)
  have C_made_lot : CalX l.prog w K mg base 4 "made_lot" (sp_made_lot cl) := ⟨f8, _, _, G8, PySem.W.mg_of X G a8, F8.kp, B8⟩
  have G9 := ok_plain_pair (P := l.prog) (w := w) (base := base) F9 W 
  have C_plain_pair : CalG l.prog w K mg base 1 "plain_pair" sp_plain_pair := ⟨f9, _, _, G9, PySem.W.mg_of X G a9, F9.kp, B9⟩
  have G10 := ok_worth_of (P := l.prog) (w := w) (base := base) F10 W 
  have C_worth_of : CalG l.prog w K mg base 1 "worth_of" sp_worth_of := ⟨f10, _, _, G10, PySem.W.mg_of X G a10, F10.kp, B10⟩
  have G11 := ok_has_worth (P := l.prog) (w := w) (base := base) F11 W C_plain_pair C_setting_of C_worth_of
  have C_has_worth : CalG l.prog w K mg base 2 "has_worth" sp_has_worth := ⟨f11, _, _, G11, PySem.W.mg_of X G a11, F11.kp, B11⟩
  have G12 := ok_plain_number (P := l.prog) (w := w) (base := base) F12 W 
  have C_plain_number : CalG l.prog w K mg base 1 "plain_number" sp_plain_number := ⟨f12, _, _, G12, PySem.W.mg_of X G a12, F12.kp, B12⟩
  have G13 := ok_house_number (P := l.prog) (w := w) (base := base) F13 W Z C_number_within
  have C_house_number : CalG l.prog w K mg base 2 "house_number" sp_house_number := ⟨f13, _, _, G13, PySem.W.mg_of X G a13, F13.kp, B13⟩
  have G14 := ok_plain_stamp (P := l.prog) (w := w) (base := base) F14 W C_plain_pair C_plain_number C_house_number
  have C_plain_stamp : CalG l.prog w K mg base 3 "plain_stamp" sp_plain_stamp := ⟨f14, _, _, G14, PySem.W.mg_of X G a14, F14.kp, B14⟩
  have G15 := ok_entry_of (P := l.prog) (w := w) (base := base) F15 W C_tuple_sized C_has_worth C_plain_stamp
  have C_entry_of : CalG l.prog w K mg base 4 "entry_of" sp_entry_of := ⟨f15, _, _, G15, PySem.W.mg_of X G a15, F15.kp, B15⟩
  have G16 := ok_must_be_row (P := l.prog) (w := w) (base := base) F16 W cl M hC C_entry_of C_tuple_sized (R_BadRow _)
  have C_must_be_row : CalX l.prog w K mg base 5 "must_be_row" (sp_must_be_row cl) := ⟨f16, _, _, G16, PySem.W.mg_of X G a16, F16.kp, B16⟩
  have G17 := ok_made_row (P := l.prog) (w := w) (base := base) F17 W cl M hC C_made_sizes C_made_lot C_must_be_row
  have C_made_row : CalX l.prog w K mg base 6 "made_row" (sp_made_row cl) := ⟨f17, _, _, G17, PySem.W.mg_of X G a17, F17.kp, B17⟩
  have G18 := ok_must_be_letter (P := l.prog) (w := w) (base := base) F18 W cl M hC C_entry_of C_plain_pair C_lot_of (R_BadLetter _)
  have C_must_be_letter : CalX l.prog w K mg base 5 "must_be_letter" (sp_must_be_letter cl) := ⟨f18, _, _, G18, PySem.W.mg_of X G a18, F18.kp, B18⟩
  have G19 := ok_made_letter (P := l.prog) (w := w) (base := base) F19 W cl M hC C_made_sizes C_must_be_letter
  have C_made_letter : CalX l.prog w K mg base 6 "made_letter" (sp_made_letter cl) := ⟨f19, _, _, G19, PySem.W.mg_of X G a19, F19.kp, B19⟩
  have G20 := ok_ltake (P := l.prog) (w := w) (base := base) F20 W 
  have C_ltake : CalG l.prog w K mg base 1 "_law_take" sp_ltake := ⟨f20, _, _, G20, PySem.W.mg_of X G a20, F20.kp, B20⟩
  have G21 := ok_lone (P := l.prog) (w := w) (base := base) F21 W C_ltake
  have C_lone : CalG l.prog w K mg base 2 "_law_one" sp_lone := ⟨f21, _, _, G21, PySem.W.mg_of X G a21, F21.kp, B21⟩
  have G23 := ok_lsizes_right (P := l.prog) (w := w) (base := base) F23 W cl M hC C_made_row C_made_letter C_lone C_ltake (cA := cc23) (pA := pp23) F22 (PySem.W.mg_of X G a22) B22 q23 (TB (cc23, pp23) (by simp)) (by show _ ∈ ([(pp23, ("_law_sizes_right.<locals>.<lambda>" : Str)), (pp36, ("_law_rows_right.<locals>.<lambda>" : Str)), (pp38, ("_law_letters_right.<locals>.<lambda>" : Str))] : List (Addr × Str)); simp) (by show ∀ p ∈ ([(pp23, ("_law_sizes_right.<locals>.<lambda>" : Str)), (pp36, ("_law_rows_right.<locals>.<lambda>" : Str)), (pp38, ("_law_letters_right.<locals>.<lambda>" : Str))] : List (Addr × Str)), _; intro p hp e; simp only [List.mem_cons, List.not_mem_nil, or_false] at hp; rcases hp with rfl | rfl | rfl <;> first | rfl | exact absurd e (by first | assumption | exact Ne.symm (by assumption)))
  have C_lsizes_right : CalG l.prog w K mg base 9 "_law_sizes_right" sp_lsizes_right := ⟨f23, _, _, G23, PySem.W.mg_of X G a23, F23.kp, B23⟩
  have G24 := ok_lis_below (P := l.prog) (w := w) (base := base) F24 W 
  have C_lis_below : CalG l.prog w K mg base 1 "_law_is_below" sp_lis_below := ⟨f24, _, _, G24, PySem.W.mg_of X G a24, F24.kp, B24⟩
  have G25 := ok_lis_stamp (P := l.prog) (w := w) (base := base) F25 W C_lis_below
  have C_lis_stamp : CalG l.prog w K mg base 2 "_law_is_stamp" sp_lis_stamp := ⟨f25, _, _, G25, PySem.W.mg_of X G a25, F25.kp, B25⟩
  have G26 := ok_lis_entry (P := l.prog) (w := w) (base := base) F26 W C_lis_below C_lis_stamp
  have C_lis_entry : CalG l.prog w K mg base 3 "_law_is_entry" sp_lis_entry := ⟨f26, _, _, G26, PySem.W.mg_of X G a26, F26.kp, B26⟩
  have G27 := ok_lis_lot (P := l.prog) (w := w) (base := base) F27 W C_lis_below
  have C_lis_lot : CalG l.prog w K mg base 2 "_law_is_lot" sp_lis_lot := ⟨f27, _, _, G27, PySem.W.mg_of X G a27, F27.kp, B27⟩
  have G28 := ok_lrow_due (P := l.prog) (w := w) (base := base) F28 W C_lis_entry C_lis_lot
  have C_lrow_due : CalG l.prog w K mg base 4 "_law_row_due" sp_lrow_due := ⟨f28, _, _, G28, PySem.W.mg_of X G a28, F28.kp, B28⟩
  have G29 := ok_lbent_lot (P := l.prog) (w := w) (base := base) F29 W C_lone
  have C_lbent_lot : CalG l.prog w K mg base 3 "_law_bent_lot" sp_lbent_lot := ⟨f29, _, _, G29, PySem.W.mg_of X G a29, F29.kp, B29⟩
  have G30 := ok_lbent_entry (P := l.prog) (w := w) (base := base) F30 W C_lone C_ltake
  have C_lbent_entry : CalG l.prog w K mg base 3 "_law_bent_entry" sp_lbent_entry := ⟨f30, _, _, G30, PySem.W.mg_of X G a30, F30.kp, B30⟩
  have G31 := ok_lbent_entries (P := l.prog) (w := w) (base := base) F31 W C_ltake C_lbent_entry C_lone
  have C_lbent_entries : CalG l.prog w K mg base 4 "_law_bent_entries" sp_lbent_entries := ⟨f31, _, _, G31, PySem.W.mg_of X G a31, F31.kp, B31⟩
  have G32 := ok_ldrawn_stamp (P := l.prog) (w := w) (base := base) F32 W C_ltake C_lone
  have C_ldrawn_stamp : CalG l.prog w K mg base 3 "_law_drawn_stamp" sp_ldrawn_stamp := ⟨f32, _, _, G32, PySem.W.mg_of X G a32, F32.kp, B32⟩
  have G33 := ok_ldrawn_entries (P := l.prog) (w := w) (base := base) F33 W C_ldrawn_stamp C_ltake
  have C_ldrawn_entries : CalG l.prog w K mg base 4 "_law_drawn_entries" sp_ldrawn_entries := ⟨f33, _, _, G33, PySem.W.mg_of X G a33, F33.kp, B33⟩
  have G34 := ok_lsome (P := l.prog) (w := w) (base := base) F34 W C_ltake
  have C_lsome : CalG l.prog w K mg base 2 "_law_some" sp_lsome := ⟨f34, _, _, G34, PySem.W.mg_of X G a34, F34.kp, B34⟩
  have G35 := ok_ldrawn_lot (P := l.prog) (w := w) (base := base) F35 W C_ltake C_lsome
  have C_ldrawn_lot : CalG l.prog w K mg base 3 "_law_drawn_lot" sp_ldrawn_lot := ⟨f35, _, _, G35, PySem.W.mg_of X G a35, F35.kp, B35⟩
  have G36 := ok_lrows_right (P := l.prog) (w := w) (base := base) F36 W cl M hC C_made_row C_lrow_due C_lbent_lot C_lbent_entries C_ldrawn_entries C_ldrawn_lot (cA := cc36) (pA := pp36) F22 (PySem.W.mg_of X G a22) B22 q36 (TB (cc36, pp36) (by simp)) (by show _ ∈ ([(pp23, ("_law_sizes_right.<locals>.<lambda>" : Str)), (pp36, ("_law_rows_right.<locals>.<lambda>" : Str)), (pp38, ("_law_letters_right.<locals>.<lambda>" : Str))] : List (Addr × Str)); simp) (by show ∀ p ∈ ([(pp23, ("_law_sizes_right.<locals>.<lambda>" : Str)), (pp36, ("_law_rows_right.<locals>.<lambda>" : Str)), (pp38, ("_law_letters_right.<locals>.<lambda>" : Str))] : List (Addr × Str)), _; intro p hp e; simp only [List.mem_cons, List.not_mem_nil, or_false] at hp; rcases hp with rfl | rfl | rfl <;> first | rfl | exact absurd e (by first | assumption | exact Ne.symm (by assumption)))
  have C_lrows_right : CalG l.prog w K mg base 9 "_law_rows_right" sp_lrows_right := ⟨f36, _, _, G36, PySem.W.mg_of X G a36, F36.kp, B36⟩
  have G37 := ok_lletter_due (P := l.prog) (w := w) (base := base) F37 W C_lis_entry C_lis_lot
  have C_lletter_due : CalG l.prog w K mg base 4 "_law_letter_due" sp_lletter_due := ⟨f37, _, _, G37, PySem.W.mg_of X G a37, F37.kp, B37⟩
  have G38 := ok_lletters_right (P := l.prog) (w := w) (base := base) F38 W cl M hC C_made_letter C_lletter_due C_lone C_lbent_lot C_lbent_entries C_lsome C_ldrawn_entries C_ldrawn_lot (cA := cc38) (pA := pp38) F22 (PySem.W.mg_of X G a22) B22 q38 (TB (cc38, pp38) (by simp)) (by show _ ∈ ([(pp23, ("_law_sizes_right.<locals>.<lambda>" : Str)), (pp36, ("_law_rows_right.<locals>.<lambda>" : Str)), (pp38, ("_law_letters_right.<locals>.<lambda>" : Str))] : List (Addr × Str)); simp) (by show ∀ p ∈ ([(pp23, ("_law_sizes_right.<locals>.<lambda>" : Str)), (pp36, ("_law_rows_right.<locals>.<lambda>" : Str)), (pp38, ("_law_letters_right.<locals>.<lambda>" : Str))] : List (Addr × Str)), _; intro p hp e; simp only [List.mem_cons, List.not_mem_nil, or_false] at hp; rcases hp with rfl | rfl | rfl <;> first | rfl | exact absurd e (by first | assumption | exact Ne.symm (by assumption)))
  have C_lletters_right : CalG l.prog w K mg base 9 "_law_letters_right" sp_lletters_right := ⟨f38, _, _, G38, PySem.W.mg_of X G a38, F38.kp, B38⟩
  have G39 := ok_ldrawn_sizes (P := l.prog) (w := w) (base := base) F39 W C_ltake C_lone
  have C_ldrawn_sizes : CalG l.prog w K mg base 3 "_law_drawn_sizes" sp_ldrawn_sizes := ⟨f39, _, _, G39, PySem.W.mg_of X G a39, F39.kp, B39⟩
  have G40 := ok_lpool (P := l.prog) (w := w) (base := base) F40 W 
  have C_lpool : CalG l.prog w K mg base 1 "_law_pool" sp_lpool := ⟨f40, _, _, G40, PySem.W.mg_of X G a40, F40.kp, B40⟩
  exact ok_law F41 W C_lsizes_right C_lrows_right C_lletters_right C_ltake C_ldrawn_sizes C_lpool
end KA
open PySem PySem.W PyProof.Rows
set_option maxHeartbeats 0 in
theorem PySem.Challenge.cw_onlyforced_k23_letters_and_rows_made_holds : PySem.Challenge.rw_onlyforced_k23_letters_and_rows_made.Holds := by
  w_on; o_law; k_head; (case hw => w_witness2)
  k_fill
  refine DL.walkGT (l := PySem.Challenge.rw_onlyforced_k23_letters_and_rows_made) (n := 63) (k := 10) (x := "script") (sp := KA.sp_law) rfl (by decide) rfl ⟨rfl, by decide, by decide⟩ (fun w h Y => by first | exact PySem.W.kIn_of Y | exact PySem.W.km_in_of Y) ?F (fun ns hl => ⟨ns, hl, rfl, rfl, rfl⟩)
  case F =>
    intro w mg fa h Y KX G hmg own
    refine' KA.all_mk KX G hmg ?a0 ?l0 ?c0 ?k0 ?a1 ?l1 ?c1 ?k1 ?a2 ?l2 ?c2 ?k2 ?a3 ?l3 ?c3 ?k3 ?a4 ?l4 ?c4 ?k4 ?a5 ?l5 ?c5 ?k5 ?a6 ?l6 ?c6 ?k6 ?a7 ?l7 ?c7 ?k7 ?a8 ?l8 ?c8 ?k8 ?a9 ?l9 ?c9 ?k9 ?a10 ?l10 ?c10 ?k10 ?a11 ?l11 ?c11 ?k11 ?a12 ?l12 ?c12 ?k12 ?a13 ?l13 ?c13 ?k13 ?a14 ?l14 ?c14 ?k14 ?a15 ?l15 ?c15 ?k15 ?a16 ?l16 ?c16 ?k16 ?a17 ?l17 ?c17 ?k17 ?a18 ?l18 ?c18 ?k18 ?a19 ?l19 ?c19 ?k19 ?a20 ?l20 ?c20 ?k20 ?a21 ?l21 ?c21 ?k21 ?a22 ?l22 ?c22 ?k22 ?a23 ?l23 ?c23 ?k23 ?a24 ?l24 ?c24 ?k24 ?a25 ?l25 ?c25 ?k25 ?a26 ?l26 ?c26 ?k26 ?a27 ?l27 ?c27 ?k27 ?a28 ?l28 ?c28 ?k28 ?a29 ?l29 ?c29 ?k29 ?a30 ?l30 ?c30 ?k30 ?a31 ?l31 ?c31 ?k31 ?a32 ?l32 ?c32 ?k32 ?a33 ?l33 ?c33 ?k33 ?a34 ?l34 ?c34 ?k34 ?a35 ?l35 ?c35 ?k35 ?a36 ?l36 ?c36 ?k36 ?a37 ?l37 ?c37 ?k37 ?a38 ?l38 ?c38 ?k38 ?a39 ?l39 ?c39 ?k39 ?a40 ?l40 ?c40 ?k40 ?a41 ?l41 ?c41 ?k41 ?cst_MOST_WORTHS ?cst_MOST_SETTINGS ?cst_MOST_HOUSE ?na_BadSizes ?na_BadLot ?na_BadRow ?na_BadLetter ?na_Refused ?xl_BadSizes ?rf_BadSizes ?sa_BadSizes ?eb_BadSizes ?ty_BadSizes ?kp_BadSizes ?nw_BadSizes ?in_BadSizes ?ga_BadSizes ?gg_BadSizes ?hd_BadSizes ?ca_BadSizes ?mr_BadSizes ?sv_BadSizes ?sb_BadSizes_Refused ?sb_BadSizes_BadLetter ?sb_BadSizes_BadRow ?sb_BadSizes_BadLot ?sb_BadSizes_BadSizes ?xl_BadLot ?rf_BadLot ?sa_BadLot ?eb_BadLot ?ty_BadLot ?kp_BadLot ?nw_BadLot ?in_BadLot ?ga_BadLot ?gg_BadLot ?hd_BadLot ?ca_BadLot ?mr_BadLot ?sv_BadLot ?sb_BadLot_Refused ?sb_BadLot_BadLetter ?sb_BadLot_BadRow ?sb_BadLot_BadLot ?sb_BadLot_BadSizes ?xl_BadRow ?rf_BadRow ?sa_BadRow ?eb_BadRow ?ty_BadRow ?kp_BadRow ?nw_BadRow ?in_BadRow ?ga_BadRow ?gg_BadRow ?hd_BadRow ?ca_BadRow ?mr_BadRow ?sv_BadRow ?sb_BadRow_Refused ?sb_BadRow_BadLetter ?sb_BadRow_BadRow ?sb_BadRow_BadLot ?sb_BadRow_BadSizes ?xl_BadLetter ?rf_BadLetter ?sa_BadLetter ?eb_BadLetter ?ty_BadLetter ?kp_BadLetter ?nw_BadLetter ?in_BadLetter ?ga_BadLetter ?gg_BadLetter ?hd_BadLetter ?ca_BadLetter ?mr_BadLetter ?sv_BadLetter ?sb_BadLetter_Refused ?sb_BadLetter_BadLetter ?sb_BadLetter_BadRow ?sb_BadLetter_BadLot ?sb_BadLetter_BadSizes ?hb_Refused ?hc_Refused ?ht_Refused ?hs_Refused ?hb_BadLetter ?hc_BadLetter ?ht_BadLetter ?hs_BadLetter ?hb_BadRow ?hc_BadRow ?ht_BadRow ?hs_BadRow ?hb_BadLot ?hc_BadLot ?ht_BadLot ?hs_BadLot ?hb_BadSizes ?hc_BadSizes ?ht_BadSizes ?hs_BadSizes ?spn ?tkn ?tI ?lI ?cI ?kI2 ?z_type ?z_int ?z_isinstance ?z_tuple ?z_len ?z_enumerate ?z_zip ?z_all ?z_repr ?z_bool ?z_range ?z_min ?z_max own ?q23 ?d23 ?v23 ?hh23 ?oo23 ?r23 ?q36 ?d36 ?v36 ?hh36 ?oo36 ?r36 ?q38 ?d38 ?v38 ?hh38 ?oo38 ?r38 ?ne36_23 ?ne38_23 ?ne38_36
    (case a0 => k_is); (case l0 => k_is); (case c0 => k_is); (case k0 => k_is); (case a1 => k_is); (case l1 => k_is); (case c1 => k_is); (case k1 => k_is); (case a2 => k_is); (case l2 => k_is); (case c2 => k_is); (case k2 => k_is); (case a3 => k_is); (case l3 => k_is); (case c3 => k_is); (case k3 => k_is); (case a4 => k_is); (case l4 => k_is); (case c4 => k_is); (case k4 => k_is); (case a5 => k_is); (case l5 => k_is); (case c5 => k_is); (case k5 => k_is); (case a6 => k_is); (case l6 => k_is); (case c6 => k_is); (case k6 => k_is); (case a7 => k_is); (case l7 => k_is); (case c7 => k_is); (case k7 => k_is); (case a8 => k_is); (case l8 => k_is); (case c8 => k_is); (case k8 => k_is); (case a9 => k_is); (case l9 => k_is); (case c9 => k_is); (case k9 => k_is); (case a10 => k_is); (case l10 => k_is); (case c10 => k_is); (case k10 => k_is); (case a11 => k_is); (case l11 => k_is); (case c11 => k_is); (case k11 => k_is); (case a12 => k_is); (case l12 => k_is); (case c12 => k_is); (case k12 => k_is); (case a13 => k_is); (case l13 => k_is); (case c13 => k_is); (case k13 => k_is); (case a14 => k_is); (case l14 => k_is); (case c14 => k_is); (case k14 => k_is); (case a15 => k_is); (case l15 => k_is); (case c15 => k_is); (case k15 => k_is); (case a16 => k_is); (case l16 => k_is); (case c16 => k_is); (case k16 => k_is); (case a17 => k_is); (case l17 => k_is); (case c17 => k_is); (case k17 => k_is); (case a18 => k_is); (case l18 => k_is); (case c18 => k_is); (case k18 => k_is); (case a19 => k_is); (case l19 => k_is); (case c19 => k_is); (case k19 => k_is); (case a20 => k_is); (case l20 => k_is); (case c20 => k_is); (case k20 => k_is); (case a21 => k_is); (case l21 => k_is); (case c21 => k_is); (case k21 => k_is); (case a22 => k_is); (case l22 => k_is); (case c22 => k_is); (case k22 => k_is); (case a23 => k_is); (case l23 => k_is); (case c23 => k_is); (case k23 => k_is); (case a24 => k_is); (case l24 => k_is); (case c24 => k_is); (case k24 => k_is); (case a25 => k_is); (case l25 => k_is); (case c25 => k_is); (case k25 => k_is); (case a26 => k_is); (case l26 => k_is); (case c26 => k_is); (case k26 => k_is); (case a27 => k_is); (case l27 => k_is); (case c27 => k_is); (case k27 => k_is); (case a28 => k_is); (case l28 => k_is); (case c28 => k_is); (case k28 => k_is); (case a29 => k_is); (case l29 => k_is); (case c29 => k_is); (case k29 => k_is); (case a30 => k_is); (case l30 => k_is); (case c30 => k_is); (case k30 => k_is); (case a31 => k_is); (case l31 => k_is); (case c31 => k_is); (case k31 => k_is); (case a32 => k_is); (case l32 => k_is); (case c32 => k_is); (case k32 => k_is); (case a33 => k_is); (case l33 => k_is); (case c33 => k_is); (case k33 => k_is); (case a34 => k_is); (case l34 => k_is); (case c34 => k_is); (case k34 => k_is); (case a35 => k_is); (case l35 => k_is); (case c35 => k_is); (case k35 => k_is); (case a36 => k_is); (case l36 => k_is); (case c36 => k_is); (case k36 => k_is); (case a37 => k_is); (case l37 => k_is); (case c37 => k_is); (case k37 => k_is); (case a38 => k_is); (case l38 => k_is); (case c38 => k_is); (case k38 => k_is); (case a39 => k_is); (case l39 => k_is); (case c39 => k_is); (case k39 => k_is); (case a40 => k_is); (case l40 => k_is); (case c40 => k_is); (case k40 => k_is); (case a41 => k_is); (case l41 => k_is); (case c41 => k_is); (case k41 => k_is); (case cst_MOST_WORTHS => k_is); (case cst_MOST_SETTINGS => k_is); (case cst_MOST_HOUSE => k_is); (case na_BadSizes => k_is); (case na_BadLot => k_is); (case na_BadRow => k_is); (case na_BadLetter => k_is); (case na_Refused => k_is); (case xl_BadSizes => k_is); (case rf_BadSizes => decide +kernel); (case sa_BadSizes => k_is); (case eb_BadSizes => k_is); (case ty_BadSizes => k_is); (case kp_BadSizes => k_is); (case nw_BadSizes => k_is); (case in_BadSizes => k_is); (case ga_BadSizes => k_is); (case gg_BadSizes => k_is); (case hd_BadSizes => k_is); (case ca_BadSizes => k_is); (case mr_BadSizes => k_is); (case sv_BadSizes => k_is); (case sb_BadSizes_Refused => k_is); (case sb_BadSizes_BadLetter => k_is); (case sb_BadSizes_BadRow => k_is); (case sb_BadSizes_BadLot => k_is); (case sb_BadSizes_BadSizes => k_is); (case xl_BadLot => k_is); (case rf_BadLot => decide +kernel); (case sa_BadLot => k_is); (case eb_BadLot => k_is); (case ty_BadLot => k_is); (case kp_BadLot => k_is); (case nw_BadLot => k_is); (case in_BadLot => k_is); (case ga_BadLot => k_is); (case gg_BadLot => k_is); (case hd_BadLot => k_is); (case ca_BadLot => k_is); (case mr_BadLot => k_is); (case sv_BadLot => k_is); (case sb_BadLot_Refused => k_is); (case sb_BadLot_BadLetter => k_is); (case sb_BadLot_BadRow => k_is); (case sb_BadLot_BadLot => k_is); (case sb_BadLot_BadSizes => k_is); (case xl_BadRow => k_is); (case rf_BadRow => decide +kernel); (case sa_BadRow => k_is); (case eb_BadRow => k_is); (case ty_BadRow => k_is); (case kp_BadRow => k_is); (case nw_BadRow => k_is); (case in_BadRow => k_is); (case ga_BadRow => k_is); (case gg_BadRow => k_is); (case hd_BadRow => k_is); (case ca_BadRow => k_is); (case mr_BadRow => k_is); (case sv_BadRow => k_is); (case sb_BadRow_Refused => k_is); (case sb_BadRow_BadLetter => k_is); (case sb_BadRow_BadRow => k_is); (case sb_BadRow_BadLot => k_is); (case sb_BadRow_BadSizes => k_is); (case xl_BadLetter => k_is); (case rf_BadLetter => decide +kernel); (case sa_BadLetter => k_is); (case eb_BadLetter => k_is); (case ty_BadLetter => k_is); (case kp_BadLetter => k_is); (case nw_BadLetter => k_is); (case in_BadLetter => k_is); (case ga_BadLetter => k_is); (case gg_BadLetter => k_is); (case hd_BadLetter => k_is); (case ca_BadLetter => k_is); (case mr_BadLetter => k_is); (case sv_BadLetter => k_is); (case sb_BadLetter_Refused => k_is); (case sb_BadLetter_BadLetter => k_is); (case sb_BadLetter_BadRow => k_is); (case sb_BadLetter_BadLot => k_is); (case sb_BadLetter_BadSizes => k_is); (case hb_Refused => k_is); (case hc_Refused => k_is); (case ht_Refused => k_is); (case hs_Refused => k_is); (case hb_BadLetter => k_is); (case hc_BadLetter => k_is); (case ht_BadLetter => k_is); (case hs_BadLetter => k_is); (case hb_BadRow => k_is); (case hc_BadRow => k_is); (case ht_BadRow => k_is); (case hs_BadRow => k_is); (case hb_BadLot => k_is); (case hc_BadLot => k_is); (case ht_BadLot => k_is); (case hs_BadLot => k_is); (case hb_BadSizes => k_is); (case hc_BadSizes => k_is); (case ht_BadSizes => k_is); (case hs_BadSizes => k_is); (case spn => k_is); (case tkn => k_is); (case tI => k_is); (case lI => k_is); (case cI => k_is); (case kI2 => k_is); (case z_type => k_is); (case z_int => k_is); (case z_isinstance => k_is); (case z_tuple => k_is); (case z_len => k_is); (case z_enumerate => k_is); (case z_zip => k_is); (case z_all => k_is); (case z_repr => k_is); (case z_bool => k_is); (case z_range => k_is); (case z_min => k_is); (case z_max => k_is); (case q23 => rfl); (case d23 => k_is); (case v23 => rfl); (case hh23 => first | exact rfl | kernel_rfl | decide +kernel); (case oo23 => first | exact rfl | kernel_rfl | decide +kernel); (case r23 => decide +kernel); (case q36 => rfl); (case d36 => k_is); (case v36 => rfl); (case hh36 => first | exact rfl | kernel_rfl | decide +kernel); (case oo36 => first | exact rfl | kernel_rfl | decide +kernel); (case r36 => decide +kernel); (case q38 => rfl); (case d38 => k_is); (case v38 => rfl); (case hh38 => first | exact rfl | kernel_rfl | decide +kernel); (case oo38 => first | exact rfl | kernel_rfl | decide +kernel); (case r38 => decide +kernel); (case ne36_23 => decide); (case ne38_23 => decide); (case ne38_36 => decide)
