import PyProof.Rows.All
import Wide.All
import OpenK.AllK
import Wide.FinOn
import HandS.ForMost
import HandS.Flow
import HandS.Conv
import HandS.IsInst
import HandS.TupAny
import HandS.TupMul
import HandS.Walk
import HandS.Style
import HandS.RaiseMore
import HandS.NoneIn
import HandS.SetFor
import HandS.Zip
import HandS.Star
import KE.KTupSum
import KE.GoesMore
import KE.GoesZip
import HandS.TupLe
import PySem.Challenge.RW_comesback_k07_rows_known
set_option Elab.async false
set_option linter.all false
set_option maxRecDepth 100000
set_option maxHeartbeats 4000000
namespace Qm
open PySem PySem.Spec PyProof.Rows L2

/-! ### values and stores of our own -/
inductive D where
  | non | bl (b : Bool) | int (i : Int) | str (x : Str) | tup (xs : List D) | fro (xs : List D) | ref (n : Nat) | adr (a : Addr) | ty (n : String)
inductive O where
  | lst (xs : List D) | dic (kvs : List (Key × D))
abbrev Sto := List O
abbrev En := List (Option D)
inductive Rs (α : Type) where
  | ok (a : α) (S : Sto) | ex (c : Value) (S : Sto)
abbrev M (α : Type) := Sto → Option (Rs α)
namespace M
variable {α β : Type}
def pure (a : α) : M α := fun S => some (.ok a S)
def bind (m : M α) (f : α → M β) : M β := fun S => match m S with
  | some (.ok a S1) => f a S1
  | some (.ex c S1) => some (.ex c S1)
  | none => none
def fail : M α := fun _ => none
def ofO : Option α → M α
  | some a => pure a
  | none => fail
end M
def good {α : Type} (r : Option (Rs α)) (P : α → Sto → Prop) (E : Value → Sto → Prop) : Prop := match r with
  | some (.ok a S) => P a S
  | some (.ex c S) => E c S
  | none => False
section
variable {α β : Type} {P P' : α → Sto → Prop} {E E' : Value → Sto → Prop}
theorem good.mono {r : Option (Rs α)} (h : good r P E) (hp : ∀ a S, P a S → P' a S) (he : ∀ c S, E c S → E' c S) : good r P' E' := by
  match r, h with
  | some (.ok a S), h => exact hp a S h
  | some (.ex c S), h => exact he c S h
theorem good_bind {m : M α} {f : α → M β} {S : Sto} {P : β → Sto → Prop} : good (M.bind m f S) P E ↔ good (m S) (fun a S1 => good (f a S1) P E) E := by
  unfold M.bind
  cases h : m S with
  | none => exact Iff.rfl
  | some r => cases r <;> exact Iff.rfl
theorem good_pure {a : α} {S : Sto} : good (M.pure a S) P E ↔ P a S := Iff.rfl
end

/-! ### the world of an abstract heap -/
structure Wd where
  H : Hp
  ro : List Addr
structure Wd.le (W W' : Wd) : Prop where
  pre : ∃ t, W'.ro = W.ro ++ t
  tup : ∀ a xs, W.H a = some (.tup xs) → W'.H a = some (.tup xs)
  frz : ∀ a o u, W.H a = some (.frz o u) → W'.H a = some (.frz o u)
theorem Wd.le.refl (W : Wd) : W.le W := ⟨⟨[], by simp⟩, fun _ _ h => h, fun _ _ _ h => h⟩
theorem Wd.le.trans {A B C : Wd} (x : A.le B) (y : B.le C) : A.le C := by
  obtain ⟨⟨t, e⟩, x2, x3⟩ := x
  obtain ⟨⟨u, f⟩, y2, y3⟩ := y
  exact ⟨⟨t ++ u, by rw [f, e, List.append_assoc]⟩, fun a xs h => y2 _ _ (x2 _ _ h), fun a o u h => y3 _ _ _ (x3 _ _ _ h)⟩
/-- a list that is known to the object or written: never changed -/
def FroL (K : PySem.W.Frag) (H : Hp) (a : Addr) (xs : List V) : Prop :=
  (∃ o, H a = some (.frz o (.lst xs))) ∨
    ∃ (o : Obj) (its : Array Value) (n : Nat), K.lookup a = some o ∧ o.cls = .type "list" ∧ o.dict = none ∧ o.data = .seq its n ∧ its.size ≤ sizeLine ∧ Vals xs its.toList
theorem FroL.sq {K : PySem.W.Frag} {H : Hp} {a : Addr} {xs : List V} (h : FroL K H a xs) : SqL K H a xs := by
  rcases h with ⟨o, h⟩ | h
  · exact .inl (.inr ⟨o, h⟩)
  · exact .inr h
theorem FroL.of_sq {K : PySem.W.Frag} {H : Hp} {a : Addr} {xs : List V} (h : SqL K H a xs) (hO : Only H) : FroL K H a xs := by
  rcases h with (h | ⟨o, h⟩) | h
  · rcases hO a with z | ⟨o, ys, z⟩
    · rw [h] at z; cases z
    · rw [h] at z; cases z
  · exact .inl ⟨o, h⟩
  · exact .inr h
section
variable (K : PySem.W.Frag) (W : Wd)
mutual
inductive Rp : D → V → Prop where
  | non : Rp .non .non
  | bl (b : Bool) : Rp (.bl b) (.bl b)
  | int (i : Int) : Rp (.int i) (.int i)
  | str (x : Str) : Rp (.str x) (.str x)
  | tup {a : Addr} {ds : List D} {vs : List V} : SqT K W.H a vs → Rps ds vs → Rp (.tup ds) (.ref a)
  | fro {a : Addr} {ds : List D} {vs : List V} : FroL K W.H a vs → Rps ds vs → Rp (.fro ds) (.ref a)
  | ref {n : Nat} {a : Addr} : W.ro[n]? = some a → Rp (.ref n) (.ref a)
  | adr (a : Addr) : Rp (.adr a) (.ref a)
  | ty (n : String) : Rp (.ty n) (.ty n)
inductive Rps : List D → List V → Prop where
  | nil : Rps [] []
  | cons {d : D} {v : V} {ds : List D} {vs : List V} : Rp d v → Rps ds vs → Rps (d :: ds) (v :: vs)
end
/-- an object of the store stands at a -/
inductive Ob : O → Addr → Prop where
  | lst {ds : List D} {vs : List V} {a : Addr} : W.H a = some (.lst vs) → Rps K W ds vs → Ob (.lst ds) a
  | dic {kvs : List (Key × D)} {kws : List (Key × V)} {a : Addr} : W.H a = some (.dK kws) → kvs.map (·.1) = kws.map (·.1) → Rps K W (kvs.map (·.2)) (kws.map (·.2)) → Ob (.dic kvs) a
structure SR (S : Sto) : Prop where
  len : W.ro.length = S.length
  nd : W.ro.Nodup
  ob : ∀ (n : Nat) (o : O) (a : Addr), S[n]? = some o → W.ro[n]? = some a → Ob K W o a
/-- the slots -/
def EnvR (dl : En) (sg : L2.St) : Prop := dl.length = sg.length ∧ ∀ (i : Nat) (d : D), dl[i]? = some (some d) → ∃ v, sg[i]? = some (some v) ∧ Rp K W d v
end
section
variable {K : PySem.W.Frag} {W W' : Wd}
theorem SqT.le {a : Addr} {xs : List V} (h : SqT K W.H a xs) (e : W.le W') : SqT K W'.H a xs := by
  rcases h with (h | ⟨o, h⟩) | h
  · exact .inl (.inl (e.tup _ _ h))
  · exact .inl (.inr ⟨o, e.frz _ _ _ h⟩)
  · exact .inr h
theorem FroL.le {a : Addr} {xs : List V} (h : FroL K W.H a xs) (e : W.le W') : FroL K W'.H a xs := by
  rcases h with ⟨o, h⟩ | h
  · exact .inl ⟨o, e.frz _ _ _ h⟩
  · exact .inr h
theorem ro_le {n : Nat} {a : Addr} (h : W.ro[n]? = some a) (e : W.le W') : W'.ro[n]? = some a := by
  obtain ⟨t, q⟩ := e.pre
  rw [q, List.getElem?_append_left (List.getElem?_eq_some_iff.mp h).1, h]
mutual
theorem Rp.le (e : W.le W') : ∀ {d : D} {v : V}, Rp K W d v → Rp K W' d v
  | _, _, .non => .non
  | _, _, .bl b => .bl b
  | _, _, .int i => .int i
  | _, _, .str x => .str x
  | _, _, .tup h r => .tup (SqT.le h e) (Rps.le e r)
  | _, _, .fro h r => .fro (FroL.le h e) (Rps.le e r)
  | _, _, .ref h => .ref (ro_le h e)
  | _, _, .adr a => .adr a
  | _, _, .ty n => .ty n
theorem Rps.le (e : W.le W') : ∀ {ds : List D} {vs : List V}, Rps K W ds vs → Rps K W' ds vs
  | _, _, .nil => .nil
  | _, _, .cons h r => .cons (Rp.le e h) (Rps.le e r)
end
theorem Rps.length : ∀ {ds : List D} {vs : List V}, Rps K W ds vs → ds.length = vs.length
  | _, _, .nil => rfl
  | _, _, .cons _ r => congrArg (· + 1) r.length
theorem Rps.get : ∀ {ds : List D} {vs : List V}, Rps K W ds vs → ∀ {i : Nat} {d : D}, ds[i]? = some d → ∃ v, vs[i]? = some v ∧ Rp K W d v
  | _, _, .nil, i, d, h => by simp at h
  | _, _, .cons r _, 0, d, h => by
    cases h
    exact ⟨_, rfl, r⟩
  | _, _, .cons _ rs, i + 1, d, h => Rps.get rs (i := i) h
theorem Rps.getV : ∀ {ds : List D} {vs : List V}, Rps K W ds vs → ∀ {i : Nat} {v : V}, vs[i]? = some v → ∃ d, ds[i]? = some d ∧ Rp K W d v
  | _, _, .nil, i, d, h => by simp at h
  | _, _, .cons r _, 0, d, h => by
    cases h
    exact ⟨_, rfl, r⟩
  | _, _, .cons _ rs, i + 1, d, h => Rps.getV rs (i := i) h
theorem Rps.append : ∀ {ds es : List D} {vs us : List V}, Rps K W ds vs → Rps K W es us → Rps K W (ds ++ es) (vs ++ us)
  | _, _, _, _, .nil, s => s
  | _, _, _, _, .cons r rs, s => .cons r (Rps.append rs s)
theorem Rps.take : ∀ {ds : List D} {vs : List V} (n : Nat), Rps K W ds vs → Rps K W (ds.take n) (vs.take n)
  | _, _, 0, _ => .nil
  | _, _, _ + 1, .nil => .nil
  | _, _, n + 1, .cons r rs => .cons r (Rps.take n rs)
theorem Rps.drop : ∀ {ds : List D} {vs : List V} (n : Nat), Rps K W ds vs → Rps K W (ds.drop n) (vs.drop n)
  | _, _, 0, r => r
  | _, _, _ + 1, .nil => .nil
  | _, _, n + 1, .cons _ rs => Rps.drop n rs
theorem Rps.set : ∀ {ds : List D} {vs : List V} (n : Nat) {d : D} {v : V}, Rps K W ds vs → Rp K W d v → Rps K W (ds.set n d) (vs.set n v)
  | _, _, 0, _, _, .nil, _ => .nil
  | _, _, _ + 1, _, _, .nil, _ => .nil
  | _, _, 0, _, _, .cons _ rs, q => .cons q rs
  | _, _, n + 1, _, _, .cons r rs, q => .cons r (Rps.set n rs q)
theorem Rps.eraseIdx : ∀ {ds : List D} {vs : List V} (n : Nat), Rps K W ds vs → Rps K W (ds.eraseIdx n) (vs.eraseIdx n)
  | _, _, 0, .nil => .nil
  | _, _, _ + 1, .nil => .nil
  | _, _, 0, .cons _ rs => rs
  | _, _, n + 1, .cons r rs => .cons r (Rps.eraseIdx n rs)
theorem Rps.reverse : ∀ {ds : List D} {vs : List V}, Rps K W ds vs → Rps K W ds.reverse vs.reverse
  | _, _, .nil => .nil
  | _, _, .cons r rs => by
    rw [List.reverse_cons, List.reverse_cons]
    exact (Rps.reverse rs).append (.cons r .nil)
theorem Rps.replicate {d : D} {v : V} (r : Rp K W d v) : ∀ n : Nat, Rps K W (List.replicate n d) (List.replicate n v)
  | 0 => .nil
  | n + 1 => .cons r (Rps.replicate r n)
theorem Rps.flat {ds : List D} {vs : List V} (r : Rps K W ds vs) : ∀ n : Nat, Rps K W (List.replicate n ds).flatten (List.replicate n vs).flatten
  | 0 => .nil
  | n + 1 => by
    rw [List.replicate_succ, List.replicate_succ, List.flatten_cons, List.flatten_cons]
    exact r.append (Rps.flat r n)
theorem Rps.bls : ∀ bs : List Bool, ∀ {vs : List V}, Rps K W (bs.map D.bl) vs → vs = bs.map V.bl
  | [], _, .nil => rfl
  | b :: bs, _, .cons r rs => by
    cases r
    rw [Rps.bls bs rs]; rfl
theorem Rps.ints : ∀ is : List Int, ∀ {vs : List V}, Rps K W (is.map D.int) vs → vs = is.map V.int
  | [], _, .nil => rfl
  | b :: bs, _, .cons r rs => by
    cases r
    rw [Rps.ints bs rs]; rfl
theorem Rps.of_ints : ∀ is : List Int, Rps K W (is.map D.int) (is.map V.int)
  | [] => .nil
  | b :: bs => .cons (.int b) (Rps.of_ints bs)
/-- a world that has grown by a new object -/
theorem Wd.le_new {p : Addr} {o : HO} {t : List Addr} (h : W.H p = none) : W.le ⟨upd W.H p o, W.ro ++ t⟩ :=
  ⟨⟨t, rfl⟩, fun a xs e => by show upd W.H p o a = _; rw [upd_ne (ne_of_none e h)]; exact e, fun a u v e => by show upd W.H p o a = _; rw [upd_ne (ne_of_none e h)]; exact e⟩
theorem SR.free {S : Sto} (s : SR K W S) {p : Addr} (h : W.H p = none) : p ∉ W.ro := by
  intro hm
  obtain ⟨n, hn, e⟩ := List.getElem_of_mem hm
  have e' : W.ro[n]? = some p := by rw [List.getElem?_eq_getElem hn, e]
  have hS : n < S.length := by rw [← s.len]; exact hn
  have := s.ob n S[n] p (List.getElem?_eq_getElem hS) e'
  generalize S[n] = o at this
  cases this with
  | lst q _ => rw [h] at q; cases q
  | dic q _ _ => rw [h] at q; cases q
theorem Ob.le {o : O} {a : Addr} (x : Ob K W o a) (e : W.le W') (k : W'.H a = W.H a) : Ob K W' o a := by
  cases x with
  | lst q r => exact .lst (by rw [k]; exact q) (Rps.le e r)
  | dic q q2 r => exact .dic (by rw [k]; exact q) q2 (Rps.le e r)
theorem Ob.some {o : O} {a : Addr} (x : Ob K W o a) : ∃ u, W.H a = some u ∧ Mut (some u) := by
  cases x with
  | lst q r => exact ⟨_, q, trivial⟩
  | dic q q2 r => exact ⟨_, q, trivial⟩
/-- a new object that is no part of the store (a tuple) -/
theorem SR.new {S : Sto} (s : SR K W S) {p : Addr} {o : HO} (h : W.H p = none) : SR K ⟨upd W.H p o, W.ro⟩ S := by
  have le : W.le ⟨upd W.H p o, W.ro⟩ := by
    have := Wd.le_new (W := W) (o := o) (t := []) h
    rwa [List.append_nil] at this
  refine ⟨s.len, s.nd, fun n u a e1 e2 => ?_⟩
  have x := s.ob n u a e1 e2
  refine x.le le ?_
  obtain ⟨z, hz, _⟩ := x.some
  show upd W.H p o a = W.H a
  rw [upd_ne (ne_of_none hz h)]
theorem Wd.le_tup {p : Addr} {o : HO} (h : W.H p = none) : W.le ⟨upd W.H p o, W.ro⟩ := by
  have := Wd.le_new (W := W) (o := o) (t := []) h
  rwa [List.append_nil] at this
/-- a new object of the store -/
theorem SR.push {S : Sto} (s : SR K W S) {p : Addr} {o : HO} {u : O} (h : W.H p = none) (x : Ob K ⟨upd W.H p o, W.ro ++ [p]⟩ u p) : SR K ⟨upd W.H p o, W.ro ++ [p]⟩ (S ++ [u]) := by
  have nf := s.free h
  have le : W.le ⟨upd W.H p o, W.ro ++ [p]⟩ := Wd.le_new h
  refine ⟨by simp [s.len], ?_, fun n v a e1 e2 => ?_⟩
  · show (W.ro ++ [p]).Nodup
    rw [List.nodup_append]
    exact ⟨s.nd, by simp, fun a ha b hb e => by
      have hb' : b = p := by simpa using hb
      subst hb'; subst e
      exact nf ha⟩
  · by_cases hn : n < S.length
    · rw [List.getElem?_append_left hn] at e1
      have hn' : n < W.ro.length := by rw [s.len]; exact hn
      have e2' : W.ro[n]? = some a := by
        have e2 : (W.ro ++ [p])[n]? = some a := e2
        rwa [List.getElem?_append_left hn'] at e2
      have y := s.ob n v a e1 e2'
      refine y.le le ?_
      obtain ⟨z, hz, _⟩ := y.some
      show upd W.H p o a = W.H a
      rw [upd_ne (ne_of_none hz h)]
    · have e1' := e1
      rw [List.getElem?_append_right (by omega)] at e1
      have hz : n - S.length = 0 := by
        have := (List.getElem?_eq_some_iff.mp e1).1
        simp at this; omega
      rw [hz] at e1
      have e1 : u = v := by simpa using e1
      subst e1
      have e2 : (W.ro ++ [p])[n]? = some a := e2
      rw [List.getElem?_append_right (by rw [s.len]; omega), s.len, hz] at e2
      have e2 : p = a := by simpa using e2
      subst e2
      exact x
theorem push_ref {S : Sto} (s : SR K W S) {p : Addr} {o : HO} : Rp K ⟨upd W.H p o, W.ro ++ [p]⟩ (.ref S.length) (.ref p) := by
  refine .ref ?_
  show (W.ro ++ [p])[S.length]? = some p
  rw [List.getElem?_append_right (by rw [s.len]; exact Nat.le_refl _), s.len, Nat.sub_self]
  rfl
/-- an object of the store is written -/
theorem Wd.le_set {a : Addr} {o : HO} (h : Mut (W.H a)) : W.le ⟨upd W.H a o, W.ro⟩ := by
  refine ⟨⟨[], by simp⟩, fun b xs e => ?_, fun b u v e => ?_⟩
  · have ne : b ≠ a := fun z => by subst z; rw [e] at h; exact h
    show upd W.H a o b = _
    rw [upd_ne ne]; exact e
  · have ne : b ≠ a := fun z => by subst z; rw [e] at h; exact h
    show upd W.H a o b = _
    rw [upd_ne ne]; exact e
theorem SR.set {S : Sto} (s : SR K W S) {n : Nat} {a : Addr} {o : HO} {u : O} (hn : W.ro[n]? = some a) (hm : Mut (W.H a)) (x : Ob K ⟨upd W.H a o, W.ro⟩ u a) : SR K ⟨upd W.H a o, W.ro⟩ (S.set n u) := by
  refine ⟨by simp [s.len], s.nd, fun m v b e1 e2 => ?_⟩
  by_cases hmn : m = n
  · subst hmn
    have e2 : W.ro[m]? = some b := e2
    rw [hn] at e2
    cases e2
    have hl : m < S.length := by rw [← s.len]; exact (List.getElem?_eq_some_iff.mp hn).1
    rw [List.getElem?_set_self hl] at e1
    cases e1
    exact x
  · rw [List.getElem?_set_ne (Ne.symm hmn)] at e1
    have e2 : W.ro[m]? = some b := e2
    have y := s.ob m v b e1 e2
    refine y.le (Wd.le_set hm) ?_
    have ne : b ≠ a := fun z => by
      subst z
      obtain ⟨h1, q1⟩ := List.getElem?_eq_some_iff.mp hn
      obtain ⟨h2, q2⟩ := List.getElem?_eq_some_iff.mp e2
      exact hmn ((List.getElem_inj s.nd).mp (q2.trans q1.symm))
    show upd W.H a o b = W.H b
    rw [upd_ne ne]
theorem SR.at {S : Sto} (s : SR K W S) {n : Nat} {o : O} (h : S[n]? = some o) : ∃ a, W.ro[n]? = some a ∧ Ob K W o a := by
  have hn : n < W.ro.length := by rw [s.len]; exact (List.getElem?_eq_some_iff.mp h).1
  exact ⟨_, List.getElem?_eq_getElem hn, s.ob n o _ h (List.getElem?_eq_getElem hn)⟩
theorem SR.obj {S : Sto} (s : SR K W S) {n : Nat} {o : O} {a : Addr} (h : S[n]? = some o) (r : Rp K W (.ref n) (.ref a)) : Ob K W o a := by
  cases r with
  | ref q => exact s.ob n o a h q
theorem EnvR.le {dl : En} {sg : L2.St} (h : EnvR K W dl sg) (e : W.le W') : EnvR K W' dl sg := ⟨h.1, fun i d q => by
  obtain ⟨v, h1, h2⟩ := h.2 i d q
  exact ⟨v, h1, h2.le e⟩⟩
theorem EnvR.set {dl : En} {sg : L2.St} (h : EnvR K W dl sg) (i : Nat) {d : D} {v : V} (r : Rp K W d v) : EnvR K W (dl.set i (some d)) (sg.set i (some v)) := by
  refine ⟨by simp [h.1], fun j e q => ?_⟩
  by_cases hj : j = i
  · subst hj
    have hl : j < dl.length := by
      have := (List.getElem?_eq_some_iff.mp q).1
      simpa using this
    rw [List.getElem?_set_self hl] at q
    cases q
    exact ⟨v, by rw [List.getElem?_set_self (by rw [← h.1]; exact hl)], r⟩
  · rw [List.getElem?_set_ne (Ne.symm hj)] at q
    rw [List.getElem?_set_ne (Ne.symm hj)]
    exact h.2 j e q
end

/-! ### readings by a function on our values -/
section
variable (K : PySem.W.Frag) (E : XK) (W : Wd)
def PoV (Q : VK) : D → Sto → Prop := fun d S => ∀ v W', W.le W' → SR K W' S → Rp K W' d v → Q v W'.H
def PoE : Value → Sto → Prop := fun c S => ∀ W', W.le W' → SR K W' S → E c none W'.H
def PoB (Q : Bool → Hp → Prop) : Bool → Sto → Prop := fun b S => ∀ W', W.le W' → SR K W' S → Q b W'.H
def PoA (Q : List V → Hp → Prop) : List D → Sto → Prop := fun ds S => ∀ vs W', W.le W' → SR K W' S → Rps K W' ds vs → Q vs W'.H
inductive Out where
  | nx (dl : En) | rt (d : D) | bk (dl : En) | ct (dl : En)
def PoS (N : Ends) : Out → Sto → Prop
  | .nx dl, S => ∀ sg W', W.le W' → SR K W' S → EnvR K W' dl sg → N.nx sg W'.H
  | .bk dl, S => ∀ sg W', W.le W' → SR K W' S → EnvR K W' dl sg → N.bk sg W'.H
  | .ct dl, S => ∀ sg W', W.le W' → SR K W' S → EnvR K W' dl sg → N.ct sg W'.H
  | .rt d, S => ∀ v W', W.le W' → SR K W' S → Rp K W' d v → N.rt v W'.H
end
section
variable {K : PySem.W.Frag} {E : XK} {W W' : Wd}
theorem PoV.le {Q : VK} {d : D} {S : Sto} (h : PoV K W Q d S) (e : W.le W') : PoV K W' Q d S := fun v W2 e2 s r => h v W2 (e.trans e2) s r
theorem PoE.le {d : Value} {S : Sto} (h : PoE K E W d S) (e : W.le W') : PoE K E W' d S := fun W2 e2 s => h W2 (e.trans e2) s
theorem PoB.le {Q : Bool → Hp → Prop} {d : Bool} {S : Sto} (h : PoB K W Q d S) (e : W.le W') : PoB K W' Q d S := fun W2 e2 s => h W2 (e.trans e2) s
theorem PoA.le {Q : List V → Hp → Prop} {d : List D} {S : Sto} (h : PoA K W Q d S) (e : W.le W') : PoA K W' Q d S := fun v W2 e2 s r => h v W2 (e.trans e2) s r
theorem PoS.le {N : Ends} {d : Out} {S : Sto} (h : PoS K W N d S) (e : W.le W') : PoS K W' N d S := by
  cases d with
  | nx dl => exact fun v W2 e2 s r => h v W2 (e.trans e2) s r
  | bk dl => exact fun v W2 e2 s r => h v W2 (e.trans e2) s r
  | ct dl => exact fun v W2 e2 s r => h v W2 (e.trans e2) s r
  | rt dl => exact fun v W2 e2 s r => h v W2 (e.trans e2) s r
end
abbrev EX := En → M D
abbrev TX := En → M Bool
abbrev AX := En → M (List D)
abbrev SX := En → M Out
def tD (K : PySem.W.Frag) (E : XK) (m : EX) : TE := fun sg H Q => ∃ W dl S, W.H = H ∧ EnvR K W dl sg ∧ SR K W S ∧ good (m dl S) (PoV K W Q) (PoE K E W)
def tDT (K : PySem.W.Frag) (E : XK) (m : TX) : TT := fun sg H Q => ∃ W dl S, W.H = H ∧ EnvR K W dl sg ∧ SR K W S ∧ good (m dl S) (PoB K W Q) (PoE K E W)
def tDA (K : PySem.W.Frag) (E : XK) (m : AX) : TA := fun sg H Q => ∃ W dl S, W.H = H ∧ EnvR K W dl sg ∧ SR K W S ∧ good (m dl S) (PoA K W Q) (PoE K E W)
def tDS (K : PySem.W.Frag) (E : XK) (m : SX) : TS := fun N sg H => ∃ W dl S, W.H = H ∧ EnvR K W dl sg ∧ SR K W S ∧ good (m dl S) (PoS K W N) (PoE K E W)
theorem _root_.L2.PE.imp {X : Cx} {e : Expr} {t t' : TE} (h : PE X e t) (i : ∀ sg H Q, t' sg H Q → t sg H Q) : PE X e t' := ⟨fun pins s σ H Q I q => h.run pins s σ H Q I (i _ _ _ q)⟩
theorem _root_.L2.PT.imp {X : Cx} {e : Expr} {t t' : TT} (h : PT X e t) (i : ∀ sg H Q, t' sg H Q → t sg H Q) : PT X e t' := ⟨fun pins s σ H Q I q => h.run pins s σ H Q I (i _ _ _ q)⟩
theorem _root_.L2.PW.imp {X : Cx} {e : Expr} {t t' : TT} (h : PW X e t) (i : ∀ sg H Q, t' sg H Q → t sg H Q) : PW X e t' := ⟨fun wh pins s σ H Q I q => h.run wh pins s σ H Q I (i _ _ _ q)⟩
theorem _root_.L2.PA.imp {X : Cx} {e : List Expr} {t t' : TA} (h : PA X e t) (i : ∀ sg H Q, t' sg H Q → t sg H Q) : PA X e t' := ⟨fun pos pins s σ H Q I q => h.run pos pins s σ H Q I (i _ _ _ q)⟩
theorem _root_.L2.PS.imp {X : Cx} {e : Stmt} {t t' : TS} (h : PS X e t) (i : ∀ N sg H, t' N sg H → t N sg H) : PS X e t' := ⟨fun pins s σ H N I q => h.run pins s σ H N I (i _ _ _ q)⟩
theorem _root_.L2.PSs.imp {X : Cx} {e : List Stmt} {t t' : TS} (h : PSs X e t) (i : ∀ N sg H, t' N sg H → t N sg H) : PSs X e t' := ⟨fun pins s σ H N I q => h.run pins s σ H N I (i _ _ _ q)⟩
abbrev Ex (X : Cx) (E : XK) (e : Expr) (m : EX) : Prop := PE X e (tD X.K E m)
abbrev Tx (X : Cx) (E : XK) (e : Expr) (m : TX) : Prop := PT X e (tDT X.K E m)
abbrev Wx (X : Cx) (E : XK) (e : Expr) (m : TX) : Prop := PW X e (tDT X.K E m)
abbrev Ax (X : Cx) (E : XK) (es : List Expr) (m : AX) : Prop := PA X es (tDA X.K E m)
abbrev Sx (X : Cx) (E : XK) (st : Stmt) (m : SX) : Prop := PS X st (tDS X.K E m)
abbrev Ssx (X : Cx) (E : XK) (st : List Stmt) (m : SX) : Prop := PSs X st (tDS X.K E m)
/-- chain: a part's reading, and what follows it -/
theorem tD.step {K : PySem.W.Frag} {E : XK} {α : Type} {m : EX} {f : D → M α} {sg : L2.St} {H : Hp} {Q : VK} {P : α → Sto → Prop} {W : Wd} {dl : En} {S : Sto} (hH : W.H = H) (hE : EnvR K W dl sg) (hS : SR K W S)
    (h : good (M.bind (m dl) f S) P (PoE K E W)) (k : ∀ d S1 v W1, W.le W1 → EnvR K W1 dl sg → SR K W1 S1 → Rp K W1 d v → good (f d S1) P (PoE K E W) → Q v W1.H) : tD K E m sg H Q :=
  ⟨W, dl, S, hH, hE, hS, (good_bind.mp h).mono (fun d S1 g v W1 e s r => k d S1 v W1 e (hE.le e) s r g) fun _ _ g => g⟩
theorem tDT.step {K : PySem.W.Frag} {E : XK} {α : Type} {m : TX} {f : Bool → M α} {sg : L2.St} {H : Hp} {Q : Bool → Hp → Prop} {P : α → Sto → Prop} {W : Wd} {dl : En} {S : Sto} (hH : W.H = H) (hE : EnvR K W dl sg) (hS : SR K W S)
    (h : good (M.bind (m dl) f S) P (PoE K E W)) (k : ∀ d S1 W1, W.le W1 → EnvR K W1 dl sg → SR K W1 S1 → good (f d S1) P (PoE K E W) → Q d W1.H) : tDT K E m sg H Q :=
  ⟨W, dl, S, hH, hE, hS, (good_bind.mp h).mono (fun d S1 g W1 e s => k d S1 W1 e (hE.le e) s g) fun _ _ g => g⟩
theorem tDA.step {K : PySem.W.Frag} {E : XK} {α : Type} {m : AX} {f : List D → M α} {sg : L2.St} {H : Hp} {Q : List V → Hp → Prop} {P : α → Sto → Prop} {W : Wd} {dl : En} {S : Sto} (hH : W.H = H) (hE : EnvR K W dl sg) (hS : SR K W S)
    (h : good (M.bind (m dl) f S) P (PoE K E W)) (k : ∀ ds S1 vs W1, W.le W1 → EnvR K W1 dl sg → SR K W1 S1 → Rps K W1 ds vs → good (f ds S1) P (PoE K E W) → Q vs W1.H) : tDA K E m sg H Q :=
  ⟨W, dl, S, hH, hE, hS, (good_bind.mp h).mono (fun d S1 g v W1 e s r => k d S1 v W1 e (hE.le e) s r g) fun _ _ g => g⟩
/-- the parts in a row: for rules with what follows still under the old world -/
theorem goodV.le {K : PySem.W.Frag} {E : XK} {W W' : Wd} {Q : VK} {r : Option (Rs D)} (h : good r (PoV K W Q) (PoE K E W)) (e : W.le W') : good r (PoV K W' Q) (PoE K E W') := h.mono (fun _ _ q => q.le e) fun _ _ q => q.le e
end Qm

namespace Qm
open PySem PySem.Spec PyProof.Rows L2

/-! ### expressions -/
section
variable {X : Cx} {E : XK}
def mV (i : Nat) : EX := fun dl S => match dl[i]? with
  | some (some d) => some (.ok d S)
  | _ => none
def mC (d : D) : EX := fun _ => M.pure d
theorem ex_var (i : Nat) {x : Str} {pos : Pos} (hN : X.N[i]? = some x := by rfl) (hv : Vis X.env.scope x := by first | exact Or.inl rfl | exact Or.inr (Or.inl rfl) | exact Or.inr (Or.inr rfl)) (hd : (x == ("__debug__" : Str)) = false := by decide)
    (hcd : (x == ("__classdict__" : Str)) = false := by decide) : Ex X E (.Name x pos) (mV i) := (pe_var hN hv hd hcd).imp fun sg H Q h => by
  obtain ⟨W, dl, S, rfl, hE, hS, g⟩ := h
  unfold mV at g
  cases e : dl[i]? with
  | none => rw [e] at g; exact g.elim
  | some o =>
    cases o with
    | none => rw [e] at g; exact g.elim
    | some d =>
      rw [e] at g
      obtain ⟨v, h1, h2⟩ := hE.2 i d e
      exact ⟨v, h1, g v W (.refl W) hS h2⟩
theorem ex_c {e : Expr} {d : D} {v : V} (h : PE X e (tC v)) (r : ∀ W, Rp X.K W d v) : Ex X E e (mC d) := h.imp fun sg H Q h => by
  obtain ⟨W, dl, S, rfl, hE, hS, g⟩ := h
  exact g v W (.refl W) hS (r W)
theorem ex_int {i j pos} : Ex X E (.Constant (.int i) j pos) (mC (.int i)) := ex_c pe_int fun _ => .int i
theorem ex_bl {i j pos} : Ex X E (.Constant (.bool i) j pos) (mC (.bl i)) := ex_c pe_bl fun _ => .bl i
theorem ex_non {j pos} : Ex X E (.Constant .none j pos) (mC .non) := ex_c pe_non fun _ => .non
theorem ex_str {x j pos} : Ex X E (.Constant (.str x) j pos) (mC (.str x)) := ex_c pe_str fun _ => .str x
theorem ex_glob {x : Str} {d : D} {v : V} {u : Value} {pos : Pos} (hg : Gl X x) (hm : X.mg x = some u) (r : RelV v u) (q : ∀ W, Rp X.K W d v) (hd : (x == ("__debug__" : Str)) = false := by decide) : Ex X E (.Name x pos) (mC d) := ex_c (pe_glob hg hm r hd) q
theorem ex_bltn {x : Str} {d : D} {v : V} {u : Value} {pos : Pos} (hg : Gl X x) (hm : X.mg x = none) (hv : bootBuiltins x = some u) (r : RelV v u) (q : ∀ W, Rp X.K W d v) (hn : x ≠ "__name__" := by decide) (hd : (x == ("__debug__" : Str)) = false := by decide) : Ex X E (.Name x pos) (mC d) :=
  ex_c (pe_bltn hg hm hv r hn hd) q

/-! ### operators -/
def mOp (f : D → D → M D) (a b : EX) : EX := fun dl => M.bind (a dl) fun x => M.bind (b dl) fun y => f x y
def mUn (f : D → M D) (a : EX) : EX := fun dl => M.bind (a dl) f
/-- an operator by values -/
def OpD (X : Cx) (E : XK) (F : Value → Value → Sem Value) (f : D → D → M D) : Prop := ∃ r, OpR X F r ∧ ∀ (W : Wd) (S : Sto) (x y : D) (vx vy : V) (Q : VK), SR X.K W S → Rp X.K W x vx → Rp X.K W y vy → good (f x y S) (PoV X.K W Q) (PoE X.K E W) → r vx vy W.H Q
def UnD (X : Cx) (E : XK) (F : Value → Sem Value) (f : D → M D) : Prop := ∃ r, UnR X F r ∧ ∀ (W : Wd) (S : Sto) (x : D) (vx : V) (Q : VK), SR X.K W S → Rp X.K W x vx → good (f x S) (PoV X.K W Q) (PoE X.K E W) → r vx W.H Q
variable {a b c : Expr} {ma mb mc : EX} {pos : Pos}
theorem mOp_imp {r : R2} {f : D → D → M D} (k : ∀ (W : Wd) (S : Sto) (x y : D) (vx vy : V) (Q : VK), SR X.K W S → Rp X.K W x vx → Rp X.K W y vy → good (f x y S) (PoV X.K W Q) (PoE X.K E W) → r vx vy W.H Q) (sg : L2.St) (H : Hp) (Q : VK) (h : tD X.K E (mOp f ma mb) sg H Q) :
    tOp r (tD X.K E ma) (tD X.K E mb) sg H Q := by
  obtain ⟨W, dl, S, hH, hE, hS, g⟩ := h
  refine tD.step hH hE hS g fun x S1 vx W1 e1 hE1 hS1 rx g1 => ?_
  refine tD.step rfl hE1 hS1 (goodV.le g1 e1) fun y S2 vy W2 e2 hE2 hS2 ry g2 => ?_
  exact k W2 S2 x y vx vy Q hS2 (rx.le e2) ry (goodV.le g2 e2)
theorem ex_op {op : Operator} {f : D → D → M D} (ho : OpD X E (binaryOp op) f) (ha : Ex X E a ma) (hb : Ex X E b mb) : Ex X E (.BinOp a op b pos) (mOp f ma mb) := by
  obtain ⟨r, hr, k⟩ := ho
  exact (pe_op hr ha hb).imp fun sg H Q h => mOp_imp k sg H Q h
theorem ex_un {op : UnaryOp} {f : D → M D} (ho : UnD X E (unaryOp op) f) (ha : Ex X E a ma) : Ex X E (.UnaryOp op a pos) (mUn f ma) := by
  obtain ⟨r, hr, k⟩ := ho
  refine (pe_un hr ha).imp fun sg H Q h => ?_
  obtain ⟨W, dl, S, hH, hE, hS, g⟩ := h
  exact tD.step hH hE hS g fun x S1 vx W1 e1 hE1 hS1 rx g1 => k W1 S1 x vx Q hS1 rx (goodV.le g1 e1)
theorem ex_cmp {op : CmpOp} {f : D → D → M D} (ho : OpD X E (compareOp op) f) (ha : Ex X E a ma) (hb : Ex X E b mb) (hm : behindInMarks op b = false) : Ex X E (.Compare a [op] [b] pos) (mOp f ma mb) := by
  obtain ⟨r, hr, k⟩ := ho
  exact (pe_cmpR hr ha hb hm).imp fun sg H Q h => mOp_imp k sg H Q h
/-! ### tests -/
def mT (m : EX) : TX := fun dl => M.bind (m dl) fun x => match x with
  | .bl b => M.pure b
  | _ => M.fail
theorem mT_imp {m : EX} {sg : L2.St} {H : Hp} {Q : Bool → Hp → Prop} (h : tDT X.K E (mT m) sg H Q) : tD X.K E m sg H fun x H1 => ∃ k, x = .bl k ∧ Q k H1 := by
  obtain ⟨W, dl, S, hH, hE, hS, g⟩ := h
  refine tD.step hH hE hS g fun x S1 vx W1 e1 hE1 hS1 rx g1 => ?_
  cases x <;> first | exact g1.elim | skip
  rename_i k
  cases rx
  exact ⟨k, rfl, g1 W1 e1 hS1⟩
theorem tx_cmp {op : CmpOp} {f : D → D → M D} (ho : OpD X E (compareOp op) f) (ha : Ex X E a ma) (hb : Ex X E b mb) (hm : behindInMarks op b = false) : Tx X E (.Compare a [op] [b] pos) (mT (mOp f ma mb)) := by
  obtain ⟨r, hr, k⟩ := ho
  exact (pt_cmpR hr ha hb hm).imp fun sg H Q h => mOp_imp k sg H _ (mT_imp h)
theorem tx_val {e : Expr} {m : EX} (h : Ex X E e m) (he : ∀ whole, isTrue e X.env whole = (do let v ← whole; standAt e.pos; holding [v] (truthy v)) := by intro _; rfl) : Tx X E e (mT m) :=
  (pt_val h he).imp fun sg H Q h => mT_imp h
def mNotT (t : TX) : TX := fun dl => M.bind (t dl) fun b => M.pure (!b)
def mAndT (t u : TX) : TX := fun dl => M.bind (t dl) fun b => match b with
  | true => u dl
  | false => M.pure false
def mOrT (t u : TX) : TX := fun dl => M.bind (t dl) fun b => match b with
  | true => M.pure true
  | false => u dl
theorem tx_not {t : TX} (h : Tx X E a t) : Tx X E (.UnaryOp .Not a pos) (mNotT t) := (pt_not h).imp fun sg H Q h => by
  obtain ⟨W, dl, S, hH, hE, hS, g⟩ := h
  exact tDT.step hH hE hS g fun x S1 W1 e1 hE1 hS1 g1 => g1 W1 e1 hS1
variable {rest : List Expr} {t u : TX}
theorem wx_and1 (h : Tx X E a t) : Wx X E (.BoolOp .And [a] pos) t := pw_and1 h
theorem wx_or1 (h : Tx X E a t) : Wx X E (.BoolOp .Or [a] pos) t := pw_or1 h
theorem wx_and (ha : Tx X E a t) (hb : Wx X E (.BoolOp .And (b :: rest) pos) u) : Wx X E (.BoolOp .And (a :: b :: rest) pos) (mAndT t u) := (pw_and ha hb).imp fun sg H Q h => by
  obtain ⟨W, dl, S, hH, hE, hS, g⟩ := h
  refine tDT.step hH hE hS g fun x S1 W1 e1 hE1 hS1 g1 => ?_
  cases x with
  | true => exact ⟨W1, dl, S1, rfl, hE1, hS1, g1.mono (fun _ _ q => q.le e1) fun _ _ q => q.le e1⟩
  | false => exact g1 W1 e1 hS1
theorem wx_or (ha : Tx X E a t) (hb : Wx X E (.BoolOp .Or (b :: rest) pos) u) : Wx X E (.BoolOp .Or (a :: b :: rest) pos) (mOrT t u) := (pw_or ha hb).imp fun sg H Q h => by
  obtain ⟨W, dl, S, hH, hE, hS, g⟩ := h
  refine tDT.step hH hE hS g fun x S1 W1 e1 hE1 hS1 g1 => ?_
  cases x with
  | false => exact ⟨W1, dl, S1, rfl, hE1, hS1, g1.mono (fun _ _ q => q.le e1) fun _ _ q => q.le e1⟩
  | true => exact g1 W1 e1 hS1
/-! .. as values -/
def mAnd (m n : EX) : EX := fun dl => M.bind (m dl) fun x => match x with
  | .bl true => n dl
  | .bl false => M.pure (.bl false)
  | _ => M.fail
def mOr (m n : EX) : EX := fun dl => M.bind (m dl) fun x => match x with
  | .bl true => M.pure (.bl true)
  | .bl false => n dl
  | _ => M.fail
def notD (x : D) : M D := match x with
  | .bl b => M.pure (.bl (!b))
  | _ => M.fail
theorem ex_one {op} {m : EX} (h : Ex X E a m) : Ex X E (.BoolOp op [a] pos) m := pe_one h
theorem ex_and {m n : EX} (ha : Ex X E a m) (hb : Ex X E (.BoolOp .And (b :: rest) pos) n) : Ex X E (.BoolOp .And (a :: b :: rest) pos) (mAnd m n) := (pe_and ha hb).imp fun sg H Q h => by
  obtain ⟨W, dl, S, hH, hE, hS, g⟩ := h
  refine tD.step hH hE hS g fun x S1 vx W1 e1 hE1 hS1 rx g1 => ?_
  cases x <;> first | exact g1.elim | skip
  rename_i k
  cases rx
  refine ⟨k, rfl, ?_⟩
  cases k with
  | true => rw [if_pos rfl]; exact ⟨W1, dl, S1, rfl, hE1, hS1, goodV.le g1 e1⟩
  | false => rw [if_neg Bool.false_ne_true]; exact g1 _ W1 e1 hS1 (.bl false)
theorem ex_or {m n : EX} (ha : Ex X E a m) (hb : Ex X E (.BoolOp .Or (b :: rest) pos) n) : Ex X E (.BoolOp .Or (a :: b :: rest) pos) (mOr m n) := (pe_or ha hb).imp fun sg H Q h => by
  obtain ⟨W, dl, S, hH, hE, hS, g⟩ := h
  refine tD.step hH hE hS g fun x S1 vx W1 e1 hE1 hS1 rx g1 => ?_
  cases x <;> first | exact g1.elim | skip
  rename_i k
  cases rx
  refine ⟨k, rfl, ?_⟩
  cases k with
  | false => rw [if_neg Bool.false_ne_true]; exact ⟨W1, dl, S1, rfl, hE1, hS1, goodV.le g1 e1⟩
  | true => rw [if_pos rfl]; exact g1 _ W1 e1 hS1 (.bl true)
theorem ex_not {m : EX} (ha : Ex X E a m) : Ex X E (.UnaryOp .Not a pos) (mUn notD m) := (pe_not ha).imp fun sg H Q h => by
  obtain ⟨W, dl, S, hH, hE, hS, g⟩ := h
  refine tD.step hH hE hS g fun x S1 vx W1 e1 hE1 hS1 rx g1 => ?_
  cases x <;> first | exact g1.elim | skip
  rename_i k
  cases rx
  exact ⟨k, rfl, g1 _ W1 e1 hS1 (.bl (!k))⟩
def mIf (t : TX) (m n : EX) : EX := fun dl => M.bind (t dl) fun b => match b with
  | true => m dl
  | false => n dl
theorem ex_if {t : TX} {m n : EX} (hc : Tx X E c t) (ha : Ex X E a m) (hb : Ex X E b n) : Ex X E (.IfExp c a b pos) (mIf t m n) := (pe_ifExp hc ha hb).imp fun sg H Q h => by
  obtain ⟨W, dl, S, hH, hE, hS, g⟩ := h
  refine tDT.step hH hE hS g fun x S1 W1 e1 hE1 hS1 g1 => ?_
  cases x with
  | true => rw [if_pos rfl]; exact ⟨W1, dl, S1, rfl, hE1, hS1, goodV.le g1 e1⟩
  | false => rw [if_neg Bool.false_ne_true]; exact ⟨W1, dl, S1, rfl, hE1, hS1, goodV.le g1 e1⟩
def mChain (f f' : D → D → M D) (a b c : EX) : EX := fun dl => M.bind (a dl) fun x => M.bind (b dl) fun y => M.bind (f x y) fun z => match z with
  | .bl true => M.bind (c dl) fun w => f' y w
  | .bl false => M.pure (.bl false)
  | _ => M.fail
theorem mChain_imp {r r' : R2} {f f' : D → D → M D} (k : ∀ (W : Wd) (S : Sto) (x y : D) (vx vy : V) (Q : VK), SR X.K W S → Rp X.K W x vx → Rp X.K W y vy → good (f x y S) (PoV X.K W Q) (PoE X.K E W) → r vx vy W.H Q)
    (k' : ∀ (W : Wd) (S : Sto) (x y : D) (vx vy : V) (Q : VK), SR X.K W S → Rp X.K W x vx → Rp X.K W y vy → good (f' x y S) (PoV X.K W Q) (PoE X.K E W) → r' vx vy W.H Q) (sg : L2.St) (H : Hp) (Q : VK) (h : tD X.K E (mChain f f' ma mb mc) sg H Q) :
    tChain r r' (tD X.K E ma) (tD X.K E mb) (tD X.K E mc) sg H Q := by
  obtain ⟨W, dl, S, hH, hE, hS, g⟩ := h
  refine tD.step hH hE hS g fun x S1 vx W1 e1 hE1 hS1 rx g1 => ?_
  refine tD.step rfl hE1 hS1 (goodV.le g1 e1) fun y S2 vy W2 e2 hE2 hS2 ry g2 => ?_
  refine k W2 S2 x y vx vy _ hS2 (rx.le e2) ry ((good_bind.mp (goodV.le g2 e2)).mono (fun z S3 g3 vz W3 e3 hS3 rz => ?_) fun _ _ q => q)
  cases z <;> first | exact g3.elim | skip
  rename_i b
  cases rz
  refine ⟨b, rfl, ?_⟩
  cases b with
  | false => rw [if_neg Bool.false_ne_true]; exact g3 _ W3 e3 hS3 (.bl false)
  | true =>
    rw [if_pos rfl]
    refine tD.step rfl (hE2.le e3) hS3 (goodV.le g3 e3) fun w S4 vw W4 e4 hE4 hS4 rw' g4 => ?_
    exact k' W4 S4 y w vy vw Q hS4 (ry.le (e3.trans e4)) rw' (goodV.le g4 e4)
theorem ex_chain {op op' : CmpOp} {f f' : D → D → M D} (ho : OpD X E (compareOp op) f) (ho' : OpD X E (compareOp op') f') (ha : Ex X E a ma) (hb : Ex X E b mb) (hc : Ex X E c mc)
    (h1 : lastMarks [op, op'] [b, c] = false := by rfl) : Ex X E (.Compare a [op, op'] [b, c] pos) (mChain f f' ma mb mc) := by
  obtain ⟨r, hr, k⟩ := ho
  obtain ⟨r', hr', k'⟩ := ho'
  exact (pe_chain hr hr' ha hb hc h1).imp fun sg H Q h => mChain_imp k k' sg H Q h
theorem tx_chain {op op' : CmpOp} {f f' : D → D → M D} (ho : OpD X E (compareOp op) f) (ho' : OpD X E (compareOp op') f') (ha : Ex X E a ma) (hb : Ex X E b mb) (hc : Ex X E c mc)
    (h1 : lastMarks [op, op'] [b, c] = false := by rfl) : Tx X E (.Compare a [op, op'] [b, c] pos) (mT (mChain f f' ma mb mc)) := by
  obtain ⟨r, hr, k⟩ := ho
  obtain ⟨r', hr', k'⟩ := ho'
  exact (pt_chain hr hr' ha hb hc h1).imp fun sg H Q h => mChain_imp k k' sg H _ (mT_imp h)

/-! ### argument lists, displays -/
structure Axn (X : Cx) (E : XK) (es : List Expr) (m : AX) : Prop where
  pa : PA X es (tDA X.K E m)
  len : ∀ dl S ds S', m dl S = some (.ok ds S') → ds.length = es.length
def mNil : AX := fun _ => M.pure []
def mCons (m : EX) (n : AX) : AX := fun dl => M.bind (m dl) fun x => M.bind (n dl) fun xs => M.pure (x :: xs)
theorem ax_nil : Axn X E [] mNil := ⟨pa_nil.imp fun sg H Q h => by
  obtain ⟨W, dl, S, hH, hE, hS, g⟩ := h
  subst hH
  exact g [] W (.refl W) hS .nil, fun dl S ds S' h => by cases h; rfl⟩
theorem ax_cons {es : List Expr} {n : AX} (ha : Ex X E a ma) (hr : Axn X E es n) (hs : starEach (a :: es) X.env = (false, eval a X.env) :: starEach es X.env := by rfl) : Axn X E (a :: es) (mCons ma n) := ⟨(pa_cons ha hr.pa hs).imp fun sg H Q h => by
  obtain ⟨W, dl, S, hH, hE, hS, g⟩ := h
  refine tD.step hH hE hS g fun x S1 vx W1 e1 hE1 hS1 rx g1 => ?_
  refine tDA.step rfl hE1 hS1 (g1.mono (fun _ _ q => q.le e1) fun _ _ q => q.le e1) fun xs S2 vxs W2 e2 hE2 hS2 rxs g2 => ?_
  exact g2 _ W2 e2 hS2 (.cons (rx.le e2) rxs), fun dl S ds S' h => by
    unfold mCons M.bind at h
    cases h1 : ma dl S with
    | none => rw [h1] at h; cases h
    | some r =>
      rw [h1] at h
      cases r with
      | ex c S1 => cases h
      | ok x S1 =>
        dsimp only at h
        cases h2 : n dl S1 with
        | none => rw [h2] at h; cases h
        | some r2 =>
          rw [h2] at h
          cases r2 with
          | ex c S2 => cases h
          | ok xs S2 =>
            cases h
            rw [List.length_cons, hr.len _ _ _ _ h2, List.length_cons]⟩
def mTup (n : AX) : EX := fun dl => M.bind (n dl) fun ds => M.pure (.tup ds)
def newL (ds : List D) : M D := fun S => some (.ok (.ref S.length) (S ++ [.lst ds]))
def mLst (n : AX) : EX := fun dl => M.bind (n dl) newL
theorem pushed {K : PySem.W.Frag} {W : Wd} {S : Sto} {ds : List D} {vs : List V} {Q : VK} (hS : SR K W S) (r : Rps K W ds vs) (g : PoV K W Q (.ref S.length) (S ++ [.lst ds])) (p : Addr) (hp : W.H p = none) : Q (.ref p) (upd W.H p (.lst vs)) :=
  g _ ⟨upd W.H p (.lst vs), W.ro ++ [p]⟩ (Wd.le_new hp) (hS.push hp (.lst upd_same (r.le (Wd.le_new hp)))) (push_ref hS)
theorem pushedT {K : PySem.W.Frag} {W : Wd} {S : Sto} {ds : List D} {vs : List V} {Q : VK} (hS : SR K W S) (r : Rps K W ds vs) (g : PoV K W Q (.tup ds) S) (p : Addr) (hp : W.H p = none) : Q (.ref p) (upd W.H p (.tup vs)) :=
  g _ ⟨upd W.H p (.tup vs), W.ro⟩ (Wd.le_tup hp) (hS.new hp) (.tup (.of upd_same) (r.le (Wd.le_tup hp)))
theorem ex_tup {es : List Expr} {n : AX} {x1} (h : Axn X E es n) (hz : es.length ≤ sizeLine := by decide) : Ex X E (.Tuple es x1 pos) (mTup n) := (pe_tup h.pa).imp fun sg H Q q => by
  obtain ⟨W, dl, S, hH, hE, hS, g⟩ := q
  unfold mTup at g
  subst hH
  have g' := good_bind.mp g
  refine ⟨W, dl, S, rfl, hE, hS, ?_⟩
  cases e : n dl S with
  | none => rw [e] at g'; exact g'.elim
  | some r =>
    rw [e] at g'
    cases r with
    | ex c S1 => exact g'
    | ok ds S1 =>
      intro vs W1 e1 hS1 r1
      have hl := h.len _ _ _ _ e
      exact ⟨by rw [← r1.length, hl]; exact hz, fun p hp => pushedT hS1 r1 (PoV.le g' e1) p hp⟩
theorem ex_lst {es : List Expr} {n : AX} (h : Axn X E es n) (hz : es.length ≤ sizeLine := by decide) : Ex X E (.List es pos) (mLst n) := (pe_lst h.pa).imp fun sg H Q q => by
  obtain ⟨W, dl, S, hH, hE, hS, g⟩ := q
  unfold mLst at g
  subst hH
  have g' := good_bind.mp g
  refine ⟨W, dl, S, rfl, hE, hS, ?_⟩
  cases e : n dl S with
  | none => rw [e] at g'; exact g'.elim
  | some r =>
    rw [e] at g'
    cases r with
    | ex c S1 => exact g'
    | ok ds S1 =>
      intro vs W1 e1 hS1 r1
      have hl := h.len _ _ _ _ e
      exact ⟨by rw [← r1.length, hl]; exact hz, fun p hp => pushed hS1 r1 (PoV.le g' e1) p hp⟩
/-! ### built-in functions and types, by values -/
def mCall (f : List D → M D) (n : AX) : EX := fun dl => M.bind (n dl) f
def CallD (X : Cx) (E : XK) (F : Value) (f : List D → M D) : Prop := ∃ r, CallR X F r ∧ ∀ (W : Wd) (S : Sto) (ds : List D) (vs : List V) (Q : VK), SR X.K W S → Rps X.K W ds vs → good (f ds S) (PoV X.K W Q) (PoE X.K E W) → r vs W.H Q
theorem ex_callB {x : Str} {p : Pos} {e : Expr} {es : List Expr} {n : AX} {id : String} {f : List D → M D} (hc : CallD X E (.builtin id) f) (hg : Gl X x) (hm : X.mg x = none) (hv : bootBuiltins x = some (.builtin id)) (ha : Axn X E (e :: es) n) (hn : x ≠ "__name__" := by decide) (hdb : (x == ("__debug__" : Str)) = false := by decide)
    (he : starEach (e :: es) X.env = (false, eval e X.env) :: starEach es X.env := by rfl) (hpl : (backTo pos (starEach es X.env)).any (·.1) = false := by rfl) : Ex X E (.Call (.Name x p) (e :: es) [] pos) (mCall f n) := by
  obtain ⟨r, hr, k⟩ := hc
  refine (pe_callB hr hg hm hv ha.pa hn hdb he hpl).imp fun sg H Q h => ?_
  obtain ⟨W, dl, S, hH, hE, hS, g⟩ := h
  exact tDA.step hH hE hS g fun ds S1 vs W1 e1 hE1 hS1 rs g1 => k W1 S1 ds vs Q hS1 rs (goodV.le g1 e1)
theorem ex_callTy {x : Str} {p : Pos} {e : Expr} {es : List Expr} {n : AX} {T : String} {f : List D → M D} (hc : CallD X E (.type T) f) (hg : Gl X x) (hm : X.mg x = none) (hv : bootBuiltins x = some (.type T)) (ha : Axn X E (e :: es) n) (hn : x ≠ "__name__" := by decide) (hdb : (x == ("__debug__" : Str)) = false := by decide)
    (he : starEach (e :: es) X.env = (false, eval e X.env) :: starEach es X.env := by rfl) (hpl : (backTo pos (starEach es X.env)).any (·.1) = false := by rfl) : Ex X E (.Call (.Name x p) (e :: es) [] pos) (mCall f n) := by
  obtain ⟨r, hr, k⟩ := hc
  refine (pe_callTy hr hg hm hv ha.pa hn hdb he hpl).imp fun sg H Q h => ?_
  obtain ⟨W, dl, S, hH, hE, hS, g⟩ := h
  exact tDA.step hH hE hS g fun ds S1 vs W1 e1 hE1 hS1 rs g1 => k W1 S1 ds vs Q hS1 rs (goodV.le g1 e1)
/-! ### subscripts, slices -/
def IxD (X : Cx) (E : XK) (f : D → D → M D) : Prop := ∃ r, IxR X r ∧ ∀ (W : Wd) (S : Sto) (x y : D) (vx vy : V) (Q : VK), SR X.K W S → Rp X.K W x vx → Rp X.K W y vy → good (f x y S) (PoV X.K W Q) (PoE X.K E W) → r vx vy W.H Q
theorem ex_ix {f : D → D → M D} (ho : IxD X E f) (ha : Ex X E a ma) (hb : Ex X E b mb) (hs : PlainIx b := by exact fun _ _ => rfl) : Ex X E (.Subscript a b pos) (mOp f ma mb) := by
  obtain ⟨r, hr, k⟩ := ho
  exact (pe_ix hr ha hb hs).imp fun sg H Q h => mOp_imp k sg H Q h
abbrev OX := En → M (Option Int)
def tDO (K : PySem.W.Frag) (E : XK) (m : OX) : TO := fun sg H Q => ∃ W dl S, W.H = H ∧ EnvR K W dl sg ∧ SR K W S ∧ good (m dl S) (fun o S' => ∀ W', W.le W' → SR K W' S' → Q o W'.H) (PoE K E W)
theorem tDO.step {K : PySem.W.Frag} {α : Type} {m : OX} {f : Option Int → M α} {sg : L2.St} {H : Hp} {Q : Option Int → Hp → Prop} {P : α → Sto → Prop} {W : Wd} {dl : En} {S : Sto} (hH : W.H = H) (hE : EnvR K W dl sg) (hS : SR K W S)
    (h : good (M.bind (m dl) f S) P (PoE K E W)) (k : ∀ d S1 W1, W.le W1 → EnvR K W1 dl sg → SR K W1 S1 → good (f d S1) P (PoE K E W) → Q d W1.H) : tDO K E m sg H Q :=
  ⟨W, dl, S, hH, hE, hS, (good_bind.mp h).mono (fun d S1 g W1 e s => k d S1 W1 e (hE.le e) s g) fun _ _ g => g⟩
def mOn : OX := fun _ => M.pure none
def mOs (m : EX) : OX := fun dl => M.bind (m dl) fun x => match x with
  | .int i => M.pure (some i)
  | _ => M.fail
abbrev Ox (X : Cx) (E : XK) (e : Option Expr) (m : OX) : Prop := PO X e (tDO X.K E m)
theorem _root_.L2.PO.imp {X : Cx} {e : Option Expr} {t t' : TO} (h : PO X e t) (i : ∀ sg H Q, t' sg H Q → t sg H Q) : PO X e t' := ⟨fun pins s σ H Q I q => h.run pins s σ H Q I (i _ _ _ q)⟩
theorem ox_none : Ox X E none mOn := po_none.imp fun sg H Q h => by
  obtain ⟨W, dl, S, hH, hE, hS, g⟩ := h
  subst hH
  exact g W (.refl W) hS
theorem ox_some (ha : Ex X E a ma) : Ox X E (some a) (mOs ma) := (po_some ha).imp fun sg H Q h => by
  obtain ⟨W, dl, S, hH, hE, hS, g⟩ := h
  refine tD.step hH hE hS g fun x S1 vx W1 e1 hE1 hS1 rx g1 => ?_
  cases x <;> first | exact g1.elim | skip
  rename_i i
  cases rx
  exact ⟨i, rfl, g1 W1 e1 hS1⟩
def SlD (X : Cx) (E : XK) (f : D → Option Int → Option Int → M D) : Prop := ∃ r, SlR X r ∧ ∀ (W : Wd) (S : Sto) (x : D) (lo hi : Option Int) (vx : V) (Q : VK), SR X.K W S → Rp X.K W x vx → good (f x lo hi S) (PoV X.K W Q) (PoE X.K E W) → r vx lo hi W.H Q
def mSl (f : D → Option Int → Option Int → M D) (m : EX) (l h : OX) : EX := fun dl => M.bind (m dl) fun x => M.bind (l dl) fun lo => M.bind (h dl) fun hi => f x lo hi
theorem ex_slice {f : D → Option Int → Option Int → M D} {lo hi : Option Expr} {p2 : Pos} {ml mh : OX} (ho : SlD X E f) (ha : Ex X E a ma) (hl : Ox X E lo ml) (hh : Ox X E hi mh) : Ex X E (.Subscript a (.Slice lo hi none p2) pos) (mSl f ma ml mh) := by
  obtain ⟨r, hr, k⟩ := ho
  refine (pe_slice hr ha hl hh).imp fun sg H Q h => ?_
  obtain ⟨W, dl, S, hH, hE, hS, g⟩ := h
  refine tD.step hH hE hS g fun x S1 vx W1 e1 hE1 hS1 rx g1 => ?_
  refine tDO.step rfl hE1 hS1 (goodV.le g1 e1) fun l S2 W2 e2 hE2 hS2 g2 => ?_
  refine tDO.step rfl hE2 hS2 (goodV.le g2 e2) fun h S3 W3 e3 hE3 hS3 g3 => ?_
  exact k W3 S3 x l h vx Q hS3 (rx.le (e2.trans e3)) (goodV.le g3 e3)
/-! ### methods of built-in types -/
def MtD (X : Cx) (E : XK) (T : String) (id : String) (f : D → List D → M D) : Prop := ∃ r, MtR X id r ∧ ∀ (W : Wd) (S : Sto) (x : D) (ds : List D) (vx : V) (vs : List V) (Q : VK), SR X.K W S → Rp X.K W x vx → Rps X.K W ds vs → good (f x ds S) (PoV X.K W Q) (PoE X.K E W) → r vx vs W.H Q
/-- the object is of this type -/
def isTy (T : String) (x : D) (S : Sto) : Bool := match x, T with
  | .ref n, "list" => match S[n]? with
    | some (.lst _) => true
    | _ => false
  | .str _, "str" => true
  | _, _ => false
def mMt (T : String) (f : D → List D → M D) (m : EX) (n : AX) : EX := fun dl => M.bind (m dl) fun x S => if isTy T x S = true then M.bind (n dl) (fun ds => f x ds) S else none
theorem isTy_ok {K : PySem.W.Frag} {T : String} {x : D} {vx : V} {W : Wd} {S : Sto} (h : isTy T x S = true) (hS : SR K W S) (r : Rp K W x vx) : tyV K T vx W.H := by
  unfold isTy at h
  split at h
  · rename_i n
    split at h
    · rename_i ds e
      cases r with
      | ref q =>
        have o := hS.ob n _ _ e q
        cases o with
        | lst h1 h2 => exact .inl ⟨rfl, _, .of h1⟩
    · cases h
  · cases r
    exact rfl
  · cases h
end
end Qm

namespace Qm
open PySem PySem.Spec PyProof.Rows L2

/-! ### a def's promise where no repr runs around it -/
structure FnG (P : Program) (w : World) (K : PySem.W.Frag) (mg : Str → Option Value) (base : Heap) (CX : CXT) (k : Nat) (f : Addr) (fd : FuncData) (ps : List Str) (sp : Sp) : Prop where
  arity : ∀ vs H Q E, sp vs H Q E → vs.length = ps.length
  go : ∀ (A : Around) (outer : List Env) (s : Shared) (H : Hp) (args : Args) (us : List Value) (vs : List V) (Q : VK) (E : XK),
    A.guards = some [] → Room k A → Env0 P w K mg base A outer s H → BindsTo s fd args (ps.zip us) →
    Vals vs us → sp vs H Q E → codeAny (model P w) A (.call (.ref f) args) (CR CX outer P w H s Q E) s
section
variable {P : Program} {w : World} {K : PySem.W.Frag} {mg : Str → Option Value} {base : Heap} {CX : CXT}
theorem FnG.up {j k : Nat} {f : Addr} {fd : FuncData} {ps : List Str} {sp : Sp} (F : FnG P w K mg base CX j f fd ps sp) (h : j ≤ k) : FnG P w K mg base CX k f fd ps sp where
  arity := F.arity
  go A outer s H args us vs Q E g r := F.go A outer s H args us vs Q E g (r.mono h)
theorem FnG.weaker {k : Nat} {f : Addr} {fd : FuncData} {ps : List Str} {sp sp2 : Sp} (F : FnG P w K mg base CX k f fd ps sp) (h : ∀ vs H Q E, sp2 vs H Q E → sp vs H Q E) : FnG P w K mg base CX k f fd ps sp2 where
  arity vs H Q E q := F.arity vs H Q E (h _ _ _ _ q)
  go A outer s H args us vs Q E g r e b v q := F.go A outer s H args us vs Q E g r e b v (h _ _ _ _ q)
end
/-- the context of a body -/
abbrev cxB (P : Program) (w : World) (K : PySem.W.Frag) (mg : Str → Option Value) (base : Heap) (N : List Str) (qual : Str) (st : Stmt) (f : Addr) (cd : Value) (A : Around) (outer : List Env) (s : Shared) (H : Hp) (E : XK) : Cx :=
  (cxOf CX0 P w K mg base N qual (defScope st) f cd A outer s H E).nox
section
variable {P : Program} {w : World} {K : PySem.W.Frag} {mg : Str → Option Value} {base : Heap}
theorem fnG_of {x qual : Str} {st : Stmt} {f : Addr} {fd : FuncData} {N ps : List Str} {k : Nat} {sp : Sp} (F : Fun K x qual st f fd) (S : FnScope N ps (defScope st)) (ar : ∀ vs H Q E, sp vs H Q E → vs.length = ps.length)
    (body : ∀ (cd : Value) (A : Around) (outer : List Env) (s : Shared) (H : Hp) (vs : List V) (Q : VK) (E : XK), A.guards = some [] → Room k (A.deeper (envOfC qual (defScope st) s.heap.objs.size f cd)) → sp vs H Q E →
      ∃ t, PSs (cxB P w K mg base N qual st f cd A outer s H E) (defBody st) t ∧ t { nx := fun _ H2 => Q .non H2, rt := Q } (start N vs) H) : FnG P w K mg base CX0 (k + 1) f fd ps sp := by
  obtain ⟨oc, od, kV, doc, pm, an, cdv, ct, osl, e, lk, hcd⟩ := F.ex
  subst e
  constructor
  · exact ar
  intro A outer s H args us vs Q E hg hr e0 hb rv hsp
  have kin : K.In s.heap := e0.mod.kin.keeps fun b o q => (e0.bs b o q).1
  have nl := e0.mod.nolimit.keeps fun b o q => (e0.bs b o q).1
  refine codeAny_call_function hr.depth (kin _ _ lk) rfl S.co S.gen rfl (PySem.W.codeRec_of kin hcd) (hb _ _ _ _ ?_)
  have hk : ∀ y ∈ ps.zip us, (defScope st).names.lookup y.1 = some .local ∨ ((defScope st).names.lookup y.1 = some .cell ∧ ((cellsFrom (s.heap.objs.size + 1) (defScope st).names []).lookup y.1).isSome = true) := by
    intro y hy
    have hm : y.1 ∈ ps := (List.of_mem_zip (show (y.1, y.2) ∈ ps.zip us from hy)).1
    rcases S.par y.1 hm with q | q
    · exact Or.inl q
    · exact Or.inr ⟨q, PySem.W.cellsFrom_some _ _ _ (.inl q)⟩
  refine wpAny_newFunctionEnv_cells S.kind hk fun env he s1 ic => ?_
  subst he
  refine ⟨nl.keeps ic.toInCall.keep, codeAny_func ?_⟩
  obtain ⟨t, ht, hq⟩ := body cdv A outer s H vs Q E hg (hr.deeper _) hsp
  have I0 := inv_start (CX := CX0) (E := E) S hr.hd e0 (ar _ _ _ _ hsp) rv ic
  refine wpAny_mono (ht.run [] s1 (start N vs) H _ (I0.wish _) hq) (fun fl s2 hs => ?_) fun e s2 hs => hs.elim
  cases fl with
  | ret u =>
    obtain ⟨v, sg, H2, J, r2, q2⟩ := hs
    exact ⟨v, H2, J.os, J.bare, J.base, J.hok, r2, q2⟩
  | next =>
    obtain ⟨sg, H2, J, q2⟩ := hs
    exact ⟨V.non, H2, J.os, J.bare, J.base, J.hok, rfl, q2⟩
  | brk => exact hs.elim fun _ z => z.elim fun _ z2 => z2.2.elim
  | cont => exact hs.elim fun _ z => z.elim fun _ z2 => z2.2.elim
end
/-! ### functions on our values -/
abbrev Fn := List D → M D
def No {α : Type} : Value → α → Prop := fun _ _ => False
def Noex (m : Fn) : Prop := ∀ ds S P E, good (m ds S) P E → good (m ds S) P No
def spM (K : PySem.W.Frag) (n : Nat) (m : Fn) : Sp := fun vs H Q E => ∃ W ds S, W.H = H ∧ Rps K W ds vs ∧ SR K W S ∧ ds.length = n ∧ good (m ds S) (PoV K W Q) No
def entry (n : Nat) (ds : List D) : En := ds.map some ++ List.replicate (n - ds.length) none
def outD : Out → M D
  | .rt d => M.pure d
  | .nx _ => M.pure .non
  | _ => M.fail
/-- nothing is raised -/
def nx {α : Type} (r : Option (Rs α)) : Option (Rs α) := match r with
  | some (.ex _ _) => none
  | r => r
theorem good_nx {α : Type} {r : Option (Rs α)} {P : α → Sto → Prop} {E : Value → Sto → Prop} : good (nx r) P E ↔ good r P No := by
  match r with
  | none => exact Iff.rfl
  | some (.ok a S) => exact Iff.rfl
  | some (.ex c S) => exact Iff.rfl
def mFn (n : Nat) (b : SX) : Fn := fun ds S => nx (M.bind (b (entry n ds)) outD S)
theorem mFn_noex {n : Nat} {b : SX} : Noex (mFn n b) := fun ds S P E h => good_nx.mpr (good_nx.mp h)
theorem entry_ok {K : PySem.W.Frag} {W : Wd} {ds : List D} {vs : List V} {N : List Str} (r : Rps K W ds vs) : EnvR K W (entry N.length ds) (L2.start N vs) := by
  have hl := r.length
  refine ⟨?_, fun i d e => ?_⟩
  · unfold entry L2.start
    simp [hl]
  · unfold entry at e
    by_cases hi : i < ds.length
    · rw [List.getElem?_append_left (by simpa using hi), List.getElem?_map] at e
      cases q : ds[i]? with
      | none => rw [q] at e; cases e
      | some d2 =>
        rw [q] at e
        have e2 : d2 = d := by simpa using e
        subst e2
        obtain ⟨v, h1, h2⟩ := r.get q
        refine ⟨v, ?_, h2⟩
        unfold L2.start
        rw [List.getElem?_append_left (by simp [← hl, hi]), List.getElem?_map, h1]
        rfl
    · rw [List.getElem?_append_right (by simpa using hi)] at e
      have := List.getElem?_eq_some_iff.mp e
      obtain ⟨h1, h2⟩ := this
      rw [List.getElem_replicate] at h2
      cases h2
/-- all that a call of the def x wants -/
structure Cal (P : Program) (w : World) (K : PySem.W.Frag) (mg : Str → Option Value) (base : Heap) (k : Nat) (x : Str) (n : Nat) (m : Fn) : Prop where
  ex : ∃ (f : Addr) (fd : FuncData) (ps : List Str), FnG P w K mg base CX0 k f fd ps (spM K n m) ∧ ps.length = n ∧ mg x = some (.ref f) ∧ PySem.W.keepIn K (.ref f) = true ∧ Binds K fd ps []
  noex : Noex m
section
variable {P : Program} {w : World} {K : PySem.W.Frag} {mg : Str → Option Value} {base : Heap}
/-- a def by its body -/
theorem fnM {x qual : Str} {st : Stmt} {f : Addr} {fd : FuncData} {N ps : List Str} {k : Nat} {m : SX} (F : Fun K x qual st f fd) (S : FnScope N ps (defScope st))
    (body : ∀ (cd : Value) (A : Around) (outer : List Env) (s : Shared) (H : Hp) (E : XK), A.guards = some [] → Room k (A.deeper (envOfC qual (defScope st) s.heap.objs.size f cd)) →
      Ssx (cxB P w K mg base N qual st f cd A outer s H E) E0 (defBody st) m) : FnG P w K mg base CX0 (k + 1) f fd ps (spM K ps.length (mFn N.length m)) := by
  refine fnG_of F S (fun vs H Q E h => ?_) fun cd A outer s H vs Q E hg hr h => ?_
  · obtain ⟨W, ds, S, hH, hR, hS, hl, g⟩ := h
    rw [← hR.length, hl]
  · obtain ⟨W, ds, S2, hH, hR, hS, hl, g⟩ := h
    refine ⟨_, body cd A outer s H E hg hr, W, entry N.length ds, S2, hH, entry_ok hR, hS, ?_⟩
    have g' := good_bind.mp (good_nx.mp g)
    cases q : m (entry N.length ds) S2 with
    | none => rw [q] at g'; exact g'.elim
    | some r =>
      rw [q] at g'
      cases r with
      | ok o S3 =>
        cases o with
        | nx dl => exact fun sg W1 e1 hS1 hE1 => g' .non W1 e1 hS1 .non
        | rt d => exact g'
        | bk dl => exact g'.elim
        | ct dl => exact g'.elim
      | ex c S3 => exact g'.elim
theorem calM {x : Str} {st : Stmt} {f : Addr} {fd : FuncData} {N ps : List Str} {k n : Nat} {m : SX} (F : Fun K x x st f fd) (hm : mg x = some (.ref f)) (hb : Binds K fd ps []) (S : FnScope N ps (defScope st)) (hn : ps.length = n)
    (body : ∀ (cd : Value) (A : Around) (outer : List Env) (s : Shared) (H : Hp) (E : XK), A.guards = some [] → Room k (A.deeper (envOfC x (defScope st) s.heap.objs.size f cd)) →
      Ssx (cxB P w K mg base N x st f cd A outer s H E) E0 (defBody st) m) : Cal P w K mg base (k + 1) x n (mFn N.length m) := by
  subst hn
  exact ⟨⟨f, fd, ps, fnM F S body, rfl, hm, F.kp, hb⟩, mFn_noex⟩
end
section
variable {X : Cx} {E : XK} {k j n : Nat} {x : Str} {m : Fn} {p pos : Pos} {e : Expr} {es : List Expr} {as : AX}
theorem run_cal {pins : List (Addr × Obj)} {sg : L2.St} {H : Hp} {s : Shared} {Q : VK} {us : List Value} {vs : List V} {f : Addr} {fd : FuncData} {ps : List Str} {sp : Sp} (F : FnG X.prog X.w X.K X.mg X.base CX0 k f fd ps sp) (hg : X.A.guards = some []) (hr : Room k X.A) (hb : Binds X.K fd ps [])
    (I : Inv X pins sg H s) (r : Vals vs us) (h : sp vs H Q E0) : wpAny (model X.prog X.w) X.A (call (.ref f) us) (EP X pins sg Q) X.xe s := by
  have hl : (us ++ []).length = ps.length := by rw [List.append_nil, ← r.length]; exact F.arity _ _ _ _ h
  have hB := hb s us I.kIn hl
  rw [List.append_nil] at hB
  refine wpAny_call (codeAny_mono (F.go X.A X.stack s H ⟨us, []⟩ us vs Q E0 hg hr I.env0 hB r h) fun r2 s2 hq => ?_)
  match r2, hq with
  | .ok (.ret u), hq => exact I.after hq
  | .ok .next, hq => exact hq.elim
  | .ok .brk, hq => exact hq.elim
  | .ok .cont, hq => exact hq.elim
  | .error e, hq => exact hq.elim
theorem ex_call (c : Cal X.prog X.w X.K X.mg X.base k x n m) (hgd : X.A.guards = some []) (hr : Room j X.A) (hk : k ≤ j) (hg : Gl X x) (ha : Axn X E (e :: es) as) (hn : (e :: es).length = n := by rfl) (hdb : (x == ("__debug__" : Str)) = false := by decide)
    (he : starEach (e :: es) X.env = (false, eval e X.env) :: starEach es X.env := by rfl) (hpl : (backTo pos (starEach es X.env)).any (·.1) = false := by rfl) : Ex X E (.Call (.Name x p) (e :: es) [] pos) (mCall m as) := by
  obtain ⟨⟨f, fd, ps, F, hps, hm, hkp, hb⟩, nx⟩ := c
  constructor
  intro pins s sg H Q I h
  refine wpAny_Call_Name_kw (ld_glob I hg hm ?_ hdb)
  obtain ⟨W, dl, S, hH, hE, hS, g⟩ := h
  have g' := good_bind.mp g
  have ht : tDA X.K E as sg H fun vs H1 => spM X.K n m vs H1 Q E0 := by
    refine ⟨W, dl, S, hH, hE, hS, ?_⟩
    cases q : as dl S with
    | none => rw [q] at g'; exact g'.elim
    | some r =>
      rw [q] at g'
      cases r with
      | ex c S1 => exact g'
      | ok ds S1 =>
        intro vs W1 e1 hS1 r1
        refine ⟨W1, ds, S1, rfl, r1, hS1, (ha.len _ _ _ _ q).trans hn, nx _ _ _ (PoE X.K E W1) ?_⟩
        exact good.mono g' (fun _ _ z => z.le e1) fun _ _ z => z.le e1
  refine PySem.W.callWith_K (h₀ := X.base) I.ok.mod.kin hkp (thn (ha.pa.run pos pins s sg H _ I ht) fun us s1 hh => ?_) he hpl
  obtain ⟨vs, H1, I1, r, q⟩ := hh
  exact ⟨I1.kIn, run_cal F hgd (hr.mono hk) hb I1 r q⟩
theorem ex_call0 (c : Cal X.prog X.w X.K X.mg X.base k x 0 m) (hgd : X.A.guards = some []) (hr : Room j X.A) (hk : k ≤ j) (hg : Gl X x) (hdb : (x == ("__debug__" : Str)) = false := by decide) : Ex X E (.Call (.Name x p) [] [] pos) (mCall m mNil) := by
  obtain ⟨⟨f, fd, ps, F, hps, hm, hkp, hb⟩, nx⟩ := c
  constructor
  intro pins s sg H Q I h
  refine wpAny_Call_Name_kw (ld_glob I hg hm ?_ hdb)
  obtain ⟨W, dl, S, hH, hE, hS, g⟩ := h
  subst hH
  exact PySem.W.callWith_K0 I.kIn hkp (run_cal (us := []) F hgd (hr.mono hk) hb I .nil ⟨W, [], S, rfl, .nil, hS, rfl, nx _ _ _ _ g⟩)
end
/-! ### statements -/
def sDone : SX := fun dl => M.pure (.nx dl)
def sSeq (a b : SX) : SX := fun dl => M.bind (a dl) fun o => match o with
  | .nx dl1 => b dl1
  | o => M.pure o
def sExpr (m : EX) : SX := fun dl => M.bind (m dl) fun _ => M.pure (.nx dl)
def sRet (m : EX) : SX := fun dl => M.bind (m dl) fun d => M.pure (.rt d)
def sIf (t : TX) (a b : SX) : SX := fun dl => M.bind (t dl) fun c => match c with
  | true => a dl
  | false => b dl
def sBreak : SX := fun dl => M.pure (.bk dl)
def sCont : SX := fun dl => M.pure (.ct dl)
def sFail : SX := fun _ => M.fail
abbrev GX := D → En → M En
def gN (i : Nat) : GX := fun d dl => M.pure (dl.set i (some d))
def gsNil : List D → En → M En := fun ds dl => match ds with
  | [] => M.pure dl
  | _ => M.fail
def gsCons (g : GX) (h : List D → En → M En) : List D → En → M En := fun ds dl => match ds with
  | d :: r => M.bind (g d dl) fun dl1 => h r dl1
  | [] => M.fail
def gT (n : Nat) (h : List D → En → M En) : GX := fun d dl => match d with
  | .tup ds => if ds.length = n then h ds dl else M.fail
  | _ => M.fail
def sAsg (m : EX) (g : GX) : SX := fun dl => M.bind (m dl) fun d => M.bind (g d dl) fun dl1 => M.pure (.nx dl1)
def PoG (K : PySem.W.Frag) (W : Wd) (Q : L2.St → Hp → Prop) : En → Sto → Prop := fun dl S => ∀ sg W', W.le W' → SR K W' S → EnvR K W' dl sg → Q sg W'.H
theorem PoG.le {K : PySem.W.Frag} {W W' : Wd} {Q : L2.St → Hp → Prop} {dl : En} {S : Sto} (h : PoG K W Q dl S) (e : W.le W') : PoG K W' Q dl S := fun sg W2 e2 s r => h sg W2 (e.trans e2) s r
def tDG (K : PySem.W.Frag) (E : XK) (g : GX) : TG := fun v sg H Q => ∃ W dl S d, W.H = H ∧ EnvR K W dl sg ∧ SR K W S ∧ Rp K W d v ∧ good (g d dl S) (PoG K W Q) (PoE K E W)
def tDGs (K : PySem.W.Frag) (E : XK) (g : List D → En → M En) : TGs := fun vs sg H Q => ∃ W dl S ds, W.H = H ∧ EnvR K W dl sg ∧ SR K W S ∧ Rps K W ds vs ∧ good (g ds dl S) (PoG K W Q) (PoE K E W)
theorem _root_.L2.PG.imp {X : Cx} {e : Expr} {t t' : TG} (h : PG X e t) (i : ∀ v sg H Q, t' v sg H Q → t v sg H Q) : PG X e t' := ⟨fun pins s σ H v u Q I r q => h.run pins s σ H v u Q I r (i _ _ _ _ q)⟩
theorem _root_.L2.PGs.imp {X : Cx} {e : List Expr} {t t' : TGs} (h : PGs X e t) (i : ∀ v sg H Q, t' v sg H Q → t v sg H Q) : PGs X e t' := ⟨fun pins s σ H v u Q I r q => h.run pins s σ H v u Q I r (i _ _ _ _ q)⟩
abbrev Gx (X : Cx) (E : XK) (e : Expr) (g : GX) : Prop := PG X e (tDG X.K E g)
abbrev Gsx (X : Cx) (E : XK) (e : List Expr) (g : List D → En → M En) : Prop := PGs X e (tDGs X.K E g)
section
variable {X : Cx} {E : XK} {pos : Pos} {e : Expr} {m : EX} {st : Stmt} {rest : List Stmt} {a b : SX}
theorem sx_done : Ssx X E [] sDone := pss_nil.imp fun N sg H h => by
  obtain ⟨W, dl, S, hH, hE, hS, g⟩ := h
  subst hH
  exact g sg W (.refl W) hS hE
theorem tDS.step {K : PySem.W.Frag} {m : SX} {f : Out → M Out} {sg : L2.St} {H : Hp} {N N2 : Ends} {W : Wd} {dl : En} {S : Sto} (hH : W.H = H) (hE : EnvR K W dl sg) (hS : SR K W S) (h : good (M.bind (m dl) f S) (PoS K W N) (PoE K E W))
    (k : ∀ o S1, good (f o S1) (PoS K W N) (PoE K E W) → PoS K W N2 o S1) : tDS K E m N2 sg H :=
  ⟨W, dl, S, hH, hE, hS, (good_bind.mp h).mono (fun o S1 g => k o S1 g) fun _ _ g => g⟩
theorem sx_seq (h1 : Sx X E st a) (h2 : Ssx X E rest b) : Ssx X E (st :: rest) (sSeq a b) := (pss_cons h1 h2).imp fun N sg H h => by
  obtain ⟨W, dl, S, hH, hE, hS, g⟩ := h
  refine tDS.step hH hE hS g fun o S1 g1 => ?_
  cases o with
  | nx dl1 => exact fun sg1 W1 e1 hS1 hE1 => ⟨W1, dl1, S1, rfl, hE1, hS1, g1.mono (fun _ _ q => q.le e1) fun _ _ q => q.le e1⟩
  | rt d => exact g1
  | bk dl1 => exact g1
  | ct dl1 => exact g1
theorem sx_one (h1 : Sx X E st a) : Ssx X E [st] a := pss_one h1
theorem sx_expr (he : Ex X E e m) (hs : swapsWith e none pos.line X.env = pure false := by rfl) : Sx X E (.Expr e pos) (sExpr m) := (ps_expr he hs).imp fun N sg H h => by
  obtain ⟨W, dl, S, hH, hE, hS, g⟩ := h
  exact tD.step hH hE hS g fun d S1 v W1 e1 hE1 hS1 r1 g1 => g1 sg W1 e1 hS1 hE1
theorem sx_doc {x j pos pos'} : Sx X E (.Expr (.Constant (.str x) j pos) pos') sDone := ps_doc.imp fun N sg H h => by
  obtain ⟨W, dl, S, hH, hE, hS, g⟩ := h
  subst hH
  exact g sg W (.refl W) hS hE
theorem sx_pass : Sx X E (.Pass pos) sDone := ps_pass.imp fun N sg H h => by
  obtain ⟨W, dl, S, hH, hE, hS, g⟩ := h
  subst hH
  exact g sg W (.refl W) hS hE
theorem sx_break : Sx X E (.Break pos) sBreak := ps_break.imp fun N sg H h => by
  obtain ⟨W, dl, S, hH, hE, hS, g⟩ := h
  subst hH
  exact g sg W (.refl W) hS hE
theorem sx_cont : Sx X E (.Continue pos) sCont := ps_continue.imp fun N sg H h => by
  obtain ⟨W, dl, S, hH, hE, hS, g⟩ := h
  subst hH
  exact g sg W (.refl W) hS hE
theorem sx_fail : Sx X E st sFail := ps_never.imp fun N sg H h => by
  obtain ⟨W, dl, S, hH, hE, hS, g⟩ := h
  exact g
theorem sx_ret (he : Ex X E e m) : Sx X E (.Return (some e) pos) (sRet m) := (ps_ret he).imp fun N sg H h => by
  obtain ⟨W, dl, S, hH, hE, hS, g⟩ := h
  exact tD.step hH hE hS g fun d S1 v W1 e1 hE1 hS1 r1 g1 => g1 v W1 e1 hS1 r1
theorem sx_retN : Sx X E (.Return none pos) (sRet (mC .non)) := ps_retN.imp fun N sg H h => by
  obtain ⟨W, dl, S, hH, hE, hS, g⟩ := h
  subst hH
  exact g .non W (.refl W) hS .non
theorem sx_if {c : Expr} {t : TX} {s1 s2 : List Stmt} (hc : Tx X E c t) (ha : Ssx X E s1 a) (hb : Ssx X E s2 b) : Sx X E (.If c s1 s2 pos) (sIf t a b) := (ps_if hc ha hb).imp fun N sg H h => by
  obtain ⟨W, dl, S, hH, hE, hS, g⟩ := h
  refine tDT.step hH hE hS g fun x S1 W1 e1 hE1 hS1 g1 => ?_
  cases x with
  | true => rw [if_pos rfl]; exact ⟨W1, dl, S1, rfl, hE1, hS1, g1.mono (fun _ _ q => q.le e1) fun _ _ q => q.le e1⟩
  | false => rw [if_neg Bool.false_ne_true]; exact ⟨W1, dl, S1, rfl, hE1, hS1, g1.mono (fun _ _ q => q.le e1) fun _ _ q => q.le e1⟩
/-! targets -/
theorem gx_name {i : Nat} {x : Str} (hN : X.N.Nodup) (hi : X.N[i]? = some x := by rfl) (hx : Loc X.env.scope x := by first | exact .inl rfl | exact .inr rfl) (hf : X.fn x = true ∨ X.env.scope.names.lookup x = some .local := by first | exact .inl rfl | exact .inr rfl) : Gx X E (.Name x pos) (gN i) := (pg_name hN hi hx hf).imp fun v sg H Q h => by
  obtain ⟨W, dl, S, d, hH, hE, hS, r, g⟩ := h
  subst hH
  exact g _ W (.refl W) hS (hE.set i r)
theorem gsx_nil : Gsx X E [] gsNil := pgs_nil.imp fun v sg H Q h => by
  obtain ⟨W, dl, S, ds, hH, hE, hS, r, g⟩ := h
  subst hH
  cases r with
  | nil => exact ⟨rfl, g sg W (.refl W) hS hE⟩
  | cons _ _ => exact g.elim
theorem gsx_cons {es : List Expr} {g1 : GX} {g2 : List D → En → M En} (h1 : Gx X E e g1) (h2 : Gsx X E es g2) (hs : (assignEach (e :: es) X.env).map (·.2) = assign e X.env :: (assignEach es X.env).map (·.2) := by rfl) : Gsx X E (e :: es) (gsCons g1 g2) := (pgs_cons h1 h2 hs).imp fun v sg H Q h => by
  obtain ⟨W, dl, S, ds, hH, hE, hS, r, g⟩ := h
  subst hH
  cases r with
  | nil => exact g.elim
  | cons r rs =>
    refine ⟨_, _, rfl, W, dl, S, _, rfl, hE, hS, r, (good_bind.mp g).mono (fun dl1 S1 q sg1 W1 e1 hS1 hE1 => ?_) fun _ _ q => q⟩
    exact ⟨W1, dl1, S1, _, rfl, hE1, hS1, Rps.le e1 rs, q.mono (fun _ _ q => q.le e1) fun _ _ q => q.le e1⟩
theorem gx_tup {es : List Expr} {k n : Nat} {h : List D → En → M En} (hc : X.calm = true) (hs : Gsx X E es h) (hn : (assignEach es X.env).length = n := by rfl) (hst : (assignEach es X.env).findIdx? (·.1) = none := by rfl) : Gx X E (.Tuple es k pos) (gT n h) := (pg_tup hc hs hn hst).imp fun v sg H Q q => by
  obtain ⟨W, dl, S, d, hH, hE, hS, r, g⟩ := q
  subst hH
  cases r <;> first | exact g.elim | skip
  rename_i a ds vs h1 h2
  change good ((if ds.length = n then h ds dl else M.fail) S) (PoG X.K W Q) (PoE X.K E W) at g
  by_cases hl : ds.length = n
  · rw [if_pos hl] at g
    exact ⟨a, vs, rfl, h1, by rw [← h2.length]; exact hl, W, dl, S, ds, rfl, hE, hS, h2, g⟩
  · rw [if_neg hl] at g
    exact g.elim
theorem sx_asg {tg : Expr} {g : GX} (he : Ex X E e m) (hg : Gx X E tg g) (hs : swapsWithSole [tg] e pos.line X.env = pure false := by rfl) (hw : swappedStores [tg] e X.env = pure none := by rfl)
    (h1 : (assignEach [tg] X.env).map (·.2) = [assign tg X.env] := by rfl) : Sx X E (.Assign [tg] e pos) (sAsg m g) := (ps_asg he hg hs hw h1).imp fun N sg H h => by
  obtain ⟨W, dl, S, hH, hE, hS, q⟩ := h
  refine tD.step hH hE hS q fun d S1 v W1 e1 hE1 hS1 r1 g1 => ?_
  refine ⟨W1, dl, S1, d, rfl, hE1, hS1, r1, ((good_bind.mp g1).mono (fun dl1 S2 q2 sg2 W2 e2 hS2 hE2 => ?_) fun _ _ z => z.le e1)⟩
  exact q2 sg2 W2 (e1.trans e2) hS2 hE2
theorem sx_set {i : Nat} {x : Str} {pos' : Pos} (hN : X.N.Nodup) (he : Ex X E e m) (hi : X.N[i]? = some x := by rfl) (hx : Loc X.env.scope x := by first | exact .inl rfl | exact .inr rfl) (hs : swapsWith e (some (.Name x pos')) pos.line X.env = pure false := by rfl)
    (hf : X.fn x = true ∨ X.env.scope.names.lookup x = some .local := by first | exact .inl rfl | exact .inr rfl) : Sx X E (.Assign [.Name x pos'] e pos) (sAsg m (gN i)) := (ps_set hN hi hx he hs hf).imp fun N sg H h => by
  obtain ⟨W, dl, S, hH, hE, hS, q⟩ := h
  exact tD.step hH hE hS q fun d S1 v W1 e1 hE1 hS1 r1 g1 => g1 _ W1 e1 hS1 (hE1.set i r1)
/-- a, b = e1, e2 by local names; three of them -/
def sPar (i j : Nat) (n : AX) : SX := fun dl => M.bind (n dl) fun ds => match ds with
  | [d, e] => M.pure (.nx ((dl.set i (some d)).set j (some e)))
  | _ => M.fail
def sPar3 (i j l : Nat) (n : AX) : SX := fun dl => M.bind (n dl) fun ds => match ds with
  | [d, e, f] => M.pure (.nx (((dl.set i (some d)).set j (some e)).set l (some f)))
  | _ => M.fail
theorem sx_par {i j : Nat} {x y : Str} {a b : Expr} {n : AX} {px py pt : Pos} {kt k2 pt2} (hc : X.calm = true) (hN : X.N.Nodup) (ha : Axn X E [a, b] n) (hw : swappedStores [.Tuple [.Name x px, .Name y py] kt pt] (.Tuple [a, b] k2 pt2) X.env = pure (some [x, y]) := by rfl)
    (hi : X.N[i]? = some x := by rfl) (hj : X.N[j]? = some y := by rfl) (hij : i ≠ j := by decide) (hx : X.env.scope.names.lookup x = some .local := by rfl) (hy : X.env.scope.names.lookup y = some .local := by rfl)
    (hs : swapsWithSole [.Tuple [.Name x px, .Name y py] kt pt] (.Tuple [a, b] k2 pt2) pos.line X.env = pure false := by rfl) : Sx X E (.Assign [.Tuple [.Name x px, .Name y py] kt pt] (.Tuple [a, b] k2 pt2) pos) (sPar i j n) := (ps_par hc hN hi hj hij hx hy ha.pa hw hs).imp fun N sg H h => by
  obtain ⟨W, dl, S, hH, hE, hS, q⟩ := h
  refine tDA.step hH hE hS q fun ds S1 vs W1 e1 hE1 hS1 rs g1 => ?_
  match ds, vs, rs, g1 with
  | [d, e], [v, u], .cons r (.cons r2 .nil), g1 => exact ⟨v, u, rfl, g1 _ W1 e1 hS1 ((hE1.set i r).set j r2)⟩
  | [], _, _, g1 => exact g1.elim
  | [_], _, _, g1 => exact g1.elim
  | _ :: _ :: _ :: _, _, _, g1 => exact g1.elim
theorem sx_par3 {i j l : Nat} {x y z : Str} {a b c : Expr} {n : AX} {px py pz pt : Pos} {kt k2 pt2} (hc : X.calm = true) (hN : X.N.Nodup) (ha : Axn X E [a, b, c] n) (hw : swappedStores [.Tuple [.Name x px, .Name y py, .Name z pz] kt pt] (.Tuple [a, b, c] k2 pt2) X.env = pure (some [x, y, z]) := by rfl)
    (hi : X.N[i]? = some x := by rfl) (hj : X.N[j]? = some y := by rfl) (hl : X.N[l]? = some z := by rfl) (hij : i ≠ j := by decide) (hil : i ≠ l := by decide) (hjl : j ≠ l := by decide) (hx : X.env.scope.names.lookup x = some .local := by rfl) (hy : X.env.scope.names.lookup y = some .local := by rfl) (hz : X.env.scope.names.lookup z = some .local := by rfl)
    (hs : swapsWithSole [.Tuple [.Name x px, .Name y py, .Name z pz] kt pt] (.Tuple [a, b, c] k2 pt2) pos.line X.env = pure false := by rfl) : Sx X E (.Assign [.Tuple [.Name x px, .Name y py, .Name z pz] kt pt] (.Tuple [a, b, c] k2 pt2) pos) (sPar3 i j l n) := (ps_par3 hc hN hi hj hl hij hil hjl hx hy hz ha.pa hw hs).imp fun N sg H h => by
  obtain ⟨W, dl, S, hH, hE, hS, q⟩ := h
  refine tDA.step hH hE hS q fun ds S1 vs W1 e1 hE1 hS1 rs g1 => ?_
  match ds, vs, rs, g1 with
  | [d, e, f], [v, u, t], .cons r (.cons r2 (.cons r3 .nil)), g1 => exact ⟨v, u, t, rfl, g1 _ W1 e1 hS1 (((hE1.set i r).set j r2).set l r3)⟩
  | [], _, _, g1 => exact g1.elim
  | [_], _, _, g1 => exact g1.elim
  | [_, _], _, _, g1 => exact g1.elim
  | _ :: _ :: _ :: _ :: _, _, _, g1 => exact g1.elim
end
end Qm

namespace Qm
open PySem PySem.Spec PyProof.Rows L2

/-! ### our values as data -/
def allO {α β : Type} (f : α → Option β) : List α → Option (List β)
  | [] => some []
  | x :: r => match f x, allO f r with
    | some y, some ys => some (y :: ys)
    | _, _ => none
def keyP : Key → PyData
  | .inl i => .int i
  | .inr x => .str x
def toP : Nat → Sto → D → Option PyData
  | 0, _, _ => none
  | k + 1, S, d => match d with
    | .non => some .none
    | .bl b => some (.bool b)
    | .int i => some (.int i)
    | .str x => some (.str x)
    | .tup ds => (allO (toP k S) ds).map .tuple
    | .fro ds => (allO (toP k S) ds).map .list
    | .ref n => match S[n]? with
      | some (.lst ds) => (allO (toP k S) ds).map .list
      | some (.dic kvs) => (allO (toP k S) (kvs.map (·.2))).map fun vs => .dict ((kvs.map fun kv => keyP kv.1).zip vs)
      | none => none
    | .adr _ => none
    | .ty _ => none
section
variable {X : Cx} {pins : List (Addr × Obj)} {sg : L2.St} {W : Wd} {S : Sto} {s : Shared}
theorem allO_cons {α β : Type} {f : α → Option β} {x : α} {r : List α} {ys : List β} (h : allO f (x :: r) = some ys) : ∃ z zs, f x = some z ∧ allO f r = some zs ∧ ys = z :: zs := by
  unfold allO at h
  split at h
  · rename_i y ys' h1 h2
    cases h
    exact ⟨y, ys', h1, h2, rfl⟩
  · cases h
theorem allO_len {α β : Type} {f : α → Option β} : ∀ {l : List α} {ys : List β}, allO f l = some ys → l.length = ys.length
  | [], _, h => by cases h; rfl
  | x :: r, _, h => by
    obtain ⟨z, zs, _, h2, rfl⟩ := allO_cons h
    rw [List.length_cons, List.length_cons, allO_len h2]
theorem depthAll_le {k : Nat} : ∀ {xs : List PyData}, (∀ x ∈ xs, x.depth ≤ k) → PyData.depthAll xs ≤ k
  | [], _ => by simp [PyData.depthAll]
  | x :: r, h => by
    simp only [PyData.depthAll]
    exact Nat.max_le.mpr ⟨h x (by simp), depthAll_le fun y hy => h y (List.mem_cons_of_mem _ hy)⟩
theorem depthKv_le {k : Nat} : ∀ {xs : List (PyData × PyData)}, (∀ x ∈ xs, x.1.depth ≤ k ∧ x.2.depth ≤ k) → PyData.depthKv xs ≤ k
  | [], _ => by simp [PyData.depthKv]
  | x :: r, h => by
    obtain ⟨a, b⟩ := x
    have h1 : a.depth ≤ k := (h (a, b) (by simp)).1
    have h2 : b.depth ≤ k := (h (a, b) (by simp)).2
    have h3 := depthKv_le (k := k) fun y hy => h y (List.mem_cons_of_mem (a, b) hy)
    simp only [PyData.depthKv]
    omega
theorem allO_mem {α β : Type} {f : α → Option β} : ∀ {l : List α} {ys : List β}, allO f l = some ys → ∀ y ∈ ys, ∃ x ∈ l, f x = some y
  | [], _, h, y, hy => by cases h; cases hy
  | x :: r, _, h, y, hy => by
    obtain ⟨z, zs, h1, h2, rfl⟩ := allO_cons h
    rcases List.mem_cons.mp hy with e | hy
    · subst e; exact ⟨x, by simp, h1⟩
    · obtain ⟨x2, m, e⟩ := allO_mem h2 y hy
      exact ⟨x2, List.mem_cons_of_mem _ m, e⟩
theorem keyP_depth (k : Key) : (keyP k).depth = 0 := by cases k <;> rfl
theorem toP_depth : ∀ (k : Nat) (d : D) (p : PyData), toP k S d = some p → p.depth ≤ k
  | 0, _, _, h => by cases h
  | k + 1, d, p, h => by
    have all : ∀ {ds : List D} {ps : List PyData}, allO (toP k S) ds = some ps → PyData.depthAll ps ≤ k := fun {ds ps} e => depthAll_le fun y hy => by
      obtain ⟨x, _, q⟩ := allO_mem e y hy
      exact toP_depth k x y q
    have one : ∀ {ds : List D} {p : PyData} {f : List PyData → PyData} (hf : ∀ ps, (f ps).depth = PyData.depthAll ps + 1), (allO (toP k S) ds).map f = some p → p.depth ≤ k + 1 := fun {ds p f} hf h => by
      cases e : allO (toP k S) ds with
      | none => rw [e] at h; cases h
      | some ps =>
        rw [e] at h
        cases h
        rw [hf]
        have := all e
        omega
    cases d with
    | non => cases h; exact Nat.zero_le _
    | bl b => cases h; exact Nat.zero_le _
    | int b => cases h; exact Nat.zero_le _
    | str b => cases h; exact Nat.zero_le _
    | tup ds => exact one (fun ps => by simp [PyData.depth]) h
    | fro ds => exact one (fun ps => by simp [PyData.depth]) h
    | adr a => cases h
    | ty a => cases h
    | ref n =>
      simp only [toP] at h
      split at h
      · exact one (fun ps => by simp [PyData.depth]) h
      · rename_i kvs e
        cases e : allO (toP k S) (kvs.map (·.2)) with
        | none => rw [e] at h; cases h
        | some ps =>
          rw [e] at h
          cases h
          simp only [PyData.depth]
          have : PyData.depthKv ((kvs.map fun kv => keyP kv.1).zip ps) ≤ k := depthKv_le fun x hx => by
            obtain ⟨a, b⟩ := x
            obtain ⟨h1, h2⟩ := List.of_mem_zip hx
            obtain ⟨q, _, rfl⟩ := List.mem_map.mp h1
            obtain ⟨x2, _, q2⟩ := allO_mem e b h2
            exact ⟨by show (keyP q.1).depth ≤ k; rw [keyP_depth]; exact Nat.zero_le _, toP_depth k x2 b q2⟩
          omega
      · cases h
/-- the lists' and dicts' places of a value -/
theorem readsAll_keys {P : Program} {w : World} {h : Heap} : ∀ {es : List DictEntry} {kvs : List (Key × Value)}, Pairs (mixKind P w) es kvs → ReadsAll h (es.map (·.key)) (kvs.map fun kv => keyP kv.1) []
  | _, _, .nil => .nil
  | _, _, .cons (e := e) (kv := kv) h1 h2 r => by
    have q : ReadsAll h (e.key :: _) (keyP kv.1 :: _) ([] ++ []) := .cons (by
      rcases keyIs_shape h1 with ⟨i, t, e1, e2⟩ | ⟨x, t, e1, e2⟩
      · rw [e1, e2]; exact .int i t
      · rw [e1, e2]; exact .str x t) (readsAll_keys r)
    exact q
theorem pairs_vals {P : Program} {w : World} : ∀ {es : List DictEntry} {kvs : List (Key × Value)}, Pairs (mixKind P w) es kvs → es.map (·.val) = kvs.map (·.2)
  | _, _, .nil => rfl
  | _, _, .cons h1 h2 r => by rw [List.map_cons, List.map_cons, h2, pairs_vals r]
theorem kv_keys : ∀ {kws : List (Key × V)} {kus : List (Key × Value)}, KV kws kus → kus.map (·.1) = kws.map (·.1) ∧ Vals (kws.map (·.2)) (kus.map (·.2))
  | _, _, .nil => ⟨rfl, .nil⟩
  | _, _, .cons r t => by
    obtain ⟨h1, h2⟩ := kv_keys t
    obtain ⟨q1, q2⟩ := r
    exact ⟨by rw [List.map_cons, List.map_cons, h1, q1], .cons q2 h2⟩
theorem zip_fst {α β : Type} : ∀ {xs : List α} {ys : List β}, xs.length = ys.length → (xs.zip ys).map (·.1) = xs
  | [], [], _ => rfl
  | x :: xs, y :: ys, h => by rw [List.zip_cons_cons, List.map_cons, zip_fst (by simpa using h)]
theorem zip_snd {α β : Type} : ∀ {xs : List α} {ys : List β}, xs.length = ys.length → (xs.zip ys).map (·.2) = ys
  | [], [], _ => rfl
  | x :: xs, y :: ys, h => by rw [List.zip_cons_cons, List.map_cons, zip_snd (by simpa using h)]
mutual
def noList : PyData → Bool
  | .list _ => false
  | .tuple xs => noListAll xs
  | .dict kvs => noListKv kvs
  | _ => true
def noListAll : List PyData → Bool
  | [] => true
  | x :: r => noList x && noListAll r
def noListKv : List (PyData × PyData) → Bool
  | [] => true
  | (_, v) :: r => noList v && noListKv r
end
theorem noListKv_snd : ∀ {kvs : List (PyData × PyData)}, noListKv kvs = noListAll (kvs.map (·.2))
  | [] => by simp [noListKv, noListAll]
  | (k, v) :: r => by simp [noListKv, noListAll, noListKv_snd (kvs := r)]
theorem toP_reads (hS : SR X.K W S) (I : Inv X pins sg W.H s) : ∀ (k : Nat) (d : D) (p : PyData) (v : V) (u : Value), toP k S d = some p → Rp X.K W d v → RelV v u → ∃ as, Reads s.heap u p as ∧ (noList p = true → sysModules ∉ as)
  | 0, _, _, _, _, h, _, _ => by cases h
  | k + 1, d, p, v, u, h, r, q => by
    have all : ∀ {ds : List D} {vs : List V} {us : List Value} {ps : List PyData}, Rps X.K W ds vs → Vals vs us → allO (toP k S) ds = some ps → ∃ as, ReadsAll s.heap us ps as ∧ (noListAll ps = true → sysModules ∉ as) := by
      intro ds vs us ps r
      induction ds generalizing vs us ps with
      | nil =>
        intro rv e
        cases r
        cases rv
        cases e
        exact ⟨[], .nil, fun _ => by simp⟩
      | cons d ds ih =>
        intro rv e
        cases r with
        | cons r1 r2 =>
          cases rv with
          | cons q1 q2 =>
            obtain ⟨z, zs, e1, e2, rfl⟩ := allO_cons e
            obtain ⟨as, h1, n1⟩ := toP_reads hS I k _ _ _ _ e1 r1 q1
            obtain ⟨bs, h2, n2⟩ := ih r2 q2 e2
            refine ⟨as ++ bs, .cons h1 h2, fun hn => ?_⟩
            simp only [noListAll, Bool.and_eq_true] at hn
            intro hm
            rcases List.mem_append.mp hm with hm | hm
            · exact n1 hn.1 hm
            · exact n2 hn.2 hm
    have seqL : ∀ {ds : List D} {vs : List V} {a : Addr} {p : PyData}, SqL X.K W.H a vs → Rps X.K W ds vs → (allO (toP k S) ds).map .list = some p → ∃ as, Reads s.heap (.ref a) p as ∧ (noList p = true → sysModules ∉ as) := by
      intro ds vs a p hs r h
      cases e : allO (toP k S) ds with
      | none => rw [e] at h; cases h
      | some ps =>
        rw [e] at h
        cases h
        obtain ⟨its, rv, ⟨o, n, ho, hc, _, hd⟩, _⟩ := I.list hs
        obtain ⟨as, hr, _⟩ := all r rv e
        exact ⟨_, Reads.list ho hc hd hr, fun hn => by simp [noList] at hn⟩
    cases r with
    | non => cases h; cases q; exact ⟨_, .none, fun _ => by simp⟩
    | bl b => cases h; cases q; exact ⟨_, .bool b, fun _ => by simp⟩
    | int i => cases h; obtain ⟨t, rfl⟩ := q; exact ⟨_, .int i t, fun _ => by simp⟩
    | str x => cases h; obtain ⟨t, rfl⟩ := q; exact ⟨_, .str x t, fun _ => by simp⟩
    | tup h1 h2 =>
      rename_i a ds vs
      simp only [toP] at h
      cases e : allO (toP k S) ds with
      | none => rw [e] at h; cases h
      | some ps =>
        rw [e] at h
        cases h
        cases q
        obtain ⟨its, rv, ⟨o, ho, hc, n, hd⟩, _⟩ := I.tuple h1
        obtain ⟨as, hr, hn⟩ := all h2 rv e
        exact ⟨_, Reads.tuple ho hc hd hr, fun z => hn (by simpa [noList] using z)⟩
    | fro h1 h2 => cases q; exact seqL h1.sq h2 h
    | adr a => cases h
    | ty a => cases h
    | ref hn =>
      rename_i n a
      simp only [toP] at h
      split at h
      · rename_i ds e
        have o := hS.ob n _ _ e hn
        cases o with
        | lst h1 h2 => cases q; exact seqL (.of h1) h2 h
      · rename_i kvs e
        have o := hS.ob n _ _ e hn
        cases o with
        | dic h1 h2 h3 =>
          rename_i kws
          cases e : allO (toP k S) (kvs.map (·.2)) with
          | none => rw [e] at h; cases h
          | some ps =>
            rw [e] at h
            cases h
            cases q
            obtain ⟨hz, hsys, kus, rkv, ⟨o, es, ep, ho, ⟨hc, _, _⟩, hd, _, pr, _⟩⟩ := I.hok a _ h1
            obtain ⟨k1, k2⟩ := kv_keys rkv
            have hv : ReadsAll s.heap (es.toList.map (·.val)) ps _ ∧ _ := (all h3 k2 e).choose_spec |> fun z => ⟨by rw [pairs_vals pr]; exact z.1, z.2⟩
            have hkeys := readsAll_keys (h := s.heap) pr
            have ek : (kus.map fun kv => keyP kv.1) = kvs.map fun kv => keyP kv.1 := by
              have : kus.map (·.1) = kvs.map (·.1) := k1.trans h2.symm
              have q := congrArg (List.map keyP) this
              rw [List.map_map, List.map_map] at q
              exact q
            rw [ek] at hkeys
            have hl : (kvs.map fun kv => keyP kv.1).length = ps.length := by
              have := allO_len e
              simpa using this
            have hlen2 := hl
            refine ⟨_, Reads.dict (kvs := (kvs.map fun kv => keyP kv.1).zip ps) ho hc hd (by rw [zip_fst hl]; exact hkeys) (by rw [zip_snd hl]; exact hv.1), fun hn hm => ?_⟩
            simp only [noList, noListKv_snd, zip_snd hl] at hn
            simp only [List.append_nil, List.cons_append, List.nil_append, List.mem_cons] at hm
            rcases hm with hm | hm
            · rw [hm] at hsys
              simp at hsys
            · exact hv.2 hn hm
      · cases h
end
end Qm

namespace Qm
open PySem PySem.Spec PyProof.Rows L2
theorem tmul_same (l : Addr) (items : Array Value) (n : Nat) (dd : Option Addr) (sl : Array (Option Value)) (x : Int) (u : Tok) (b0 : (decide (x < -(2 ^ 63)) || decide (x ≥ 2 ^ 63)) = false) (b1 : (items.isEmpty || x == 1) = true) :
    Meets (Builtin.«tuple.__mul__» ⟨[.ref l, .int x u], []⟩) (fun _ R s =>
      s.heap.get? l = some { cls := .type "tuple", dict := dd, data := .seq items n, slots := sl } ∧ R (.ok (.ret (Value.ref l))) s) :=
  .of_wp fun prog w A R s h => by
    obtain ⟨hp, g, d, tk, os⟩ := s
    obtain ⟨hl, h⟩ := h
    have i1 := AutoSeq1.idx_int
    wp_walk using wpAny_loadPart' hl
    repeat (first
      | (refine wpAny_ite_false (decide_eq_false (by rw [b0]; exact Bool.false_ne_true)) ?_
         wp_walk using wpAny_loadPart' hl)
      | (refine wpAny_ite_true (decide_eq_true (by rw [b1])) ?_
         wp_walk using wpAny_loadPart' hl))
    exact ⟨_, rfl, h⟩
theorem tmul_none (l : Addr) (items : Array Value) (n : Nat) (dd : Option Addr) (sl : Array (Option Value)) (x : Int) (u : Tok) (b0 : (decide (x < -(2 ^ 63)) || decide (x ≥ 2 ^ 63)) = false) (b1 : (items.isEmpty || x == 1) = false) (b2 : (decide (x ≤ 0) || items.isEmpty) = true) :
    Meets (Builtin.«tuple.__mul__» ⟨[.ref l, .int x u], []⟩) (fun _ R s =>
      s.heap.get? l = some { cls := .type "tuple", dict := dd, data := .seq items n, slots := sl } ∧
        R (.ok (.ret (Value.ref s.heap.objs.size))) { s with heap := s.heap.push { cls := Value.type "tuple", data := Data.seq #[] } }) :=
  .of_wp fun prog w A R s h => by
    obtain ⟨hp, g, d, tk, os⟩ := s
    obtain ⟨hl, h⟩ := h
    have i1 := AutoSeq1.idx_int
    wp_walk using wpAny_loadPart' hl
    repeat (first
      | (refine wpAny_ite_false (decide_eq_false (by rw [b0]; exact Bool.false_ne_true)) ?_
         wp_walk using wpAny_loadPart' hl)
      | (refine wpAny_ite_false (decide_eq_false (by rw [b1]; exact Bool.false_ne_true)) ?_
         wp_walk using wpAny_loadPart' hl)
      | (refine wpAny_ite_true (decide_eq_true (by rw [b2])) ?_
         wp_walk using wpAny_loadPart' hl))
    exact ⟨_, rfl, h⟩
/-- t * k by values -/
def rTM (K : PySem.W.Frag) : R2 := fun x y H Q => ∃ l k xs, x = .ref l ∧ y = .int k ∧ SqT K H l xs ∧ -(2 ^ 63) ≤ k ∧ k < 2 ^ 63 ∧ xs.length * k.toNat ≤ sizeLine ∧
  ((xs = [] ∨ k = 1) → Q (.ref l) H) ∧ (¬ (xs = [] ∨ k = 1) → ∀ p, H p = none → Q (.ref p) (upd H p (.tup (List.replicate k.toNat xs).flatten)))
section
variable {X : Cx}
theorem op_tm : OpR X (binaryOp .Mult) (rTM X.K) := by
  intro pins s sg H x y v u Q I rx ry h
  obtain ⟨l, k, xs, rfl, rfl, hT, hk1, hk2, hz, q1, q2⟩ := h
  cases rx
  obtain ⟨t, rfl⟩ := ry
  obtain ⟨its, r, ⟨⟨cls, dd, data, sl⟩, ho, hc, n, hd⟩, hs⟩ := I.tuple hT
  simp only at hc hd
  subst hc hd
  have hle : its.length = xs.length := r.length.symm
  have hsz0 : its.toArray.size = xs.length := by rw [List.size_toArray, hle]
  have hemp : its.toArray.isEmpty = xs.isEmpty := by
    cases xs with
    | nil => cases r; rfl
    | cons a b => cases r; rfl
  have b0 : (decide (k < -(2 ^ 63)) || decide (k ≥ 2 ^ 63)) = false := by
    rw [decide_eq_false (by omega), decide_eq_false (by omega)]; rfl
  have go : ∀ {R : Value → Shared → Prop} {E : Value → Shared → Prop}, wpAny (model X.prog X.w) X.A (binaryOp .Mult (.ref l) (.int k t)) R E s ↔ wpAny (model X.prog X.w) X.A (binaryOp .Mult (.ref l) (.int k t)) R E s := Iff.rfl
  by_cases hb : xs = [] ∨ k = 1
  · have b1 : (its.toArray.isEmpty || k == 1) = true := by
      rw [hemp]
      rcases hb with e | e
      · subst e; rfl
      · subst e; simp
    refine wpAny_binaryOp_repeat_ref (T := "tuple") (U := "int") (by decide) ⟨_, ho, rfl⟩ (fun s2 => typeIs_int s2 k t) noFill_tuple_mul F.fills_int_mul F.slot_int_rmul repeat_tuple F.slot_int_index.lookup ?_
    refine call_meets F.slot_int_rmul (typeIs_int s k t) F.entry_int_rmul (F.args_int_rmul_2 _ _) (int_rmul_tuple k t l its.toArray n dd sl) ?_
    refine ⟨ho, rfl, ⟨_, ho, rfl⟩, ?_⟩
    refine call_meets F.slot_tuple_mul ⟨_, ho, rfl⟩ F.entry_tuple_mul (F.args_tuple_mul_2 _ _) (tmul_same l its.toArray n dd sl k t b0 b1) ?_
    exact ⟨ho, .ref l, H, I, rfl, q1 hb⟩
  · have hx : xs ≠ [] := fun e => hb (.inl e)
    have hk : k ≠ 1 := fun e => hb (.inr e)
    have hxe : xs.isEmpty = false := by
      cases xs with
      | nil => exact absurd rfl hx
      | cons a b => rfl
    have b1 : (its.toArray.isEmpty || k == 1) = false := by
      rw [hemp, hxe, Bool.false_or]
      exact beq_eq_false_iff_ne.mpr hk
    refine wpAny_binaryOp_repeat_ref (T := "tuple") (U := "int") (by decide) ⟨_, ho, rfl⟩ (fun s2 => typeIs_int s2 k t) noFill_tuple_mul F.fills_int_mul F.slot_int_rmul repeat_tuple F.slot_int_index.lookup ?_
    refine call_meets F.slot_int_rmul (typeIs_int s k t) F.entry_int_rmul (F.args_int_rmul_2 _ _) (int_rmul_tuple k t l its.toArray n dd sl) ?_
    refine ⟨ho, rfl, ⟨_, ho, rfl⟩, ?_⟩
    have flen : (List.replicate k.toNat its).flatten.length ≤ sizeLine := by
      rw [PyProof.Rows.lm_len_rep_flat, hle, Nat.mul_comm]; exact hz
    by_cases h0 : k ≤ 0
    · have b2 : (decide (k ≤ 0) || its.toArray.isEmpty) = true := by rw [decide_eq_true h0]; rfl
      refine call_meets F.slot_tuple_mul ⟨_, ho, rfl⟩ F.entry_tuple_mul (F.args_tuple_mul_2 _ _) (tmul_none l its.toArray n dd sl k t b0 b1 b2) ?_
      have e0 : k.toNat = 0 := by omega
      have qq := q2 hb _ (I.hok.fresh (Nat.le_refl _))
      rw [e0] at qq
      refine ⟨ho, .ref s.heap.objs.size, _, I.laid (t' := s.toks) (o := .tup []) (fun b ob q => Heap.get?_push_of_some _ q) (Nat.le_refl _) ?_, rfl, qq⟩
      exact ⟨Nat.zero_le _, [], .nil, IsTup.new _ _⟩
    · have b2 : (decide (k ≤ 0) || its.toArray.isEmpty) = false := by rw [decide_eq_false h0, hemp, hxe]; rfl
      have hprod : ((its.toArray.size : Nat) : Int) * k = ((xs.length * k.toNat : Nat) : Int) := by
        rw [hsz0, Int.natCast_mul, Int.toNat_of_nonneg (by omega)]
      have hz' := hz
      rw [sizeLine_eq] at hz'
      have b3 : ¬ ((its.toArray.size : Nat) : Int) * k > (2 ^ 63 - 1) / 8 := by rw [hprod]; omega
      have b4 : Builtin.Tuple.tupleTooMany (((its.toArray.size : Nat) : Int) * k) = false := by
        unfold Builtin.Tuple.tupleTooMany
        rw [hprod, sizeLine_eq]
        exact decide_eq_false (by omega)
      refine call_meets F.slot_tuple_mul ⟨_, ho, rfl⟩ F.entry_tuple_mul (F.args_tuple_mul_2 _ _) (tuple_mulW l its.toArray n dd sl k t b0 b1 b2 b3 b4 (by rw [size_rep, List.size_toArray]; exact flen)) ?_
      refine ⟨ho, ?_⟩
      rw [size_rep]
      refine ⟨.ref s.heap.objs.size, _, I.laid (t' := s.toks) (o := .tup (List.replicate k.toNat xs).flatten) (fun b ob q => Heap.get?_push_of_some _ q) (Nat.le_refl _) ?_, rfl, q2 hb _ (I.hok.fresh (Nat.le_refl _))⟩
      exact ⟨by rw [PyProof.Rows.lm_len_rep_flat, Nat.mul_comm]; exact hz, _, r.rep k.toNat, IsTup.new _ _⟩
end
end Qm

namespace Qm
open PySem PySem.Spec PyProof.Rows L2
section
variable {X : Cx} {E : XK}
theorem OpD.mk {F : Value → Value → Sem Value} {f : D → D → M D} (h : ∀ (pins : List (Addr × Obj)) (s : Shared) (sg : L2.St) (W : Wd) (S : Sto) (x y : D) (vx vy : V) (v u : Value) (Q : VK), Inv X pins sg W.H s → SR X.K W S → Rp X.K W x vx → Rp X.K W y vy → RelV vx v → RelV vy u →
    good (f x y S) (PoV X.K W Q) (PoE X.K E W) → wpAny (model X.prog X.w) X.A (F v u) (EP X pins sg Q) X.xe s) : OpD X E F f :=
  ⟨fun vx vy H Q => ∃ W S x y, W.H = H ∧ SR X.K W S ∧ Rp X.K W x vx ∧ Rp X.K W y vy ∧ good (f x y S) (PoV X.K W Q) (PoE X.K E W), fun pins s sg H vx vy v u Q I r1 r2 ⟨W, S, x, y, e, hS, q1, q2, g⟩ => by
    subst e
    exact h pins s sg W S x y vx vy v u Q I hS q1 q2 r1 r2 g, fun W S x y vx vy Q hS q1 q2 g => ⟨W, S, x, y, rfl, hS, q1, q2, g⟩⟩
theorem CallD.mk {F : Value} {f : List D → M D} (h : ∀ (pins : List (Addr × Obj)) (s : Shared) (sg : L2.St) (W : Wd) (S : Sto) (ds : List D) (vs : List V) (us : List Value) (Q : VK), Inv X pins sg W.H s → SR X.K W S → Rps X.K W ds vs → Vals vs us →
    good (f ds S) (PoV X.K W Q) (PoE X.K E W) → wpAny (model X.prog X.w) X.A (call F us) (EP X pins sg Q) X.xe s) : CallD X E F f :=
  ⟨fun vs H Q => ∃ W S ds, W.H = H ∧ SR X.K W S ∧ Rps X.K W ds vs ∧ good (f ds S) (PoV X.K W Q) (PoE X.K E W), fun pins s sg H vs us Q I r1 ⟨W, S, ds, e, hS, q1, g⟩ => by
    subst e
    exact h pins s sg W S ds vs us Q I hS q1 r1 g, fun W S ds vs Q hS q1 g => ⟨W, S, ds, rfl, hS, q1, g⟩⟩
theorem MtD.mk {T id : String} {f : D → List D → M D} (h : ∀ (pins : List (Addr × Obj)) (s : Shared) (sg : L2.St) (W : Wd) (S : Sto) (x : D) (ds : List D) (vx : V) (vs : List V) (v : Value) (us : List Value) (Q : VK), Inv X pins sg W.H s → SR X.K W S → Rp X.K W x vx → Rps X.K W ds vs → RelV vx v → Vals vs us →
    good (f x ds S) (PoV X.K W Q) (PoE X.K E W) → wpAny (model X.prog X.w) X.A (call (.builtin id) (v :: us)) (EP X pins sg Q) X.xe s) : MtD X E T id f :=
  ⟨fun vx vs H Q => ∃ W S x ds, W.H = H ∧ SR X.K W S ∧ Rp X.K W x vx ∧ Rps X.K W ds vs ∧ good (f x ds S) (PoV X.K W Q) (PoE X.K E W), fun pins s sg H vx vs v us Q I r1 r2 ⟨W, S, x, ds, e, hS, q1, q2, g⟩ => by
    subst e
    exact h pins s sg W S x ds vx vs v us Q I hS q1 q2 r1 r2 g, fun W S x ds vx vs Q hS q1 q2 g => ⟨W, S, x, ds, rfl, hS, q1, q2, g⟩⟩

/-! ### lists of the store -/
def lstAt (S : Sto) (n : Nat) : Option (List D) := match S[n]? with
  | some (.lst ds) => some ds
  | _ => none
theorem lstAt_ob {K : PySem.W.Frag} {W : Wd} {S : Sto} {n : Nat} {ds : List D} {v : V} (h : lstAt S n = some ds) (hS : SR K W S) (r : Rp K W (.ref n) v) : ∃ a vs, v = .ref a ∧ W.H a = some (.lst vs) ∧ Rps K W ds vs ∧ W.ro[n]? = some a := by
  cases r with
  | ref q =>
    rename_i a
    unfold lstAt at h
    split at h
    · rename_i ds2 e
      cases h
      have o := hS.ob n _ _ e q
      cases o with
      | lst h1 h2 => exact ⟨a, _, rfl, h1, h2, q⟩
    · cases h
/-- what stands in a list or tuple -/
inductive Sq where
  | l (ds : List D) | t (ds : List D)
def seqD (x : D) (S : Sto) : Option (List D) := match x with
  | .tup ds => some ds
  | .fro ds => some ds
  | .ref n => lstAt S n
  | _ => none
theorem seqD_ok {K : PySem.W.Frag} {W : Wd} {S : Sto} {x : D} {ds : List D} {v : V} (h : seqD x S = some ds) (hS : SR K W S) (r : Rp K W x v) : ∃ a vs, v = .ref a ∧ (SqL K W.H a vs ∨ SqT K W.H a vs) ∧ Rps K W ds vs := by
  cases x <;> first | cases h; done | skip
  · cases h
    cases r with
    | tup h1 h2 => exact ⟨_, _, rfl, .inr h1, h2⟩
  · cases h
    cases r with
    | fro h1 h2 => exact ⟨_, _, rfl, .inl h1.sq, h2⟩
  · obtain ⟨a, vs, e, h1, h2, _⟩ := lstAt_ob h hS r
    exact ⟨a, vs, e, .inl (.of h1), h2⟩
def lseqD (x : D) (S : Sto) : Option (List D) := match x with
  | .fro ds => some ds
  | .ref n => lstAt S n
  | _ => none
theorem lseqD_ok {K : PySem.W.Frag} {W : Wd} {S : Sto} {x : D} {ds : List D} {v : V} (h : lseqD x S = some ds) (hS : SR K W S) (r : Rp K W x v) : ∃ a vs, v = .ref a ∧ SqL K W.H a vs ∧ Rps K W ds vs := by
  cases x <;> first | cases h; done | skip
  · cases h
    cases r with
    | fro h1 h2 => exact ⟨_, _, rfl, h1.sq, h2⟩
  · obtain ⟨a, vs, e, h1, h2, _⟩ := lstAt_ob h hS r
    exact ⟨a, vs, e, .of h1, h2⟩
abbrev fitL (n : Nat) : Bool := decide (n ≤ sizeLine)

/-! ### arithmetic -/
def addD (x y : D) : M D := fun S => match x, y with
  | .int i, .int j => some (.ok (.int (i + j)) S)
  | .str a, .str b => if a.length + b.length ≤ sizeLine then some (.ok (.str (a ++ b)) S) else none
  | .tup a, .tup b => if a.length + b.length ≤ sizeLine then some (.ok (.tup (a ++ b)) S) else none
  | .ref n, .ref m => match lstAt S n, lstAt S m with
    | some a, some b => if a.length + b.length ≤ sizeLine then newL (a ++ b) S else none
    | _, _ => none
  | _, _ => none
theorem op_addD : OpD X E (binaryOp .Add) addD := .mk fun pins s sg W S x y vx vy v u Q I hS q1 q2 r1 r2 g => by
  unfold addD at g
  split at g
  · cases q1; cases q2
    exact op_add pins s sg W.H _ _ v u Q I r1 r2 ⟨_, _, rfl, rfl, g _ W (.refl W) hS (.int _)⟩
  · rename_i a b
    cases q1; cases q2
    split at g
    · exact op_add_str pins s sg W.H _ _ v u Q I r1 r2 ⟨_, _, rfl, rfl, by assumption, g _ W (.refl W) hS (.str _)⟩
    · exact g.elim
  · rename_i a b
    cases q1 with
    | tup a1 a2 =>
      cases q2 with
      | tup b1 b2 =>
        split at g
        · rename_i hz
          refine op_catA pins s sg W.H _ _ v u Q I r1 r2 ⟨_, _, _, _, rfl, rfl, a1, b1, by rw [← a2.length, ← b2.length]; exact hz, fun e => ?_, fun e1 e2 => ?_, fun e1 e2 p hp => ?_⟩
          · subst e
            cases a2
            exact g _ W (.refl W) hS (.tup b1 b2)
          · subst e2
            cases b2
            rw [List.append_nil] at g
            exact g _ W (.refl W) hS (.tup a1 a2)
          · exact pushedT hS (a2.append b2) g p hp
        · exact g.elim
  · rename_i n m
    split at g
    · rename_i a b e1 e2
      split at g
      · rename_i hz
        obtain ⟨p, vs, rfl, h1, h2, _⟩ := lstAt_ob e1 hS q1
        obtain ⟨p2, us, rfl, k1, k2, _⟩ := lstAt_ob e2 hS q2
        exact op_cat pins s sg W.H _ _ v u Q I r1 r2 ⟨_, _, _, _, rfl, rfl, h1, k1, by rw [← h2.length, ← k2.length]; exact hz, fun q hq => pushed hS (h2.append k2) g q hq⟩
      · exact g.elim
    · exact g.elim
  · exact g.elim
def subD (x y : D) : M D := fun S => match x, y with
  | .int i, .int j => some (.ok (.int (i - j)) S)
  | _, _ => none
theorem op_subD : OpD X E (binaryOp .Sub) subD := .mk fun pins s sg W S x y vx vy v u Q I hS q1 q2 r1 r2 g => by
  unfold subD at g
  split at g
  · cases q1; cases q2
    exact op_sub pins s sg W.H _ _ v u Q I r1 r2 ⟨_, _, rfl, rfl, g _ W (.refl W) hS (.int _)⟩
  · exact g.elim
def mulD (x y : D) : M D := fun S => match x, y with
  | .int i, .int j => if (-(2 ^ 64) < i ∧ i < 2 ^ 64) ∨ (-(2 ^ 64) < j ∧ j < 2 ^ 64) then some (.ok (.int (i * j)) S) else none
  | .tup a, .int k => if -(2 ^ 63) ≤ k ∧ k < 2 ^ 63 ∧ a.length * k.toNat ≤ sizeLine then some (.ok (.tup (List.replicate k.toNat a).flatten) S) else none
  | .ref n, .int k => match lstAt S n with
    | some a => if -(2 ^ 63) ≤ k ∧ k < 2 ^ 63 ∧ a.length * k.toNat ≤ sizeLine then newL (List.replicate k.toNat a).flatten S else none
    | _ => none
  | _, _ => none
theorem flat_nil {α : Type} (n : Nat) : (List.replicate n ([] : List α)).flatten = [] := by
  induction n with
  | zero => rfl
  | succ n ih => rw [List.replicate_succ, List.flatten_cons, ih]; rfl
theorem op_mulD : OpD X E (binaryOp .Mult) mulD := .mk fun pins s sg W S x y vx vy v u Q I hS q1 q2 r1 r2 g => by
  unfold mulD at g
  split at g
  · cases q1; cases q2
    split at g
    · rename_i hc
      exact op_mul pins s sg W.H _ _ v u Q I r1 r2 ⟨_, _, rfl, rfl, hc, g _ W (.refl W) hS (.int _)⟩
    · exact g.elim
  · rename_i a k
    cases q2
    cases q1 with
    | tup a1 a2 =>
      split at g
      · rename_i hc
        obtain ⟨c1, c2, c3⟩ := hc
        refine op_tm pins s sg W.H _ _ v u Q I r1 r2 ⟨_, _, _, rfl, rfl, a1, c1, c2, by rw [← a2.length]; exact c3, fun e => ?_, fun e p hp => pushedT hS (a2.flat k.toNat) g p hp⟩
        have ea : (List.replicate k.toNat a).flatten = a := by
          rcases e with e | e
          · subst e
            cases a2
            exact flat_nil _
          · subst e
            simp
        rw [ea] at g
        exact g _ W (.refl W) hS (.tup a1 a2)
      · exact g.elim
  · rename_i n k
    cases q2
    split at g
    · rename_i a e1
      split at g
      · rename_i hc
        obtain ⟨c1, c2, c3⟩ := hc
        obtain ⟨p, vs, rfl, h1, h2, _⟩ := lstAt_ob e1 hS q1
        refine op_rep pins s sg W.H _ _ v u Q I r1 r2 ⟨_, _, _, rfl, rfl, h1, c1, c2, by rw [← h2.length]; exact c3, fun q hq => pushed hS (h2.flat k.toNat) g q hq⟩
      · exact g.elim
    · exact g.elim
  · exact g.elim
def fdivD (x y : D) : M D := fun S => match x, y with
  | .int i, .int j => if 0 < j ∧ j < 1073741824 then some (.ok (.int (i / j)) S) else none
  | _, _ => none
theorem op_fdivD : OpD X E (binaryOp .FloorDiv) fdivD := .mk fun pins s sg W S x y vx vy v u Q I hS q1 q2 r1 r2 g => by
  unfold fdivD at g
  split at g
  · cases q1; cases q2
    split at g
    · rename_i hc
      exact op_fdiv pins s sg W.H _ _ v u Q I r1 r2 ⟨_, _, rfl, rfl, hc, g _ W (.refl W) hS (.int _)⟩
    · exact g.elim
  · exact g.elim
def modD (x y : D) : M D := fun S => match x, y with
  | .int i, .int j => if 0 < j then some (.ok (.int (i % j)) S) else none
  | _, _ => none
theorem op_modD : OpD X E (binaryOp .Mod) modD := .mk fun pins s sg W S x y vx vy v u Q I hS q1 q2 r1 r2 g => by
  unfold modD at g
  split at g
  · cases q1; cases q2
    split at g
    · rename_i hc
      exact op_mod pins s sg W.H _ _ v u Q I r1 r2 ⟨_, _, rfl, rfl, hc, g _ W (.refl W) hS (.int _)⟩
    · exact g.elim
  · exact g.elim
def powD (x y : D) : M D := fun S => match x, y with
  | .int i, .int j => if 0 ≤ j ∧ j ≤ 1000000 ∧ i.natAbs < 2 ^ 64 then some (.ok (.int (i ^ j.toNat)) S) else none
  | _, _ => none
theorem op_powD : OpD X E (binaryOp .Pow) powD := .mk fun pins s sg W S x y vx vy v u Q I hS q1 q2 r1 r2 g => by
  unfold powD at g
  split at g
  · cases q1; cases q2
    split at g
    · rename_i hc
      exact op_pow pins s sg W.H _ _ v u Q I r1 r2 ⟨_, _, rfl, rfl, hc, g _ W (.refl W) hS (.int _)⟩
    · exact g.elim
  · exact g.elim
def negD (x : D) : M D := fun S => match x with
  | .int i => some (.ok (.int (-i)) S)
  | _ => none
theorem un_negD : UnD X E (unaryOp .USub) negD := ⟨_, un_neg, fun W S x vx Q hS q1 g => by
  unfold negD at g
  split at g
  · cases q1
    exact ⟨_, rfl, g _ W (.refl W) hS (.int _)⟩
  · exact g.elim⟩

/-! ### comparisons -/
def cmpI (f : Int → Int → Bool) (x y : D) : M D := fun S => match x, y with
  | .int i, .int j => some (.ok (.bl (f i j)) S)
  | _, _ => none
theorem op_cmpI {op : CmpOp} {f : Int → Int → Bool} (ho : OpR X (compareOp op) (rI0 fun i j => .bl (f i j))) : OpD X E (compareOp op) (cmpI f) := ⟨_, ho, fun W S x y vx vy Q hS q1 q2 g => by
  unfold cmpI at g
  split at g
  · cases q1; cases q2
    exact ⟨_, _, rfl, rfl, g _ W (.refl W) hS (.bl _)⟩
  · exact g.elim⟩
def ltD : D → D → M D := cmpI fun i j => decide (i < j)
def leD : D → D → M D := cmpI fun i j => decide (i ≤ j)
def gtD : D → D → M D := cmpI fun i j => decide (j < i)
def geD : D → D → M D := cmpI fun i j => decide (j ≤ i)
theorem op_ltD : OpD X E (compareOp .Lt) ltD := op_cmpI op_lt
theorem op_leD : OpD X E (compareOp .LtE) leD := op_cmpI op_le
theorem op_gtD : OpD X E (compareOp .Gt) gtD := op_cmpI op_gt
theorem op_geD : OpD X E (compareOp .GtE) geD := op_cmpI op_ge
def isD (x y : D) : M D := fun S => match x, y with
  | .non, .non => some (.ok (.bl true) S)
  | _, .non => some (.ok (.bl false) S)
  | _, _ => none
def notIsD (x y : D) : M D := fun S => match x, y with
  | .non, .non => some (.ok (.bl false) S)
  | _, .non => some (.ok (.bl true) S)
  | _, _ => none
theorem op_isD : OpD X E (compareOp .Is) isD := ⟨_, op_isN, fun W S x y vx vy Q hS q1 q2 g => by
  cases y <;> first | (cases x <;> exact g.elim) | skip
  cases q2
  refine ⟨rfl, ?_⟩
  cases q1 <;> exact g _ W (.refl W) hS (.bl _)⟩
theorem op_notIsD : OpD X E (compareOp .IsNot) notIsD := ⟨_, op_notN, fun W S x y vx vy Q hS q1 q2 g => by
  cases y <;> first | (cases x <;> exact g.elim) | skip
  cases q2
  refine ⟨rfl, ?_⟩
  cases q1 <;> exact g _ W (.refl W) hS (.bl _)⟩
def eqS (x y : D) : Option Bool := match x, y with
  | .str a, .str b => some (decide (a = b))
  | _, _ => none
theorem eqS_some {x y : D} {b : Bool} (h : eqS x y = some b) : ∃ u v, x = .str u ∧ y = .str v ∧ b = decide (u = v) := by
  unfold eqS at h
  split at h
  · cases h; exact ⟨_, _, rfl, rfl, rfl⟩
  · cases h
def eqP (x y : D) (S : Sto) : Option Bool := match toP 64 S x, toP 64 S y with
  | some p, some q => if p.canLay0 = true ∧ q.canLay0 = true then some (PyData.eqv p q) else none
  | _, _ => none
def eqB (x y : D) (S : Sto) : Option Bool := match eqS x y with
  | some b => some b
  | none => eqP x y S
def eqD (x y : D) : M D := fun S => (eqB x y S).bind fun b => some (.ok (.bl b) S)
def neD (x y : D) : M D := fun S => (eqB x y S).bind fun b => some (.ok (.bl (!b)) S)
theorem eqP_some {x y : D} {S : Sto} {b : Bool} (h : eqP x y S = some b) : ∃ p q, toP 64 S x = some p ∧ toP 64 S y = some q ∧ SeqAt.shaped p = true ∧ SeqAt.shaped q = true ∧ PyData.eqv p q = b := by
  unfold eqP at h
  split at h
  · rename_i p q h1 h2
    split at h
    · rename_i hc
      cases h
      refine ⟨p, q, h1, h2, ?_, ?_, rfl⟩
      · unfold SeqAt.shaped
        rw [hc.1, decide_eq_true (toP_depth _ _ _ h1)]; rfl
      · unfold SeqAt.shaped
        rw [hc.2, decide_eq_true (toP_depth _ _ _ h2)]; rfl
    · cases h
  · cases h
theorem op_eqDD {j : Nat} (hr : Room j X.A) : OpD X E (compareOp .Eq) eqD := .mk fun pins s sg W S x y vx vy v u Q I hS q1 q2 r1 r2 g => by
  unfold eqD at g
  cases e : eqB x y S with
  | none => rw [e] at g; exact g.elim
  | some b =>
    rw [e] at g
    unfold eqB at e
    cases es : eqS x y with
    | some b2 =>
      rw [es] at e
      cases e
      obtain ⟨a1, a2, rfl, rfl, rfl⟩ := eqS_some es
      cases q1; cases q2
      refine op_eq pins s sg W.H _ _ v u Q I r1 r2 ⟨rfl, ?_⟩
      have ed : decide (V.str a1 = V.str a2) = decide (a1 = a2) := by simp
      rw [ed]
      exact g _ W (.refl W) hS (.bl _)
    | none =>
    rw [es] at e
    obtain ⟨p, q, h1, h2, s1, s2, rfl⟩ := eqP_some e
    obtain ⟨as, R1, _⟩ := toP_reads hS I 64 x p vx v h1 q1 r1
    obtain ⟨bs, R2, _⟩ := toP_reads hS I 64 y q vy u h2 q2 r2
    exact SeqAt.compareEq_shaped R1 R2 s1 s2 hr.units ⟨.bl _, W.H, I, rfl, g _ W (.refl W) hS (.bl _)⟩
theorem op_neDD {j : Nat} (hr : Room j X.A) : OpD X E (compareOp .NotEq) neD := .mk fun pins s sg W S x y vx vy v u Q I hS q1 q2 r1 r2 g => by
  unfold neD at g
  cases e : eqB x y S with
  | none => rw [e] at g; exact g.elim
  | some b =>
    rw [e] at g
    unfold eqB at e
    cases es : eqS x y with
    | some b2 =>
      rw [es] at e
      cases e
      obtain ⟨a1, a2, rfl, rfl, rfl⟩ := eqS_some es
      cases q1; cases q2
      refine op_ne pins s sg W.H _ _ v u Q I r1 r2 ⟨rfl, ?_⟩
      have ed : decide (V.str a1 = V.str a2) = decide (a1 = a2) := by simp
      rw [ed]
      exact g _ W (.refl W) hS (.bl _)
    | none =>
    rw [es] at e
    obtain ⟨p, q, h1, h2, s1, s2, rfl⟩ := eqP_some e
    obtain ⟨as, R1, _⟩ := toP_reads hS I 64 x p vx v h1 q1 r1
    obtain ⟨bs, R2, _⟩ := toP_reads hS I 64 y q vy u h2 q2 r2
    exact SeqAt.compareNe_shaped R1 R2 s1 s2 hr.units ⟨.bl _, W.H, I, rfl, g _ W (.refl W) hS (.bl _)⟩
/-! in -/
def flatD : D → Option V
  | .non => some .non
  | .bl b => some (.bl b)
  | .int i => some (.int i)
  | .str x => some (.str x)
  | _ => none
theorem flatD_ok {K : PySem.W.Frag} {W : Wd} {d : D} {v u : V} (h : flatD d = some u) (r : Rp K W d v) : v = u ∧ flatV v = true := by
  cases d <;> first | cases h; done | skip
  all_goals (cases h; cases r; exact ⟨rfl, rfl⟩)
theorem allFlat {K : PySem.W.Frag} {W : Wd} : ∀ {ds : List D} {vs us : List V}, allO flatD ds = some us → Rps K W ds vs → vs = us ∧ vs.all flatV = true
  | [], _, _, h, r => by cases h; cases r; exact ⟨rfl, rfl⟩
  | d :: ds, _, _, h, r => by
    obtain ⟨z, zs, h1, h2, rfl⟩ := allO_cons h
    cases r with
    | cons r1 r2 =>
      obtain ⟨e1, f1⟩ := flatD_ok h1 r1
      obtain ⟨e2, f2⟩ := allFlat h2 r2
      subst e1 e2
      exact ⟨rfl, by rw [List.all_cons, f1, f2]; rfl⟩
def inB (x y : D) (S : Sto) : Option Bool := match flatD x, (seqD y S).bind (allO flatD) with
  | some v, some vs => some (inV v vs)
  | _, _ => none
def inD (x y : D) : M D := fun S => (inB x y S).bind fun b => some (.ok (.bl b) S)
def notInD (x y : D) : M D := fun S => (inB x y S).bind fun b => some (.ok (.bl (!b)) S)
theorem inB_some {K : PySem.W.Frag} {W : Wd} {x y : D} {S : Sto} {b : Bool} {vx vy : V} (h : inB x y S = some b) (hS : SR K W S) (q1 : Rp K W x vx) (q2 : Rp K W y vy) :
    ∃ p xs, vy = .ref p ∧ (SqL K W.H p xs ∨ SqT K W.H p xs) ∧ flatV vx = true ∧ xs.all flatV = true ∧ inV vx xs = b := by
  unfold inB at h
  cases e2 : seqD y S with
  | none =>
    rw [e2] at h
    exfalso
    cases hx : flatD x <;> (rw [hx] at h; cases h)
  | some ds =>
    rw [e2] at h
    split at h
    · rename_i v vs h1 h2
      cases h
      obtain ⟨a, us, rfl, hs, hr⟩ := seqD_ok e2 hS q2
      obtain ⟨e3, f1⟩ := flatD_ok h1 q1
      obtain ⟨e4, f2⟩ := allFlat h2 hr
      subst e3 e4
      exact ⟨a, _, rfl, hs, f1, f2, rfl⟩
    · cases h
theorem op_inDD : OpD X E (compareOp .In) inD := ⟨_, op_in_seq, fun W S x y vx vy Q hS q1 q2 g => by
  unfold inD at g
  cases e : inB x y S with
  | none => rw [e] at g; exact g.elim
  | some b =>
    rw [e] at g
    obtain ⟨p, xs, h1, h2, h3, h4, h5⟩ := inB_some e hS q1 q2
    subst h5
    exact ⟨p, xs, h1, h2, h3, h4, g _ W (.refl W) hS (.bl _)⟩⟩
theorem op_notInDD : OpD X E (compareOp .NotIn) notInD := ⟨_, op_notIn_seq, fun W S x y vx vy Q hS q1 q2 g => by
  unfold notInD at g
  cases e : inB x y S with
  | none => rw [e] at g; exact g.elim
  | some b =>
    rw [e] at g
    obtain ⟨p, xs, h1, h2, h3, h4, h5⟩ := inB_some e hS q1 q2
    subst h5
    exact ⟨p, xs, h1, h2, h3, h4, g _ W (.refl W) hS (.bl _)⟩⟩
/-! ### subscripts -/
def ixD (x y : D) : M D := fun S => match y with
  | .int i => (seqD x S).bind fun ds => (atI ds i).bind fun d => some (.ok d S)
  | _ => none
theorem atI_ok {K : PySem.W.Frag} {W : Wd} {ds : List D} {vs : List V} {i : Int} {d : D} (h : atI ds i = some d) (r : Rps K W ds vs) : ∃ v, atI vs i = some v ∧ Rp K W d v := by
  unfold atI at h ⊢
  rw [← r.length]
  cases e : ixN ds.length i with
  | none => rw [e] at h; cases h
  | some j =>
    rw [e] at h
    exact r.get h
theorem ix_D : IxD X E ixD := ⟨_, ix_seq, fun W S x y vx vy Q hS q1 q2 g => by
  unfold ixD at g
  split at g
  · cases q2
    rename_i i
    cases e : seqD x S with
    | none => rw [e] at g; exact g.elim
    | some ds =>
      rw [e] at g
      dsimp only [Option.bind] at g
      cases e2 : atI ds i with
      | none => rw [e2] at g; exact g.elim
      | some d =>
        rw [e2] at g
        obtain ⟨a, vs, rfl, hs, hr⟩ := seqD_ok e hS q1
        obtain ⟨v, h1, h2⟩ := atI_ok e2 hr
        have gg := g v W (.refl W) hS h2
        rcases hs with hs | hs
        · exact .inl ⟨a, vs, i, v, rfl, rfl, hs, h1, gg⟩
        · exact .inr (.inl ⟨a, vs, i, v, rfl, rfl, hs, h1, gg⟩)
  · exact g.elim⟩
def cutD (xs : List D) (lo hi : Option Int) : List D := (xs.drop (HT.sIx xs.length 0 lo)).take (HT.sIx xs.length xs.length hi - HT.sIx xs.length 0 lo)
theorem cutD_ok {K : PySem.W.Frag} {W : Wd} {ds : List D} {vs : List V} (r : Rps K W ds vs) (lo hi : Option Int) : Rps K W (cutD ds lo hi) (cutV vs lo hi) := by
  unfold cutD cutV
  rw [r.length]
  exact (r.drop _).take _
def slD (x : D) (lo hi : Option Int) : M D := fun S => match x with
  | .tup ds => some (.ok (.tup (cutD ds lo hi)) S)
  | .fro ds => newL (cutD ds lo hi) S
  | .ref n => (lstAt S n).bind fun ds => newL (cutD ds lo hi) S
  | _ => none
theorem cut_whole {α : Type} (xs : List α) (lo hi : Option Int) (h : HT.sIx xs.length 0 lo = 0 ∧ HT.sIx xs.length xs.length hi = xs.length) : (xs.drop (HT.sIx xs.length 0 lo)).take (HT.sIx xs.length xs.length hi - HT.sIx xs.length 0 lo) = xs := by
  rw [h.1, h.2, List.drop_zero, Nat.sub_zero, List.take_length]
theorem sl_D : SlD X E slD := ⟨_, sl_tupA.or sl_list, fun W S x lo hi vx Q hS q1 g => by
  unfold slD at g
  split at g
  · rename_i ds
    cases q1 with
    | tup h1 h2 =>
      refine .inl ⟨_, _, rfl, h1, fun hw => ?_, fun hw p hp => pushedT hS (cutD_ok h2 lo hi) g p hp⟩
      rw [← h2.length] at hw
      have e : cutD ds lo hi = ds := cut_whole ds lo hi hw
      rw [e] at g
      exact g _ W (.refl W) hS (.tup h1 h2)
  · cases q1 with
    | fro h1 h2 => exact .inr ⟨_, _, rfl, h1.sq, fun p hp => pushed hS (cutD_ok h2 lo hi) g p hp⟩
  · rename_i n
    cases e : lstAt S n with
    | none => rw [e] at g; exact g.elim
    | some ds =>
      rw [e] at g
      obtain ⟨a, vs, rfl, h1, h2, _⟩ := lstAt_ob e hS q1
      exact .inr ⟨_, _, rfl, .of h1, fun p hp => pushed hS (cutD_ok h2 lo hi) g p hp⟩
  · exact g.elim⟩
end
end Qm

namespace Qm
open PySem PySem.Spec PyProof.Rows L2
section
variable {X : Cx} {E : XK}
/-! ### built-in functions -/
def strLen (x : Str) : Option Nat := if x.length ≤ sizeLine then some x.length else none
def lenD : List D → M D := fun ds S => match ds with
  | [.str x] => (strLen x).bind fun n => some (.ok (.int n) S)
  | [x] => (seqD x S).bind fun xs => some (.ok (.int xs.length) S)
  | _ => none
theorem call_lenDD : CallD X E (.builtin "len") lenD := ⟨_, call_len, fun W S ds vs Q hS rs g => by
  unfold lenD at g
  split at g
  · rename_i x
    cases rs with
    | cons r1 r2 =>
      cases r2
      cases r1
      unfold strLen at g
      split at g
      · rename_i hz
        exact ⟨_, _, rfl, ⟨hz, rfl⟩, g _ W (.refl W) hS (.int _)⟩
      · exact g.elim
  · rename_i x hx
    cases rs with
    | cons r1 r2 =>
      cases r2
      cases e : seqD x S with
      | none => rw [e] at g; exact g.elim
      | some xs =>
        rw [e] at g
        obtain ⟨a, us, rfl, hs, hr⟩ := seqD_ok e hS r1
        refine ⟨_, us.length, rfl, ?_, by rw [← hr.length]; exact g _ W (.refl W) hS (.int _)⟩
        rcases hs with hs | hs
        · exact .inl ⟨us, hs, rfl⟩
        · exact .inr ⟨us, hs, rfl⟩
  · exact g.elim⟩
def max2D : List D → M D := fun ds S => match ds with
  | [.int i, .int j] => some (.ok (.int (if j > i then j else i)) S)
  | _ => none
def min2D : List D → M D := fun ds S => match ds with
  | [.int i, .int j] => some (.ok (.int (if j < i then j else i)) S)
  | _ => none
theorem call_max2D (hc : X.calm = true) : CallD X E (.builtin "max") max2D := ⟨_, call_max2 hc, fun W S ds vs Q hS rs g => by
  unfold max2D at g
  split at g
  · cases rs with
    | cons r1 r2 => cases r2 with
      | cons r2 r3 => cases r3; cases r1; cases r2; exact ⟨_, _, rfl, g _ W (.refl W) hS (.int _)⟩
  · exact g.elim⟩
theorem call_min2D (hc : X.calm = true) : CallD X E (.builtin "min") min2D := ⟨_, call_min2 hc, fun W S ds vs Q hS rs g => by
  unfold min2D at g
  split at g
  · cases rs with
    | cons r1 r2 => cases r2 with
      | cons r2 r3 => cases r3; cases r1; cases r2; exact ⟨_, _, rfl, g _ W (.refl W) hS (.int _)⟩
  · exact g.elim⟩
def intD : D → Option Int
  | .int i => some i
  | _ => none
def blD : D → Option Bool
  | .bl i => some i
  | _ => none
theorem ints_of {K : PySem.W.Frag} {W : Wd} : ∀ {ds : List D} {is : List Int} {vs : List V}, allO intD ds = some is → Rps K W ds vs → vs = is.map V.int
  | [], _, _, h, r => by cases h; cases r; rfl
  | d :: ds, _, _, h, r => by
    obtain ⟨z, zs, h1, h2, rfl⟩ := allO_cons h
    cases r with
    | cons r1 r2 =>
      cases d <;> first | cases h1; done | skip
      cases h1
      cases r1
      rw [ints_of h2 r2]; rfl
theorem bls_of {K : PySem.W.Frag} {W : Wd} : ∀ {ds : List D} {is : List Bool} {vs : List V}, allO blD ds = some is → Rps K W ds vs → vs = is.map V.bl
  | [], _, _, h, r => by cases h; cases r; rfl
  | d :: ds, _, _, h, r => by
    obtain ⟨z, zs, h1, h2, rfl⟩ := allO_cons h
    cases r with
    | cons r1 r2 =>
      cases d <;> first | cases h1; done | skip
      cases h1
      cases r1
      rw [bls_of h2 r2]; rfl
/-- a built-in of one list of ints, of bools -/
def lsI (f : List Int → M D) : List D → M D := fun ds S => match ds with
  | [x] => ((lseqD x S).bind (allO intD)).bind fun is => f is S
  | _ => none
def lsB (f : List Bool → M D) : List D → M D := fun ds S => match ds with
  | [x] => ((lseqD x S).bind (allO blD)).bind fun is => f is S
  | _ => none
theorem lsI_some {K : PySem.W.Frag} {W : Wd} {f : List Int → M D} {ds : List D} {vs : List V} {S : Sto} {P : D → Sto → Prop} {EE : Value → Sto → Prop} (g : good (lsI f ds S) P EE) (hS : SR K W S) (rs : Rps K W ds vs) :
    ∃ a is, vs = [.ref a] ∧ SqL K W.H a (is.map V.int) ∧ good (f is S) P EE := by
  unfold lsI at g
  split at g
  · rename_i x
    cases rs with
    | cons r1 r2 =>
      cases r2
      cases e : lseqD x S with
      | none => rw [e] at g; exact g.elim
      | some xs =>
        rw [e] at g
        cases e2 : allO intD xs with
        | none => rw [show (some xs).bind (allO intD) = none from e2] at g; exact g.elim
        | some is =>
          rw [show (some xs).bind (allO intD) = some is from e2] at g
          obtain ⟨a, us, rfl, hs, hr⟩ := lseqD_ok e hS r1
          have := ints_of e2 hr
          subst this
          exact ⟨a, is, rfl, hs, g⟩
  · exact g.elim
theorem lsB_some {K : PySem.W.Frag} {W : Wd} {f : List Bool → M D} {ds : List D} {vs : List V} {S : Sto} {P : D → Sto → Prop} {EE : Value → Sto → Prop} (g : good (lsB f ds S) P EE) (hS : SR K W S) (rs : Rps K W ds vs) :
    ∃ a is, vs = [.ref a] ∧ SqL K W.H a (is.map V.bl) ∧ good (f is S) P EE := by
  unfold lsB at g
  split at g
  · rename_i x
    cases rs with
    | cons r1 r2 =>
      cases r2
      cases e : lseqD x S with
      | none => rw [e] at g; exact g.elim
      | some xs =>
        rw [e] at g
        cases e2 : allO blD xs with
        | none => rw [show (some xs).bind (allO blD) = none from e2] at g; exact g.elim
        | some is =>
          rw [show (some xs).bind (allO blD) = some is from e2] at g
          obtain ⟨a, us, rfl, hs, hr⟩ := lseqD_ok e hS r1
          have := bls_of e2 hr
          subst this
          exact ⟨a, is, rfl, hs, g⟩
  · exact g.elim
def sumD : List D → M D := lsI fun is => M.pure (.int is.sum)
def allD : List D → M D := lsB fun bs => M.pure (.bl (bs.all id))
def anyD : List D → M D := lsB fun bs => M.pure (.bl (bs.any id))
def sortI (is : List Int) : List Int := is.mergeSort fun a b => decide (a ≤ b)
def sortedD : List D → M D := lsI fun is => if is.length < 64 then newL ((sortI is).map D.int) else M.fail
theorem call_sumD (hc : X.calm = true) : CallD X E (.builtin "sum") sumD := ⟨_, cr_sum hc, fun W S ds vs Q hS rs g => by
  obtain ⟨a, is, rfl, hs, g2⟩ := lsI_some g hS rs
  exact ⟨a, is, rfl, hs, g2 _ W (.refl W) hS (.int _)⟩⟩
theorem call_allD (hc : X.calm = true) : CallD X E (.builtin "all") allD := ⟨_, cr_all hc, fun W S ds vs Q hS rs g => by
  obtain ⟨a, is, rfl, hs, g2⟩ := lsB_some g hS rs
  exact ⟨a, is, rfl, hs, g2 _ W (.refl W) hS (.bl _)⟩⟩
theorem call_anyD (hc : X.calm = true) : CallD X E (.builtin "any") anyD := ⟨_, cr_any hc, fun W S ds vs Q hS rs g => by
  obtain ⟨a, is, rfl, hs, g2⟩ := lsB_some g hS rs
  exact ⟨a, is, rfl, hs, g2 _ W (.refl W) hS (.bl _)⟩⟩
theorem sortI_perm (is : List Int) : (sortI is).Perm is := List.mergeSort_perm ..
theorem sortI_sorted (is : List Int) : (sortI is).Pairwise (· ≤ ·) := by
  have h := List.pairwise_mergeSort (le := fun a b : Int => decide (a ≤ b)) (fun a b c h1 h2 => by
    simp only [decide_eq_true_eq] at h1 h2 ⊢
    omega) (fun a b => by
    simp only [Bool.or_eq_true, decide_eq_true_eq]
    omega) is
  exact h.imp fun h => by simpa using h
theorem call_sortedD : CallD X E (.builtin "sorted") sortedD := ⟨_, cr_sorted, fun W S ds vs Q hS rs g => by
  obtain ⟨a, is, rfl, hs, g2⟩ := lsI_some g hS rs
  change good ((if is.length < 64 then newL ((sortI is).map D.int) else M.fail) S) (PoV X.K W Q) (PoE X.K E W) at g2
  by_cases hz : is.length < 64
  · rw [if_pos hz] at g2
    refine ⟨a, is, rfl, hs, hz, fun ns' p h1 h2 hp => ?_⟩
    have e : ns' = sortI is := PySem.W.ksm_same (h1.trans (sortI_perm is).symm) h2 (sortI_sorted is)
    subst e
    exact pushed hS (.of_ints _) g2 p hp
  · rw [if_neg hz] at g2
    exact g2.elim⟩
def tupleD : List D → M D := fun ds S => match ds with
  | [.tup xs] => some (.ok (.tup xs) S)
  | [x] => (lseqD x S).bind fun xs => some (.ok (.tup xs) S)
  | _ => none
theorem call_tupleDD : CallD X E (.type "tuple") tupleD := ⟨_, call_tuple_of, fun W S ds vs Q hS rs g => by
  unfold tupleD at g
  split at g
  · cases rs with
    | cons r1 r2 =>
      cases r2
      cases r1 with
      | tup h1 h2 => exact ⟨_, _, rfl, .inr ⟨h1, g _ W (.refl W) hS (.tup h1 h2)⟩⟩
  · rename_i x hx
    cases rs with
    | cons r1 r2 =>
      cases r2
      cases e : lseqD x S with
      | none => rw [e] at g; exact g.elim
      | some xs =>
        rw [e] at g
        obtain ⟨a, us, rfl, hs, hr⟩ := lseqD_ok e hS r1
        exact ⟨_, _, rfl, .inl ⟨hs, fun p hp => pushedT hS hr g p hp⟩⟩
  · exact g.elim⟩
def listD : List D → M D := fun ds S => match ds with
  | [x] => (seqD x S).bind fun xs => newL xs S
  | _ => none
theorem call_listDD : CallD X E (.type "list") listD := ⟨_, call_list_of, fun W S ds vs Q hS rs g => by
  unfold listD at g
  split at g
  · rename_i x
    cases rs with
    | cons r1 r2 =>
      cases r2
      cases e : seqD x S with
      | none => rw [e] at g; exact g.elim
      | some xs =>
        rw [e] at g
        obtain ⟨a, us, rfl, hs, hr⟩ := seqD_ok e hS r1
        exact ⟨_, _, rfl, hs, fun p hp => pushed hS hr g p hp⟩
  · exact g.elim⟩
/-! repr -/
def reprO (S : Sto) (x : D) : Option Str := match toP 64 S x with
  | some p => if p.showable = true ∧ p.shown.length ≤ sizeLine ∧ (p.hasDict = true → noList p = true) then some p.shown else none
  | none => none
def reprD : List D → M D := fun ds S => match ds with
  | [x] => (reprO S x).bind fun t => some (.ok (.str t) S)
  | _ => none
theorem call_reprDD {j : Nat} (hgd : X.A.guards = some []) (hr : Room j X.A) : CallD X E (.builtin "repr") reprD := .mk fun pins s sg W S ds vs us Q I hS rs rv g => by
  unfold reprD at g
  split at g
  · rename_i x
    cases rs with
    | cons r1 r2 =>
      cases r2
      cases rv with
      | cons q1 q2 =>
        cases q2
        cases e : reprO S x with
        | none => rw [e] at g; exact g.elim
        | some t =>
          rw [e] at g
          have gg := g (.str t)
          unfold reprO at e
          split at e
          · rename_i p hp
            split at e
            · rename_i hc
              obtain ⟨c1, c2, c3⟩ := hc
              cases e
              have un := hr.un
              cases r1 with
              | non =>
                cases hp; cases q1
                exact PySem.P.repr_of_none ⟨.str _, W.H, I.tok _, ⟨_, rfl⟩, gg W (.refl W) hS (.str _)⟩
              | bl b =>
                cases hp; cases q1
                exact PySem.P.repr_of_bool ⟨.str _, W.H, I.tok _, ⟨_, rfl⟩, gg W (.refl W) hS (.str _)⟩
              | int i =>
                cases hp
                obtain ⟨tk, rfl⟩ := q1
                exact PySem.P.repr_of_int (by simpa [PyData.showable] using c1) ⟨.str _, W.H, I.tok _, ⟨_, rfl⟩, gg W (.refl W) hS (.str _)⟩
              | str z =>
                cases hp
                obtain ⟨tk, rfl⟩ := q1
                exact PySem.P.repr_of_str ⟨.str _, W.H, I.tok _, ⟨_, rfl⟩, gg W (.refl W) hS (.str _)⟩ c2
              | adr a => cases hp
              | ty a => cases hp
              | tup h1 h2 =>
                have q1' := q1
                cases q1'
                obtain ⟨as, R, hn⟩ := toP_reads hS I 64 _ p _ _ hp (.tup h1 h2) q1
                exact repr_of_reads' R c1 (fun z => hn (c3 z)) hgd (by have := toP_depth _ _ _ hp; omega) (fun _ _ z => z) (fun h' tk u hk => ⟨.str _, W.H, I.kept hk, ⟨_, rfl⟩, gg W (.refl W) hS (.str _)⟩) c2
              | fro h1 h2 =>
                have q1' := q1
                cases q1'
                obtain ⟨as, R, hn⟩ := toP_reads hS I 64 _ p _ _ hp (.fro h1 h2) q1
                exact repr_of_reads' R c1 (fun z => hn (c3 z)) hgd (by have := toP_depth _ _ _ hp; omega) (fun _ _ z => z) (fun h' tk u hk => ⟨.str _, W.H, I.kept hk, ⟨_, rfl⟩, gg W (.refl W) hS (.str _)⟩) c2
              | ref h1 =>
                have q1' := q1
                cases q1'
                obtain ⟨as, R, hn⟩ := toP_reads hS I 64 _ p _ _ hp (.ref h1) q1
                exact repr_of_reads' R c1 (fun z => hn (c3 z)) hgd (by have := toP_depth _ _ _ hp; omega) (fun _ _ z => z) (fun h' tk u hk => ⟨.str _, W.H, I.kept hk, ⟨_, rfl⟩, gg W (.refl W) hS (.str _)⟩) c2
            · cases e
          · cases e
  · exact g.elim
/-! isinstance with a built-in class -/
def tyD (x : D) (S : Sto) : Option String := match x with
  | .non => some "NoneType"
  | .bl _ => some "bool"
  | .int _ => some "int"
  | .str _ => some "str"
  | .tup _ => some "tuple"
  | .fro _ => some "list"
  | .ref n => match S[n]? with
    | some (.lst _) => some "list"
    | some (.dic _) => some "dict"
    | none => none
  | _ => none
def isiB (t c : String) : Option Bool :=
  if ["NoneType", "bool", "int", "str", "tuple", "list", "dict"].contains t = true ∧ ["bool", "int", "str", "tuple", "list", "dict"].contains c = true then some (decide (t = c) || (decide (t = "bool") && decide (c = "int"))) else none
def isiD : List D → M D := fun ds S => match ds with
  | [x, .ty c] => ((tyD x S).bind fun t => isiB t c).bind fun b => some (.ok (.bl b) S)
  | _ => none
theorem kitB_isi : (["NoneType", "bool", "int", "str", "tuple", "list", "dict"].all fun t => ["bool", "int", "str", "tuple", "list", "dict"].all fun c => decide (kitB t c = isiB t c)) = true := by decide +kernel
theorem isiB_kit {K : PySem.W.Frag} {t c : String} {b : Bool} (h : isiB t c = some b) : PySem.W.kitOne K (.type t) (.type c) = some b := by
  refine kit_ty ?_
  have h' := h
  unfold isiB at h'
  split at h'
  · rename_i hc
    have := kitB_isi
    rw [List.all_eq_true] at this
    have h1 := this t (by simpa using hc.1)
    rw [List.all_eq_true] at h1
    have h2 := h1 c (by simpa using hc.2)
    rw [of_decide_eq_true h2]
    exact h
  · cases h'
theorem tyD_ok {K : PySem.W.Frag} {W : Wd} {x : D} {S : Sto} {t : String} {v : V} (h : tyD x S = some t) (hS : SR K W S) (r : Rp K W x v) : TyX K W.H v (.type t) := by
  cases r with
  | non => cases h; exact .base .non
  | bl b => cases h; exact .base (.bl b)
  | int b => cases h; exact .base (.int b)
  | str b => cases h; exact .base (.str b)
  | adr a => cases h
  | ty a => cases h
  | tup h1 h2 =>
    cases h
    rcases h1 with (h1 | ⟨o, h1⟩) | ⟨o, its, n, h1, h3, _⟩
    · exact .base (.tup h1)
    · exact .fTuple h1
    · exact .kTuple h1 h3
  | fro h1 h2 =>
    cases h
    rcases h1 with ⟨o, h1⟩ | ⟨o, its, n, h1, h3, _⟩
    · exact .base (.frz h1)
    · exact .kList h1 h3
  | ref q =>
    rename_i n a
    have h' : (match S[n]? with
      | some (.lst _) => some "list"
      | some (.dic _) => some "dict"
      | none => none) = some t := h
    cases e : S[n]? with
    | none => rw [e] at h'; cases h'
    | some o =>
      rw [e] at h'
      have ob := hS.ob n o a e q
      cases ob with
      | lst h1 h2 => cases h'; exact .base (.lst h1)
      | dic h1 h2 h3 => cases h'; exact .base (.dK h1)
theorem call_isiDD : CallD X E (.builtin "isinstance") isiD := ⟨_, call_isi, fun W S ds vs Q hS rs g => by
  unfold isiD at g
  split at g
  · rename_i x c
    cases rs with
    | cons r1 r2 => cases r2 with
      | cons r2 r3 =>
        cases r3
        cases r2
        cases e : tyD x S with
        | none => rw [e] at g; exact g.elim
        | some t =>
          rw [e] at g
          dsimp only [Option.bind] at g
          cases e2 : isiB t c with
          | none => rw [e2] at g; exact g.elim
          | some b =>
            rw [e2] at g
            exact ⟨_, _, _, _, b, rfl, .ty c, tyD_ok e hS r1, isiB_kit e2, g _ W (.refl W) hS (.bl _)⟩
  · exact g.elim⟩
end
end Qm

namespace Qm
open PySem PySem.Spec PyProof.Rows L2
section
variable {X : Cx} {E : XK}
/-! ### methods -/
abbrev okBase (X : Cx) (o : Expr) (name : Str) : Prop := eval o X.env = attributeBase o name X.env (eval o X.env)
abbrev okFew (X : Cx) (cpos : Pos) (l : List Expr) : Prop := true = (((backTo cpos (starEach l X.env)).all (fun z => !z.1) && (backToKw cpos (keywordEach [] X.env)).all (fun z => z.1.isSome)) && decide (l.length + ([] : List Keyword).length + (if ([] : List Keyword).isEmpty then 0 else 1) < 30))
theorem ex_mt {T id : String} {name : Str} {f : D → List D → M D} {o e : Expr} {es : List Expr} {mo : EX} {n : AX} {apos cpos : Pos} (pa : PlainAttrs T) (slot : Slot T name id) (hty : typeOf (.builtin id) = pure (.type "method_descriptor")) (hm : MtD X E T id f)
    (ho : Ex X E o mo) (ha : Axn X E (e :: es) n) (h1 : okBase X o name := by rfl) (h2 : okFew X cpos (e :: es) := by rfl) (h3 : true = (apos.endLine == cpos.line) := by rfl)
    (h4 : starEach (e :: es) X.env = (false, eval e X.env) :: starEach es X.env := by rfl) (h5 : false = (backTo cpos (starEach es X.env)).any (·.1) := by rfl) : Ex X E (.Call (.Attribute o name apos) (e :: es) [] cpos) (mMt T f mo n) := by
  obtain ⟨r, hr, k⟩ := hm
  refine (pe_bm pa slot hty hr ho ha.pa h1.symm h2.symm h3.symm h4 h5.symm).imp fun sg H Q h => ?_
  obtain ⟨W, dl, S, hH, hE, hS, g⟩ := h
  refine tD.step hH hE hS g fun x S1 vx W1 e1 hE1 hS1 rx g1 => ?_
  by_cases ht : isTy T x S1 = true
  · rw [if_pos ht] at g1
    refine ⟨isTy_ok ht hS1 rx, ?_⟩
    exact tDA.step rfl hE1 hS1 (goodV.le g1 e1) fun ds S2 vs W2 e2 hE2 hS2 rs g2 => k W2 S2 x ds vx vs Q hS2 (rx.le e2) rs (goodV.le g2 e2)
  · rw [if_neg ht] at g1
    exact g1.elim
theorem ex_mt0 {T id : String} {name : Str} {f : D → List D → M D} {o : Expr} {mo : EX} {apos cpos : Pos} (pa : PlainAttrs T) (slot : Slot T name id) (hty : typeOf (.builtin id) = pure (.type "method_descriptor")) (hm : MtD X E T id f) (ho : Ex X E o mo)
    (h1 : okBase X o name := by rfl) (h3 : true = (apos.endLine == cpos.line) := by rfl) : Ex X E (.Call (.Attribute o name apos) [] [] cpos) (mMt T f mo mNil) := by
  obtain ⟨r, hr, k⟩ := hm
  refine (pe_bm0 pa slot hty hr ho h1.symm h3.symm).imp fun sg H Q h => ?_
  obtain ⟨W, dl, S, hH, hE, hS, g⟩ := h
  refine tD.step hH hE hS g fun x S1 vx W1 e1 hE1 hS1 rx g1 => ?_
  by_cases ht : isTy T x S1 = true
  · rw [if_pos ht] at g1
    exact ⟨isTy_ok ht hS1 rx, k W1 S1 x [] vx [] Q hS1 rx .nil (goodV.le g1 e1)⟩
  · rw [if_neg ht] at g1
    exact g1.elim
theorem written {K : PySem.W.Frag} {W : Wd} {S : Sto} {n : Nat} {a : Addr} {us : List V} {ds : List D} {vs : List V} {d : D} {v : V} {Q : VK} (hS : SR K W S) (hn : W.ro[n]? = some a) (h1 : W.H a = some (.lst us)) (r : Rps K W ds vs) (rv : ∀ W', W.le W' → Rp K W' d v) (g : PoV K W Q d (S.set n (.lst ds))) : Q v (upd W.H a (.lst vs)) := by
  have mu : Mut (W.H a) := by rw [h1]; trivial
  have le := Wd.le_set (W := W) (o := .lst vs) mu
  exact g v ⟨upd W.H a (.lst vs), W.ro⟩ le (hS.set hn mu (.lst upd_same (r.le le))) (rv _ le)
def appendD (x : D) (ds : List D) : M D := fun S => match x, ds with
  | .ref n, [y] => match lstAt S n with
    | some xs => if xs.length < sizeLine then some (.ok .non (S.set n (.lst (xs ++ [y])))) else none
    | none => none
  | _, _ => none
theorem mt_appendD : MtD X E "list" "list.append" appendD := ⟨_, mt_append, fun W S x ds vx vs Q hS q1 q2 g => by
  unfold appendD at g
  split at g
  · rename_i n y
    cases q2 with
    | cons r1 r2 =>
      cases r2
      split at g
      · rename_i xs e
        split at g
        · rename_i hz
          obtain ⟨a, us, rfl, h1, h2, h3⟩ := lstAt_ob e hS q1
          exact ⟨a, us, _, rfl, rfl, h1, by rw [← h2.length]; exact hz, written hS h3 h1 (h2.append (.cons r1 .nil)) (fun _ _ => .non) g⟩
        · exact g.elim
      · exact g.elim
  · exact g.elim⟩
def popD (x : D) (ds : List D) : M D := fun S => match x, ds with
  | .ref n, [] => match lstAt S n with
    | some xs => match xs[xs.length - 1]? with
      | some d => some (.ok d (S.set n (.lst xs.dropLast)))
      | none => none
    | none => none
  | _, _ => none
theorem Rps.dropLast {K : PySem.W.Frag} {W : Wd} {ds : List D} {vs : List V} (r : Rps K W ds vs) : Rps K W ds.dropLast vs.dropLast := by
  rw [List.dropLast_eq_take, List.dropLast_eq_take, r.length]
  exact r.take _
theorem mt_popD : MtD X E "list" "list.pop" popD := ⟨_, mt_pop, fun W S x ds vx vs Q hS q1 q2 g => by
  unfold popD at g
  split at g
  · rename_i n
    cases q2
    split at g
    · rename_i xs e
      split at g
      · rename_i d e2
        obtain ⟨a, us, rfl, h1, h2, h3⟩ := lstAt_ob e hS q1
        obtain ⟨v, k1, k2⟩ := h2.get e2
        exact ⟨a, us, v, rfl, rfl, h1, by rw [← h2.length]; exact k1, written hS h3 h1 h2.dropLast (fun _ le => k2.le le) g⟩
      · exact g.elim
    · exact g.elim
  · exact g.elim⟩
def popAtD (x : D) (ds : List D) : M D := fun S => match x, ds with
  | .ref n, [.int i] => match lstAt S n with
    | some xs => if 0 ≤ i ∧ i < xs.length ∧ i < 2 ^ 63 then match xs[i.toNat]? with
      | some d => some (.ok d (S.set n (.lst (xs.eraseIdx i.toNat))))
      | none => none
      else none
    | none => none
  | _, _ => none
theorem mt_popAtD : MtD X E "list" "list.pop" popAtD := ⟨_, mt_popAt, fun W S x ds vx vs Q hS q1 q2 g => by
  unfold popAtD at g
  split at g
  · rename_i n i
    cases q2 with
    | cons r1 r2 =>
      cases r2
      cases r1
      split at g
      · rename_i xs e
        split at g
        · rename_i hc
          obtain ⟨c1, c2, c3⟩ := hc
          split at g
          · rename_i d e2
            obtain ⟨a, us, rfl, h1, h2, h3⟩ := lstAt_ob e hS q1
            obtain ⟨v, k1, k2⟩ := h2.get e2
            have hl := h2.length
            refine ⟨a, us, i, i.toNat, v, rfl, rfl, h1, by omega, c3, ?_, k1, written hS h3 h1 (h2.eraseIdx _) (fun _ le => k2.le le) g⟩
            exact seqIndex_of c1 (by omega)
          · exact g.elim
        · exact g.elim
      · exact g.elim
  · exact g.elim⟩
def countD (x : D) (ds : List D) : M D := fun S => match ds with
  | [.int k] => ((lseqD x S).bind (allO intD)).bind fun is => some (.ok (.int (is.count k)) S)
  | _ => none
theorem mt_countD : MtD X E "list" "list.count" countD := ⟨_, mt_lcount, fun W S x ds vx vs Q hS q1 q2 g => by
  unfold countD at g
  split at g
  · rename_i k
    cases q2 with
    | cons r1 r2 =>
      cases r2
      cases r1
      cases e : lseqD x S with
      | none => rw [e] at g; exact g.elim
      | some xs =>
        rw [e] at g
        cases e2 : allO intD xs with
        | none => rw [show (some xs).bind (allO intD) = none from e2] at g; exact g.elim
        | some is =>
          rw [show (some xs).bind (allO intD) = some is from e2] at g
          obtain ⟨a, us, rfl, hs, hr⟩ := lseqD_ok e hS q1
          have := ints_of e2 hr
          subst this
          exact ⟨a, is, k, rfl, rfl, hs, g _ W (.refl W) hS (.int _)⟩
  · exact g.elim⟩
/-! ### o[i] = v -/
def setD (o i v : D) : M Unit := fun S => match o, i with
  | .ref n, .int k => match lstAt S n with
    | some xs => match ixN xs.length k with
      | some j => some (.ok () (S.set n (.lst (xs.set j v))))
      | none => none
    | none => none
  | _, _ => none
def gSubD (mo mi : EX) : GX := fun v dl => M.bind (mo dl) fun o => M.bind (mi dl) fun i => M.bind (setD o i v) fun _ => M.pure dl
theorem gx_sub {o i : Expr} {mo mi : EX} {pos : Pos} (ho : Ex X E o mo) (hi : Ex X E i mi) (ha : ∀ v, assign (.Subscript o i pos) X.env v = (do
      let ov ← holding [v] (eval o X.env)
      let iv ← holding [v, ov] (eval i X.env)
      standAt pos
      holding [v, ov, iv] (setItem ov iv v)
      release [v, ov, iv] []) := by intro _; rfl) : Gx X E (.Subscript o i pos) (gSubD mo mi) := (pg_sub ho hi set_list ha).imp fun v sg H Q h => by
  obtain ⟨W, dl, S, d, hH, hE, hS, rd, g⟩ := h
  refine tD.step hH hE hS g fun x S1 vx W1 e1 hE1 hS1 rx g1 => ?_
  refine tD.step rfl hE1 hS1 (g1.mono (fun _ _ q => q.le e1) fun _ _ q => q.le e1) fun y S2 vy W2 e2 hE2 hS2 ry g2 => ?_
  have rd2 := (rd.le e1).le e2
  have rx2 := rx.le e2
  have g3 := good_bind.mp g2
  unfold setD at g3
  split at g3
  · rename_i n k
    cases ry
    split at g3
    · rename_i xs e
      split at g3
      · rename_i j ej
        obtain ⟨a, us, rfl, h1, h2, h3⟩ := lstAt_ob e hS2 rx2
        refine ⟨a, us, k, j, rfl, rfl, h1, by rw [← h2.length]; exact ej, ?_⟩
        have mu : Mut (W2.H a) := by rw [h1]; trivial
        have le := Wd.le_set (W := W2) (o := .lst (us.set j v)) mu
        exact g3 sg ⟨upd W2.H a (.lst (us.set j v)), W2.ro⟩ (e2.trans le) (hS2.set h3 mu (.lst upd_same ((h2.set j rd2).le le))) (hE2.le le)
      · exact g3.elim
    · exact g3.elim
  · exact g3.elim
/-! ### dict displays: {}, {k: v} -/
def mDic0 : EX := fun _ S => some (.ok (.ref S.length) (S ++ [.dic []]))
theorem ex_dic0 {pos : Pos} : Ex X E (.Dict [] [] pos) mDic0 := pe_dnewK.imp fun sg H Q h => by
  obtain ⟨W, dl, S, hH, hE, hS, g⟩ := h
  subst hH
  intro p hp
  exact g (.ref p) ⟨upd W.H p (.dK []), W.ro ++ [p]⟩ (Wd.le_new hp) (hS.push hp (.dic (kws := []) upd_same rfl .nil)) (push_ref hS)
def keyD : D → Option Key
  | .int i => some (.inl i)
  | .str x => some (.inr x)
  | _ => none
def mDic1 (mk mv : EX) : EX := fun dl S => M.bind (mk dl) (fun x => M.bind (mv dl) fun y S2 => match keyD x, S2[S.length]? with
  | some k, some (.dic []) => some (.ok (.ref S.length) (S2.set S.length (.dic [(k, y)])))
  | _, _ => none) (S ++ [.dic []])
theorem ex_dic1 {k v : Expr} {mk mv : EX} {pos : Pos} (hk : Ex X E k mk) (hv : Ex X E v mv) : Ex X E (.Dict [some k] [v] pos) (mDic1 mk mv) :=
  (pe_disp (pps_cons hk hv pps_nil) rfl rfl (by simp) (show 1 ≤ 15 by decide)).imp fun sg H Q h => by
  obtain ⟨W, dl, S, hH, hE, hS, g⟩ := h
  subst hH
  intro p hp
  have le0 := Wd.le_new (W := W) (o := .dK []) (t := [p]) hp
  have hS0 : SR X.K ⟨upd W.H p (.dK []), W.ro ++ [p]⟩ (S ++ [.dic []]) := hS.push hp (.dic (kws := []) upd_same rfl .nil)
  have ref0 : Rp X.K ⟨upd W.H p (.dK []), W.ro ++ [p]⟩ (.ref S.length) (.ref p) := push_ref hS
  refine tD.step (W := ⟨upd W.H p (.dK []), W.ro ++ [p]⟩) rfl (hE.le le0) hS0 (goodV.le g le0) fun x S1 vx W1 e1 hE1 hS1 rx g1 => ?_
  refine tD.step rfl hE1 hS1 (goodV.le g1 e1) fun y S2 vy W2 e2 hE2 hS2 ry g2 => ?_
  have ref2 := ref0.le (e1.trans e2)
  have rx2 := rx.le e2
  split at g2
  · rename_i key hkey hdic
    have ob := hS2.obj hdic ref2
    cases ob with
    | dic h1 h2 h3 =>
      rename_i kws
      have hk0 : kws = [] := by
        cases kws with
        | nil => rfl
        | cons a b => cases h2
      subst hk0
      refine ⟨h1, [(key, vy)], ?_, show 1 ≤ 15 by decide, ?_⟩
      · cases rx2 <;> first | (cases hkey; done) | (cases hkey; rfl)
      · cases ref2 with
        | ref hro =>
          have mu : Mut (W2.H p) := by rw [h1]; trivial
          have em : mergeK [] [(key, vy)] = [(key, vy)] := by cases key <;> rfl
          rw [em]
          have le := Wd.le_set (W := W2) (o := .dK [(key, vy)]) mu
          exact g2 (.ref p) ⟨upd W2.H p (.dK [(key, vy)]), W2.ro⟩ (e2.trans le) (hS2.set hro mu (.dic (kws := [(key, vy)]) upd_same rfl (.cons (ry.le le) .nil))) (.ref hro)
  · exact g2.elim
/-! ### a, b = a list -/
def gU (n : Nat) (h : List D → En → M En) : GX := fun d dl S => match lseqD d S with
  | some ds => if ds.length = n then h ds dl S else none
  | none => none
theorem gx_unl {es : List Expr} {k n : Nat} {pos : Pos} {h : List D → En → M En} (hc : X.calm = true) (hs : Gsx X E es h) (hn : (assignEach es X.env).length = n := by rfl) (hst : (assignEach es X.env).findIdx? (·.1) = none := by rfl) : Gx X E (.Tuple es k pos) (gU n h) := (pg_unl hc hs hn hst).imp fun v sg H Q q => by
  obtain ⟨W, dl, S, d, hH, hE, hS, r, g⟩ := q
  subst hH
  unfold gU at g
  split at g
  · rename_i ds e
    split at g
    · rename_i hl
      obtain ⟨a, vs, rfl, h1, h2⟩ := lseqD_ok e hS r
      exact ⟨a, vs, rfl, h1, by rw [← h2.length]; exact hl, W, dl, S, ds, rfl, hE, hS, h2, g⟩
    · exact g.elim
  · exact g.elim
/-! ### xs[::-1] of a list -/
def mRev (m : EX) : EX := fun dl => M.bind (m dl) fun x S => (lseqD x S).bind fun xs => newL xs.reverse S
theorem ex_rev {e : Expr} {m : EX} {k : Nat} {p1 p2 p3 pos : Pos} (he : Ex X E e m) : Ex X E (.Subscript e (.Slice none none (some (.UnaryOp .USub (.Constant (.int 1) k p1) p2)) p3) pos) (mRev m) := (pe_revL he).imp fun sg H Q h => by
  obtain ⟨W, dl, S, hH, hE, hS, g⟩ := h
  refine tD.step hH hE hS g fun x S1 vx W1 e1 hE1 hS1 rx g1 => ?_
  cases e : lseqD x S1 with
  | none => rw [e] at g1; exact g1.elim
  | some xs =>
    rw [e] at g1
    obtain ⟨a, us, rfl, hs, hr⟩ := lseqD_ok e hS1 rx
    exact ⟨a, us, rfl, hs, fun p hp => pushed hS1 hr.reverse (PoV.le g1 e1) p hp⟩
end
end Qm

namespace Qm
open PySem PySem.Spec PyProof.Rows L2
/-! ### what is walked -/
structure Src where
  f : Nat → Sto → Option (Option D)
  n : Nat
/-- the iterator J yields what f tells, from the world W0 on -/
structure ItR (K : PySem.W.Frag) (W0 : Wd) (J : It) (f : Nat → Sto → Option (Option D)) : Prop where
  stop : ∀ i W S, W0.le W → SR K W S → f i S = some none → J.stop i W.H
  go : ∀ i W S d, W0.le W → SR K W S → f i S = some (some d) → J.go i W.H
  yld : ∀ i W S d x H', W0.le W → SR K W S → f i S = some (some d) → J.yld i W.H x H' → ∃ W', W'.H = H' ∧ W.le W' ∧ SR K W' S ∧ Rp K W' d x
theorem ItR.le {K : PySem.W.Frag} {W0 W1 : Wd} {J : It} {f : Nat → Sto → Option (Option D)} (h : ItR K W0 J f) (e : W0.le W1) : ItR K W1 J f where
  stop i W S l := h.stop i W S (e.trans l)
  go i W S d l := h.go i W S d (e.trans l)
  yld i W S d x H' l := h.yld i W S d x H' (e.trans l)
abbrev IX := En → M Src
def PoI (K : PySem.W.Frag) (W : Wd) (R : It → Hp → Prop) : Src → Sto → Prop := fun s S => ∀ J W', W.le W' → SR K W' S → ItR K W' J s.f → R J W'.H
theorem PoI.le {K : PySem.W.Frag} {W W' : Wd} {R : It → Hp → Prop} {d : Src} {S : Sto} (h : PoI K W R d S) (e : W.le W') : PoI K W' R d S := fun v W2 e2 s r => h v W2 (e.trans e2) s r
def tDI (K : PySem.W.Frag) (E : XK) (m : IX) : TI := fun sg H R => ∃ W dl S, W.H = H ∧ EnvR K W dl sg ∧ SR K W S ∧ good (m dl S) (PoI K W R) (PoE K E W)
theorem tDI.step {K : PySem.W.Frag} {E : XK} {α : Type} {m : IX} {f : Src → M α} {sg : L2.St} {H : Hp} {R : It → Hp → Prop} {P : α → Sto → Prop} {W : Wd} {dl : En} {S : Sto} (hH : W.H = H) (hE : EnvR K W dl sg) (hS : SR K W S)
    (h : good (M.bind (m dl) f S) P (PoE K E W)) (k : ∀ d S1 J W1, W.le W1 → EnvR K W1 dl sg → SR K W1 S1 → ItR K W1 J d.f → good (f d S1) P (PoE K E W) → R J W1.H) : tDI K E m sg H R :=
  ⟨W, dl, S, hH, hE, hS, (good_bind.mp h).mono (fun d S1 g J W1 e s r => k d S1 J W1 e (hE.le e) s r g) fun _ _ g => g⟩
abbrev Ix (X : Cx) (E : XK) (tg e : Expr) (m : IX) : Prop := PI X tg e (tDI X.K E m)
theorem _root_.L2.PI.imp {X : Cx} {tg e : Expr} {t t' : TI} (h : PI X tg e t) (i : ∀ sg H Q, t' sg H Q → t sg H Q) : PI X tg e t' := ⟨fun pins s σ H R I q => h.run pins s σ H R I (i _ _ _ q)⟩
/-! lists and tuples -/
def listF (n : Nat) : Nat → Sto → Option (Option D) := fun i S => (lstAt S n).map fun ds => ds[i]?
def valsF (ds : List D) : Nat → Sto → Option (Option D) := fun i _ => some ds[i]?
def srcD (d : D) : M Src := fun S => match d with
  | .tup ds => some (.ok ⟨valsF ds, ds.length⟩ S)
  | .fro ds => some (.ok ⟨valsF ds, ds.length⟩ S)
  | .ref n => (lstAt S n).bind fun ds => some (.ok ⟨listF n, ds.length⟩ S)
  | _ => none
def mSrc (m : EX) : IX := fun dl => M.bind (m dl) srcD
section
variable {X : Cx} {E : XK} {tg : Expr}
theorem itl_walk {pins : List (Addr × Obj)} {sg : L2.St} {H : Hp} {s : Shared} {a : Addr} {xs : List V} {R : It → Hp → Prop} {EE : Value → Shared → Prop} (I : Inv X pins sg H s) (hs : SqL X.K H a xs) (q : R (Itl X.K a) H) :
    wpAny (model X.prog X.w) X.A (pyIter (.ref a)) (PIE X pins sg tg R) EE s := by
  obtain ⟨its, _, p, _⟩ := I.list hs
  refine wpAny_pyIter_list p.isList ?_
  have I2 := I.kept (t' := s.toks) (h' := s.heap.push { cls := .type "list_iterator", data := .fields #[.ref a, .int 0 0] }) fun b o e => Heap.get?_push_of_some _ e
  refine ⟨_, [s.heap.objs.size], _, _, H, rfl, I2, turn_list a _, ⟨_, Heap.get?_push_size _ rfl, rfl, rfl⟩, ?_, q⟩
  intro b hb
  cases List.mem_singleton.mp hb
  exact I.fpOk (Nat.le_refl _) (I.hok.fresh (Nat.le_refl _))
theorem itt_walk {pins : List (Addr × Obj)} {sg : L2.St} {H : Hp} {s : Shared} {a : Addr} {xs : List V} {R : It → Hp → Prop} {EE : Value → Shared → Prop} (I : Inv X pins sg H s) (hs : SqT X.K H a xs) (q : R (Itt X.K a) H) :
    wpAny (model X.prog X.w) X.A (pyIter (.ref a)) (PIE X pins sg tg R) EE s := by
  obtain ⟨its, _, p, _⟩ := I.tuple hs
  refine wpAny_pyIter_tuple (show s.heap.IsTuple a its.toArray from p) ?_
  have I2 := I.kept (t' := s.toks) (h' := s.heap.push { cls := .type "tuple_iterator", data := .fields #[.ref a, .int 0 0] }) fun b o e => Heap.get?_push_of_some _ e
  refine ⟨_, [s.heap.objs.size], _, _, H, rfl, I2, turn_tuple a _, ⟨_, Heap.get?_push_size _ rfl, rfl, rfl⟩, ?_, q⟩
  intro b hb
  cases List.mem_singleton.mp hb
  exact I.fpOk (Nat.le_refl _) (I.hok.fresh (Nat.le_refl _))
theorem itr_vals {K : PySem.W.Frag} {W0 : Wd} {a : Addr} {ds : List D} {vs : List V} (hs : SqT K W0.H a vs) (r : Rps K W0 ds vs) : ItR K W0 (Itt K a) (valsF ds) where
  stop i W S l hS e := ⟨vs, SqT.le hs l, by
    have e2 : ds[i]? = none := Option.some.inj e
    rw [← r.length]
    exact List.getElem?_eq_none_iff.mp e2⟩
  go i W S d l hS e := by
    obtain ⟨v, h1, _⟩ := r.get (show ds[i]? = some d from Option.some.inj e)
    exact ⟨vs, v, SqT.le hs l, h1⟩
  yld i W S d x H' l hS e y := by
    obtain ⟨rfl, y⟩ := y
    obtain ⟨v, h1, h2⟩ := r.get (show ds[i]? = some d from Option.some.inj e)
    have h3 := y vs (SqT.le hs l)
    rw [h1] at h3
    cases h3
    exact ⟨W, rfl, .refl W, hS, h2.le l⟩
theorem itr_fro {K : PySem.W.Frag} {W0 : Wd} {a : Addr} {ds : List D} {vs : List V} (hs : FroL K W0.H a vs) (r : Rps K W0 ds vs) : ItR K W0 (Itl K a) (valsF ds) where
  stop i W S l hS e := ⟨vs, (FroL.le hs l).sq, by
    have e2 : ds[i]? = none := Option.some.inj e
    rw [← r.length]
    exact List.getElem?_eq_none_iff.mp e2⟩
  go i W S d l hS e := by
    obtain ⟨v, h1, _⟩ := r.get (show ds[i]? = some d from Option.some.inj e)
    exact ⟨vs, v, (FroL.le hs l).sq, h1⟩
  yld i W S d x H' l hS e y := by
    obtain ⟨rfl, y⟩ := y
    obtain ⟨v, h1, h2⟩ := r.get (show ds[i]? = some d from Option.some.inj e)
    have h3 := y vs (FroL.le hs l).sq
    rw [h1] at h3
    cases h3
    exact ⟨W, rfl, .refl W, hS, h2.le l⟩
theorem listF_some {n i : Nat} {S : Sto} {o : Option D} (h : listF n i S = some o) : ∃ ds, lstAt S n = some ds ∧ ds[i]? = o := by
  unfold listF at h
  cases e : lstAt S n with
  | none => rw [e] at h; cases h
  | some ds =>
    rw [e] at h
    exact ⟨ds, rfl, Option.some.inj h⟩
theorem itr_list {K : PySem.W.Frag} {W0 : Wd} {a : Addr} {n : Nat} (r : Rp K W0 (.ref n) (.ref a)) : ItR K W0 (Itl K a) (listF n) where
  stop i W S l hS e := by
    obtain ⟨ds, h1, h2⟩ := listF_some e
    obtain ⟨a2, vs, e2, h3, h4, _⟩ := lstAt_ob h1 hS (r.le l)
    cases e2
    exact ⟨vs, .of h3, by rw [← h4.length]; exact List.getElem?_eq_none_iff.mp h2⟩
  go i W S d l hS e := by
    obtain ⟨ds, h1, h2⟩ := listF_some e
    obtain ⟨a2, vs, e2, h3, h4, _⟩ := lstAt_ob h1 hS (r.le l)
    cases e2
    obtain ⟨v, k1, _⟩ := h4.get h2
    exact ⟨vs, v, .of h3, k1⟩
  yld i W S d x H' l hS e y := by
    obtain ⟨rfl, y⟩ := y
    obtain ⟨ds, h1, h2⟩ := listF_some e
    obtain ⟨a2, vs, e2, h3, h4, _⟩ := lstAt_ob h1 hS (r.le l)
    cases e2
    obtain ⟨v, k1, k2⟩ := h4.get h2
    have := y vs (.of h3)
    rw [k1] at this
    cases this
    exact ⟨W, rfl, .refl W, hS, k2⟩
theorem ix_seq' {e : Expr} {m : EX} (he : Ex X E e m) : Ix X E tg e (mSrc m) := by
  constructor
  intro pins s sg H R I h
  obtain ⟨W, dl, S, hH, hE, hS, g⟩ := h
  have ht : tD X.K E m sg H fun v H1 => ∃ W1 S1 d, W1.H = H1 ∧ SR X.K W1 S1 ∧ Rp X.K W1 d v ∧ good (srcD d S1) (PoI X.K W1 R) (PoE X.K E W1) :=
    tD.step hH hE hS g fun d S1 v W1 e1 hE1 hS1 rd g1 => ⟨W1, S1, d, rfl, hS1, rd, g1.mono (fun _ _ q => q.le e1) fun _ _ q => q.le e1⟩
  refine thn (he.run pins s sg H _ I ht) fun u s1 hh => ?_
  obtain ⟨v, H1, I1, rv, W1, S1, d, hH1, hS1, rd, g1⟩ := hh
  subst hH1
  unfold srcD at g1
  split at g1
  · cases rd with
    | tup h1 h2 =>
      cases rv
      exact itt_walk I1 h1 (g1 _ W1 (.refl W1) hS1 (itr_vals h1 h2))
  · cases rd with
    | fro h1 h2 =>
      cases rv
      exact itl_walk I1 h1.sq (g1 _ W1 (.refl W1) hS1 (itr_fro h1 h2))
  · rename_i n
    cases e : lstAt S1 n with
    | none => rw [e] at g1; exact g1.elim
    | some ds =>
      rw [e] at g1
      obtain ⟨a, vs, rfl, h3, h4, _⟩ := lstAt_ob e hS1 rd
      cases rv
      exact itl_walk I1 (.of h3) (g1 _ W1 (.refl W1) hS1 (itr_list rd))
  · exact g1.elim
/-! range -/
def rangeF (lo : Int) (n : Nat) : Nat → Sto → Option (Option D) := fun i _ => some (if i < n then some (.int (lo + i)) else none)
theorem itr_range {K : PySem.W.Frag} {W0 : Wd} {lo : Int} {n : Nat} : ItR K W0 (Itr lo n) (rangeF lo n) where
  stop i W S l hS e := by
    have e2 := Option.some.inj e
    split at e2
    · cases e2
    · rename_i h; exact Nat.not_lt.mp h
  go i W S d l hS e := by
    have e2 := Option.some.inj e
    split at e2
    · assumption
    · cases e2
  yld i W S d x H' l hS e y := by
    obtain ⟨rfl, rfl⟩ := y
    have e2 := Option.some.inj e
    split at e2
    · cases e2
      exact ⟨W, rfl, .refl W, hS, .int _⟩
    · cases e2
def rng1D : List D → M Src := fun ds S => match ds with
  | [.int j] => if -(2 ^ 62) ≤ j ∧ j < 2 ^ 62 then some (.ok ⟨rangeF 0 j.toNat, j.toNat⟩ S) else none
  | _ => none
def rng2D : List D → M Src := fun ds S => match ds with
  | [.int i, .int j] => if -(2 ^ 62) ≤ i ∧ i < 2 ^ 62 ∧ -(2 ^ 62) ≤ j ∧ j < 2 ^ 62 then some (.ok ⟨rangeF i (j - i).toNat, (j - i).toNat⟩ S) else none
  | _ => none
def mRng1 (n : AX) : IX := fun dl => M.bind (n dl) rng1D
def mRng2 (n : AX) : IX := fun dl => M.bind (n dl) rng2D
theorem ix_range1 {a : Expr} {n : AX} {p pos : Pos} (hg : Gl X "range") (hm : X.mg "range" = none) (ha : Axn X E [a] n) (hs : starEach [a] X.env = [(false, eval a X.env)] := by rfl) : Ix X E tg (.Call (.Name "range" p) [a] [] pos) (mRng1 n) := (pi_range1 hg hm ha.pa hs).imp fun sg H R h => by
  obtain ⟨W, dl, S, hH, hE, hS, g⟩ := h
  refine tDA.step hH hE hS g fun ds S1 vs W1 e1 hE1 hS1 rs g1 => ?_
  unfold rng1D at g1
  split at g1
  · cases rs with
    | cons r1 r2 =>
      cases r2; cases r1
      split at g1
      · rename_i hc
        exact ⟨_, rfl, hc.1, hc.2, g1 _ W1 e1 hS1 itr_range⟩
      · exact g1.elim
  · exact g1.elim
theorem ix_range2 {a b : Expr} {n : AX} {p pos : Pos} (hg : Gl X "range") (hm : X.mg "range" = none) (ha : Axn X E [a, b] n) (hs : starEach [a, b] X.env = [(false, eval a X.env), (false, eval b X.env)] := by rfl) (hs2 : starEach [b] X.env = [(false, eval b X.env)] := by rfl) : Ix X E tg (.Call (.Name "range" p) [a, b] [] pos) (mRng2 n) := (pi_range2 hg hm ha.pa hs hs2).imp fun sg H R h => by
  obtain ⟨W, dl, S, hH, hE, hS, g⟩ := h
  refine tDA.step hH hE hS g fun ds S1 vs W1 e1 hE1 hS1 rs g1 => ?_
  unfold rng2D at g1
  split at g1
  · cases rs with
    | cons r1 r2 => cases r2 with
      | cons r2 r3 =>
        cases r3; cases r1; cases r2
        split at g1
        · rename_i hc
          exact ⟨_, _, rfl, hc, g1 _ W1 e1 hS1 itr_range⟩
        · exact g1.elim
  · exact g1.elim
/-! ### for -/
def forF (f : Nat → Sto → Option (Option D)) (b : D → En → M Out) : Nat → Nat → En → M Out
  | n, i, dl => fun S => match f i S with
    | some none => some (.ok (.nx dl) S)
    | some (some d) => match n with
      | 0 => none
      | k + 1 => M.bind (b d dl) (fun o => match o with
        | .nx dl1 => forF f b k (i + 1) dl1
        | .ct dl1 => forF f b k (i + 1) dl1
        | .bk dl1 => M.pure (.nx dl1)
        | .rt d => M.pure (.rt d)) S
    | none => none
def sFor (src : IX) (g : GX) (body : SX) : SX := fun dl => M.bind (src dl) fun s => forF s.f (fun d dl => M.bind (g d dl) body) s.n 0 dl
theorem sx_for {iter : Expr} {body : List Stmt} {src : IX} {g : GX} {b : SX} {pos : Pos} (hp : PassesOwn (model X.prog X.w) X.A X.env X.xe) (hc : X.calm = true) (hi : Ix X E tg iter src) (hg : Gx X E tg g) (hb : Ssx X E body b)
    (hs : ∀ x, foldedSetIterable iter X.env x = pure x := by intro _; rfl) : Sx X E (.For tg iter body [] pos) (sFor src g b) := (ps_for hp hc hi hg hb hs).imp fun N sg H h => by
  obtain ⟨W, dl, S, hH, hE, hS, q⟩ := h
  refine tDI.step hH hE hS q fun sr S1 J W1 e1 hE1 hS1 it g1 => ?_
  refine ⟨fun i m sg2 H2 => ∃ W2 dl2 S2, W2.H = H2 ∧ W1.le W2 ∧ EnvR X.K W2 dl2 sg2 ∧ SR X.K W2 S2 ∧ good (forF sr.f (fun d dl => M.bind (g d dl) b) m i dl2 S2) (PoS X.K W N) (PoE X.K E W), ⟨sr.n, W1, dl, S1, rfl, .refl W1, hE1, hS1, g1⟩, ?_⟩
  rintro i m sg2 H2 ⟨W2, dl2, S2, rfl, e2, hE2, hS2, g2⟩
  unfold forF at g2
  split at g2
  · rename_i hf
    exact .inl ⟨it.stop i W2 S2 e2 hS2 hf, g2 sg2 W2 (e1.trans e2) hS2 hE2⟩
  · rename_i d hf
    cases m with
    | zero => exact g2.elim
    | succ k =>
      refine .inr ⟨it.go i W2 S2 d e2 hS2 hf, _, fun sg3 H3 h3 => ⟨k, Nat.lt_succ_self k, h3⟩, fun x H3 hy => ?_⟩
      obtain ⟨W3, rfl, e3, hS3, rd⟩ := it.yld i W2 S2 d x H3 e2 hS2 hf hy
      have g3 := good_bind.mp (good_bind.mp g2)
      refine ⟨W3, dl2, S2, d, rfl, hE2.le e3, hS3, rd, g3.mono (fun dl4 S4 g4 sg4 W4 e4 hS4 hE4 => ?_) fun _ _ z => z.le ((e1.trans e2).trans e3)⟩
      refine ⟨W4, dl4, S4, rfl, hE4, hS4, g4.mono (fun o S5 g5 => ?_) fun _ _ z => z.le (((e1.trans e2).trans e3).trans e4)⟩
      cases o with
      | nx dl5 => exact fun sg6 W6 e6 hS6 hE6 => ⟨W6, dl5, S5, rfl, ((e2.trans e3).trans e4).trans e6, hE6, hS6, g5⟩
      | ct dl5 => exact fun sg6 W6 e6 hS6 hE6 => ⟨W6, dl5, S5, rfl, ((e2.trans e3).trans e4).trans e6, hE6, hS6, g5⟩
      | bk dl5 => exact fun sg6 W6 e6 hS6 hE6 => g5 sg6 W6 ((((e1.trans e2).trans e3).trans e4).trans e6) hS6 hE6
      | rt d5 => exact fun v W6 e6 hS6 r6 => g5 v W6 ((((e1.trans e2).trans e3).trans e4).trans e6) hS6 r6
  · exact g2.elim
end
end Qm

namespace Qm
open PySem PySem.Spec PyProof.Rows L2
/-! ### list comprehensions -/
def wipeD (dl : En) : List Nat → En
  | [] => dl
  | v :: vs => (wipeD dl vs).set v none
theorem set_get {α : Type} (l : List α) (v i : Nat) (x : α) : (l.set v x)[i]? = if v = i then l[i]?.map fun _ => x else l[i]? := by
  by_cases h : v = i
  · subst h
    rw [if_pos rfl]
    by_cases hl : v < l.length
    · rw [List.getElem?_set_self hl, List.getElem?_eq_getElem hl]; rfl
    · rw [List.getElem?_eq_none_iff.mpr (by simpa using hl), List.getElem?_eq_none_iff.mpr (by omega)]; rfl
  · rw [if_neg h, List.getElem?_set_ne h]
theorem wipe_get (sg : L2.St) (i : Nat) : ∀ vs : List Nat, (wipe sg vs)[i]? = if i ∈ vs then sg[i]?.map fun _ => none else sg[i]?
  | [] => by rw [if_neg (by simp)]; rfl
  | v :: vs => by
    unfold wipe
    rw [set_get, wipe_get sg i vs]
    by_cases h : v = i
    · subst h
      rw [if_pos rfl, if_pos (show v ∈ v :: vs from List.mem_cons_self)]
      split <;> cases sg[v]? <;> rfl
    · rw [if_neg h]
      by_cases h2 : i ∈ vs
      · rw [if_pos h2, if_pos (List.mem_cons_of_mem _ h2)]
      · rw [if_neg h2, if_neg (by simp [h2, Ne.symm h])]
theorem wipeD_get (dl : En) (i : Nat) : ∀ vs : List Nat, (wipeD dl vs)[i]? = if i ∈ vs then dl[i]?.map fun _ => none else dl[i]?
  | [] => by rw [if_neg (by simp)]; rfl
  | v :: vs => by
    unfold wipeD
    rw [set_get, wipeD_get dl i vs]
    by_cases h : v = i
    · subst h
      rw [if_pos rfl, if_pos (show v ∈ v :: vs from List.mem_cons_self)]
      split <;> cases dl[v]? <;> rfl
    · rw [if_neg h]
      by_cases h2 : i ∈ vs
      · rw [if_pos h2, if_pos (List.mem_cons_of_mem _ h2)]
      · rw [if_neg h2, if_neg (by simp [h2, Ne.symm h])]
theorem wipeD_len (dl : En) : ∀ vs : List Nat, (wipeD dl vs).length = dl.length
  | [] => rfl
  | v :: vs => by unfold wipeD; rw [List.length_set, wipeD_len dl vs]
theorem wipe_twice (sg : L2.St) (vs : List Nat) : wipe (wipe sg vs) vs = wipe sg vs := by
  refine List.ext_getElem? fun i => ?_
  rw [wipe_get, wipe_get]
  by_cases h : i ∈ vs
  · rw [if_pos h, if_pos h]; cases sg[i]? <;> rfl
  · rw [if_neg h, if_neg h]
theorem wipe_set (sg : L2.St) {vs : List Nat} {i : Nat} (h : i ∈ vs) (x : Option V) : wipe (sg.set i x) vs = wipe sg vs := by
  refine List.ext_getElem? fun j => ?_
  rw [wipe_get, wipe_get, set_get]
  by_cases hj : j ∈ vs
  · rw [if_pos hj, if_pos hj]
    split <;> cases sg[j]? <;> rfl
  · rw [if_neg hj, if_neg hj, if_neg (show ¬ i = j from fun e => hj (by rw [← e]; exact h))]
theorem EnvR.wipe {K : PySem.W.Frag} {W : Wd} {dl : En} {sg : L2.St} (h : EnvR K W dl sg) (vs : List Nat) : EnvR K W (wipeD dl vs) (L2.wipe sg vs) := by
  refine ⟨by rw [wipeD_len, wipe_length]; exact h.1, fun i d e => ?_⟩
  rw [wipeD_get] at e
  rw [wipe_get]
  by_cases hi : i ∈ vs
  · rw [if_pos hi] at e
    cases q : dl[i]? with
    | none => rw [q] at e; cases e
    | some o => rw [q] at e; cases e
  · rw [if_neg hi] at e
    rw [if_neg hi]
    exact h.2 i d e
structure Cg (K : PySem.W.Frag) (own : List Nat) (g : TG) (gx : GX) : Prop where
  run : ∀ (W : Wd) (dl : En) (sg : L2.St) (S : Sto) (d : D) (v : V) (Q : L2.St → Hp → Prop) (dl2 : En) (S2 : Sto), EnvR K W dl sg → Rp K W d v → gx d dl S = some (.ok dl2 S2) →
    (S2 = S → ∀ sg2, EnvR K W dl2 sg2 → wipe sg2 own = wipe sg own → Q sg2 W.H) → g v sg W.H Q
theorem cg_name {K : PySem.W.Frag} {own : List Nat} {i : Nat} (h : i ∈ own) : Cg K own (gName i) (gN i) := ⟨fun W dl sg S d v Q dl2 S2 hE r e k => by
  cases e
  exact k rfl _ (hE.set i r) (wipe_set sg h _)⟩
theorem gT_two {i j : Nat} {d : D} {dl dl2 : En} {S S2 : Sto} (e : gT 2 (gsCons (gN i) (gsCons (gN j) gsNil)) d dl S = some (.ok dl2 S2)) : ∃ d1 d2, d = .tup [d1, d2] ∧ S2 = S ∧ dl2 = (dl.set i (some d1)).set j (some d2) := by
  unfold gT at e
  split at e
  · rename_i ds
    split at e
    · match ds, e with
      | [d1, d2], e =>
        have e2 : some (Rs.ok ((dl.set i (some d1)).set j (some d2)) S) = some (.ok dl2 S2) := e
        cases e2
        exact ⟨d1, d2, rfl, rfl, rfl⟩
      | [], e => cases e
      | [_], e => cases e
      | _ :: _ :: _ :: _, e => cases e
    · cases e
  · cases e
theorem two_of {K : PySem.W.Frag} {W : Wd} {d1 d2 : D} {vs : List V} (r : Rps K W [d1, d2] vs) : ∃ v1 v2, vs = [v1, v2] ∧ Rp K W d1 v1 ∧ Rp K W d2 v2 := by
  cases r with
  | cons r1 r2 =>
    cases r2 with
    | cons r2 r3 =>
      cases r3
      exact ⟨_, _, rfl, r1, r2⟩
theorem gPair_ok {K : PySem.W.Frag} {i j : Nat} {a : Addr} {v1 v2 : V} {sg : L2.St} {H : Hp} {Q : L2.St → Hp → Prop} (t : SqT K H a [v1, v2]) (h : Q ((sg.set i (some v1)).set j (some v2)) H) : gTup K 2 (gCons (gName i) (gCons (gName j) gNil)) (.ref a) sg H Q := by
  refine ⟨a, [v1, v2], rfl, t, rfl, ?_⟩
  refine ⟨v1, [v2], rfl, ?_⟩
  refine ⟨v2, [], rfl, ?_⟩
  exact ⟨rfl, h⟩
theorem tup_inv {K : PySem.W.Frag} {W : Wd} {ds : List D} {v : V} (r : Rp K W (.tup ds) v) : ∃ a vs, v = .ref a ∧ SqT K W.H a vs ∧ Rps K W ds vs := by
  cases r with
  | tup t1 t2 => exact ⟨_, _, rfl, t1, t2⟩
theorem cg_pair {K : PySem.W.Frag} {own : List Nat} {i j : Nat} (h : i ∈ own) (h2 : j ∈ own) : Cg K own (gTup K 2 (gCons (gName i) (gCons (gName j) gNil))) (gT 2 (gsCons (gN i) (gsCons (gN j) gsNil))) := by
  constructor
  intro W dl sg S d v Q dl2 S2 hE r e k
  obtain ⟨d1, d2, ed0, eS, ed⟩ := gT_two e
  clear e
  subst ed0 eS ed
  obtain ⟨a, vs, ev, t1, t2⟩ := tup_inv r
  obtain ⟨v1, v2, evs, r1, r2⟩ := two_of t2
  subst ev evs
  have hw : wipe ((sg.set i (some v1)).set j (some v2)) own = wipe sg own := by rw [wipe_set _ h2, wipe_set _ h]
  exact gPair_ok t1 (k rfl _ ((hE.set i r1).set j r2) hw)
def compT (g : GX) (t : TX) (e : EX) (dl0 : En) (d : D) : M (Option D) := M.bind (g d dl0) fun dl1 => M.bind (t dl1) fun b => match b with
  | true => M.bind (e dl1) fun y => M.pure (some y)
  | false => M.pure none
def compL (n0 : Nat) (f : Nat → Sto → Option (Option D)) (T : D → M (Option D)) : Nat → Nat → M D
  | m, i => fun S => match f i S with
    | some none => some (.ok (.ref n0) S)
    | some (some d) => match m with
      | 0 => none
      | k + 1 => match T d S with
        | some (.ok none S1) => compL n0 f T k (i + 1) S1
        | some (.ok (some y) S1) => match lstAt S1 n0 with
          | some acc => if acc.length < sizeLine then compL n0 f T k (i + 1) (S1.set n0 (.lst (acc ++ [y]))) else none
          | none => none
        | _ => none
    | none => none
def mLc (src : IX) (g : GX) (t : TX) (e : EX) (own : List Nat) : EX := fun dl => M.bind (src dl) fun s S => compL S.length s.f (compT g t e (wipeD dl own)) s.n 0 (S ++ [.lst []])
def tAll : TX := fun _ => M.pure true
section
variable {X : Cx} {E : XK}
theorem lc_imp {K : PySem.W.Frag} {src : IX} {g : TG} {gx : GX} {tt : TT} {t : TX} {e : EX} {own : List Nat} (cg : Cg K own g gx) (ht : ∀ sg H Q, tDT K E0 t sg H Q → tt sg H Q) (sg : L2.St) (H : Hp) (Q : VK) (h : tD K E (mLc src gx t e own) sg H Q) : tLc (tDI K E src) g tt (tD K E0 e) own sg H Q := by
  obtain ⟨W, dl, S, hH, hE, hS, q⟩ := h
  refine tDI.step hH hE hS q fun sr S1 J W1 e1 hE1 hS1 it g1 Da hDa => ?_
  have leD := Wd.le_new (W := W1) (o := .lst []) (t := [Da]) hDa
  have hS0 : SR K ⟨upd W1.H Da (.lst []), W1.ro ++ [Da]⟩ (S1 ++ [.lst []]) := hS1.push hDa (.lst upd_same .nil)
  have ref0 : Rp K ⟨upd W1.H Da (.lst []), W1.ro ++ [Da]⟩ (.ref S1.length) (.ref Da) := push_ref hS1
  refine ⟨fun i m H2 => ∃ W2 S2, W2.H = H2 ∧ Wd.le ⟨upd W1.H Da (.lst []), W1.ro ++ [Da]⟩ W2 ∧ SR K W2 S2 ∧ good (compL S1.length sr.f (compT gx t e (wipeD dl own)) m i S2) (PoV K W Q) (PoE K E W), ⟨sr.n, _, _, rfl, .refl _, hS0, g1⟩, ?_⟩
  rintro i m H2 ⟨W2, S2, rfl, e2, hS2, g2⟩
  have itD := it.le leD
  have le2 : W.le W2 := (e1.trans leD).trans e2
  have ref2 := ref0.le e2
  unfold compL at g2
  split at g2
  · rename_i hf
    exact .inl ⟨itD.stop i W2 S2 e2 hS2 hf, g2 _ W2 le2 hS2 ref2⟩
  · rename_i d hf
    cases m with
    | zero => exact g2.elim
    | succ k =>
      refine .inr ⟨itD.go i W2 S2 d e2 hS2 hf, _, fun H3 h3 => ⟨k, Nat.lt_succ_self k, h3⟩, fun x H3 hy => ?_⟩
      obtain ⟨W3, rfl, e3, hS3, rd⟩ := itD.yld i W2 S2 d x H3 e2 hS2 hf hy
      have hE3 : EnvR K W3 (wipeD dl own) (wipe sg own) := ((hE.le le2).le e3).wipe own
      dsimp only at g2
      unfold compT M.bind at g2
      cases hg : gx d (wipeD dl own) S2 with
      | none => rw [hg] at g2; exact g2.elim
      | some r =>
        rw [hg] at g2
        cases r with
        | ex c S3 => exact g2.elim
        | ok dl3 S3 =>
          refine cg.run W3 _ _ S2 d x _ dl3 S3 hE3 rd hg fun eS sg3 hE4 hw => ⟨by rw [hw, wipe_twice], ?_⟩
          subst eS
          dsimp only at g2
          refine ht sg3 W3.H _ ⟨W3, dl3, S3, rfl, hE4, hS3, ?_⟩
          cases htt : t dl3 S3 with
          | none => rw [htt] at g2; exact g2.elim
          | some r =>
            rw [htt] at g2
            cases r with
            | ex c S4 => exact g2.elim
            | ok b S4 =>
              intro W4 e4 hS4
              have le4 := (e2.trans e3).trans e4
              cases b with
              | false => exact ⟨W4, S4, rfl, le4, hS4, g2⟩
              | true =>
                rw [if_pos rfl]
                dsimp only at g2
                refine ⟨W4, dl3, S4, rfl, hE4.le e4, hS4, ?_⟩
                cases he : e dl3 S4 with
                | none => rw [he] at g2; exact g2.elim
                | some r =>
                  rw [he] at g2
                  cases r with
                  | ex c S5 => exact g2.elim
                  | ok y S5 =>
                    intro vy W5 e5 hS5 ry
                    have le5 := le4.trans e5
                    dsimp only [M.pure] at g2
                    cases hl : lstAt S5 S1.length with
                    | none => rw [hl] at g2; exact g2.elim
                    | some acc =>
                      rw [hl] at g2
                      dsimp only at g2
                      obtain ⟨a2, vs, ea, h1, h2, h3⟩ := lstAt_ob hl hS5 (ref0.le le5)
                      cases ea
                      by_cases hz : acc.length < sizeLine
                      · rw [if_pos hz] at g2
                        refine ⟨vs, h1, by rw [← h2.length]; exact hz, ?_⟩
                        have mu : Mut (W5.H Da) := by rw [h1]; trivial
                        have le := Wd.le_set (W := W5) (o := .lst (vs ++ [vy])) mu
                        exact ⟨⟨upd W5.H Da (.lst (vs ++ [vy])), W5.ro⟩, _, rfl, le5.trans le, hS5.set h3 mu (.lst upd_same ((h2.append (.cons ry .nil)).le le)), g2⟩
                      · rw [if_neg hz] at g2
                        exact g2.elim
  · exact g2.elim
variable {elt tg iter : Expr} {scope : Scope} {own : List (Str × Nat)} {pos : Pos} {src : IX} {g : TG} {gx : GX} {t : TX} {e : EX}
theorem ex_lc (hc : X.calm = true) (hN : X.N.Nodup) (hi : Ix X E tg iter src) (ok : BlkOk X.N X.env.scope scope own) (cg : Cg X.K (own.map (·.2)) g gx)
    (hg : ∀ (s : Shared) (H : Hp) (C : Addr) (cl : List (Str × Addr)) (fp : List Addr), PG (X.blk s H scope (compEnvC scope cl C X.env) fp) tg g)
    (he : ∀ (s : Shared) (H : Hp) (C : Addr) (cl : List (Str × Addr)) (fp : List Addr), Ex (X.blk s H scope (compEnvC scope cl C X.env) fp) E0 elt e)
    (hs : ∀ x, foldedSetIterable iter X.env x = pure x := by intro _; rfl) : Ex X E (.ListComp elt [⟨tg, iter, [], 0⟩] scope pos) (mLc src gx tAll e (own.map (·.2))) :=
  (pe_lc hc hN hi ok hg (fun _ _ _ _ _ => pts_nil) he hs).imp fun sg H Q h => lc_imp cg (fun sg H Q h => by
    obtain ⟨W, dl, S, hH, hE, hS, q⟩ := h
    subst hH
    exact q W (.refl W) hS) sg H Q h
theorem ex_lcIf {c : Expr} (hc : X.calm = true) (hN : X.N.Nodup) (hi : Ix X E tg iter src) (ok : BlkOk X.N X.env.scope scope own) (cg : Cg X.K (own.map (·.2)) g gx)
    (hg : ∀ (s : Shared) (H : Hp) (C : Addr) (cl : List (Str × Addr)) (fp : List Addr), PG (X.blk s H scope (compEnvC scope cl C X.env) fp) tg g)
    (ht : ∀ (s : Shared) (H : Hp) (C : Addr) (cl : List (Str × Addr)) (fp : List Addr), Tx (X.blk s H scope (compEnvC scope cl C X.env) fp) E0 c t)
    (he : ∀ (s : Shared) (H : Hp) (C : Addr) (cl : List (Str × Addr)) (fp : List Addr), Ex (X.blk s H scope (compEnvC scope cl C X.env) fp) E0 elt e)
    (hs : ∀ x, foldedSetIterable iter X.env x = pure x := by intro _; rfl) : Ex X E (.ListComp elt [⟨tg, iter, [c], 0⟩] scope pos) (mLc src gx t e (own.map (·.2))) :=
  (pe_lc hc hN hi ok hg (fun s H C cl fp => pts_one (ht s H C cl fp)) he hs).imp fun sg H Q h => lc_imp cg (fun sg H Q h => h) sg H Q h
theorem setLc_imp {tl : TE} {m : EX} {i : Nat} {K : PySem.W.Frag} (k : ∀ sg H Q, tD K E m sg H Q → tl sg H Q) (N : Ends) (sg : L2.St) (H : Hp) (h : tDS K E (sAsg m (gN i)) N sg H) : tAsg tl (gName i) N sg H := by
  obtain ⟨W, dl, S, hH, hE, hS, q⟩ := h
  exact k sg H _ (tD.step hH hE hS q fun d S1 v W1 e1 hE1 hS1 r1 g1 => g1 _ W1 e1 hS1 (hE1.set i r1))
theorem sx_setLc {i : Nat} {y : Str} {py spos : Pos} (hc : X.calm = true) (hN : X.N.Nodup) (hsw : swapsWith (.ListComp elt [⟨tg, iter, [], 0⟩] scope pos) (some (.Name y py)) spos.line X.env = pure true) (hi : Ix X E tg iter src) (ok : BlkOk X.N X.env.scope scope own) (cg : Cg X.K (own.map (·.2)) g gx)
    (hg : ∀ (s : Shared) (H : Hp) (C : Addr) (cl : List (Str × Addr)) (fp : List Addr), PG (X.blk s H scope (compEnvC scope cl C X.env) fp) tg g)
    (he : ∀ (s : Shared) (H : Hp) (C : Addr) (cl : List (Str × Addr)) (fp : List Addr), Ex (X.blk s H scope (compEnvC scope cl C X.env) fp) E0 elt e)
    (hy : X.N[i]? = some y := by rfl) (hyl : X.env.scope.names.lookup y = some .local := by rfl) (hs : ∀ x, foldedSetIterable iter X.env x = pure x := by intro _; rfl) :
    Sx X E (.Assign [.Name y py] (.ListComp elt [⟨tg, iter, [], 0⟩] scope pos) spos) (sAsg (mLc src gx tAll e (own.map (·.2))) (gN i)) :=
  (ps_setLc hc hN hy hyl hsw hi ok hg (fun _ _ _ _ _ => pts_nil) he hs).imp fun N sg H h => setLc_imp (fun sg H Q h => lc_imp cg (fun sg H Q h => by
    obtain ⟨W, dl, S, hH, hE, hS, q⟩ := h
    subst hH
    exact q W (.refl W) hS) sg H Q h) N sg H h
theorem sx_setLcIf {c : Expr} {i : Nat} {y : Str} {py spos : Pos} (hc : X.calm = true) (hN : X.N.Nodup) (hsw : swapsWith (.ListComp elt [⟨tg, iter, [c], 0⟩] scope pos) (some (.Name y py)) spos.line X.env = pure true) (hi : Ix X E tg iter src) (ok : BlkOk X.N X.env.scope scope own) (cg : Cg X.K (own.map (·.2)) g gx)
    (hg : ∀ (s : Shared) (H : Hp) (C : Addr) (cl : List (Str × Addr)) (fp : List Addr), PG (X.blk s H scope (compEnvC scope cl C X.env) fp) tg g)
    (ht : ∀ (s : Shared) (H : Hp) (C : Addr) (cl : List (Str × Addr)) (fp : List Addr), Tx (X.blk s H scope (compEnvC scope cl C X.env) fp) E0 c t)
    (he : ∀ (s : Shared) (H : Hp) (C : Addr) (cl : List (Str × Addr)) (fp : List Addr), Ex (X.blk s H scope (compEnvC scope cl C X.env) fp) E0 elt e)
    (hy : X.N[i]? = some y := by rfl) (hyl : X.env.scope.names.lookup y = some .local := by rfl) (hs : ∀ x, foldedSetIterable iter X.env x = pure x := by intro _; rfl) :
    Sx X E (.Assign [.Name y py] (.ListComp elt [⟨tg, iter, [c], 0⟩] scope pos) spos) (sAsg (mLc src gx t e (own.map (·.2))) (gN i)) :=
  (ps_setLc hc hN hy hyl hsw hi ok hg (fun s H C cl fp => pts_one (ht s H C cl fp)) he hs).imp fun N sg H h => setLc_imp (fun sg H Q h => lc_imp cg (fun sg H Q h => h) sg H Q h) N sg H h
end
/-! ### the law's end -/
end Qm

namespace Qm
open PySem PySem.Spec PyProof.Rows L2
/-- the script's object as it stands -/
abbrev scriptO (vs : List Value) : Obj := { cls := .type "list", data := .seq vs.toArray }
/-- nothing is tracked but the script, and that only where it is not one of the module's own -/
def H00 (K : PySem.W.Frag) (a : Addr) (vs : List Value) (ns : List Int) : Hp := fun b => if b = a ∧ (K.lookup a).isNone = true then some (.frz (scriptO vs) (.lst (ns.map V.int))) else none
theorem H00_some {K : PySem.W.Frag} {a b : Addr} {vs : List Value} {ns : List Int} {u : HO} (h : H00 K a vs ns b = some u) : b = a ∧ (K.lookup a).isNone = true ∧ u = .frz (scriptO vs) (.lst (ns.map V.int)) := by
  unfold H00 at h
  split at h
  · rename_i hc
    cases h
    exact ⟨hc.1, hc.2, rfl⟩
  · cases h
theorem script_vals : ∀ {vs : List Value} {ns : List Int}, IntsAre vs ns → Vals (ns.map V.int) vs
  | _, _, .nil => .nil
  | _, _, .cons n t h => .cons ⟨t, rfl⟩ (script_vals h)
theorem law_go {P : Program} {w : World} {K : PySem.W.Frag} {mg mb : Str → Option Value} {k n : Nat} {fa a : Addr} {fd : FuncData} {x : Str} {m : Fn} {s1 : Shared} {vs : List Value} {ns : List Int} (KX : K.In s1.heap) (hns : s1.heap.Ns mainGlobals mg) (hb : s1.heap.Ns builtinsNs mb)
    (hbb : ∀ x : Str, x ≠ "__name__" → mb x = bootBuiltins x) (hlim : s1.heap.NoLimit) (hg : s1.gens = #[]) (ha : s1.heap.get? a = some (scriptO vs)) (hi : IntsAre vs ns) (hl : ns.length ≤ sizeLine) (hr : Room k callerA)
    (F : ∀ base : Heap, K.In base → base.Ns mainGlobals mg → FnG P w K mg base CX0 k fa fd [x] (spM K 1 m)) (hbind : ∀ (s : Shared) (u : Value), BindsTo s fd ⟨[u], []⟩ [(x, u)]) (hm : good (m [.fro (ns.map .int)] []) (fun d _ => d = .bl true) No) :
    codeAny (model P w) callerA (.call (.ref fa) ⟨[.ref a], []⟩) (fun r s' => r = .ok (.ret (.bool true)) ∧ OldK s1.heap s'.heap ∧ s'.os = s1.os ∧ AllBare s'.gens) s1 := by
  have rv := script_vals hi
  have hlen := hi.length
  let H := H00 K a vs ns
  have hH : ∀ {b : Addr} {u : HO}, H b = some u → b = a ∧ (K.lookup a).isNone = true ∧ u = .frz (scriptO vs) (.lst (ns.map V.int)) := fun h => H00_some h
  have nofree : ∀ {b : Addr}, (b ≠ a ∨ (K.lookup a).isNone ≠ true) → H b = none := fun {b} h => by
    cases q : H b with
    | none => rfl
    | some u =>
      obtain ⟨h1, h2, _⟩ := hH q
      rcases h with h | h
      · exact absurd h1 h
      · exact absurd h2 h
  have fro : FroL K H a (ns.map V.int) := by
    cases q : K.lookup a with
    | none =>
      refine .inl ⟨scriptO vs, ?_⟩
      show (if a = a ∧ (K.lookup a).isNone = true then _ else _) = _
      rw [if_pos ⟨rfl, by rw [q]; rfl⟩]
    | some o =>
      have e := KX a o q
      rw [ha] at e
      cases e
      exact .inr ⟨_, vs.toArray, _, q, rfl, rfl, rfl, by rw [List.size_toArray, hlen]; exact hl, by simpa using rv⟩
  have hok : HOk P w H s1.heap := fun b u h => by
    obtain ⟨rfl, _, rfl⟩ := hH h
    exact ⟨ha, by rw [List.length_map]; exact hl, vs, _, rv, ha⟩
  have toBase : ∀ {b : Addr} {o : Obj}, s1.heap.get? b = some o → H b = none → (hidT s1.heap H).get? b = some o := fun e z => hidT_get e z
  have notDict : ∀ {b : Addr} {o : Obj} {es : Array DictEntry} {ep : Nat}, s1.heap.get? b = some o → o.data = .dict es ep → H b = none := fun {b o es ep} e d => nofree (by
    by_cases hba : b = a
    · subst hba
      rw [ha] at e
      cases e
      exact nomatch (show Data.seq vs.toArray = Data.dict es ep from d)
    · exact .inl hba)
  have nsB : ∀ {b : Addr} {f : Str → Option Value}, s1.heap.Ns b f → (hidT s1.heap H).Ns b f := fun {b f} h => by
    obtain ⟨o, es, ep, e, d, r⟩ := h
    exact ⟨o, es, ep, toBase e (notDict e d), d, r⟩
  have kB : K.In (hidT s1.heap H) := fun b o e => toBase (KX b o e) (nofree (by
    by_cases hba : b = a
    · subst hba; right; rw [e]; simp
    · exact .inl hba))
  have md : Mod K mg (hidT s1.heap H) := ⟨kB, nsB hns, ⟨mb, nsB hb, hbb⟩, by
    obtain ⟨mc, h1, h2⟩ := hlim
    exact ⟨mc, nsB h1, h2⟩⟩
  have e0 : Env0 P w K mg (hidT s1.heap H) callerA [] s1 H := {
    frames := rfl
    mod := md
    bs := fun b o e => of_hidT e
    bsz := Nat.le_of_eq (hidT_size _ _)
    funs := trivial
    frf := fun b hb => nomatch hb
    hok := hok
    bare := .of_eq hg }
  have sp : spM K 1 m [.ref a] H (fun v _ => v = .bl true) E0 := by
    refine ⟨⟨H, []⟩, [.fro (ns.map .int)], [], rfl, .cons (.fro fro (.of_ints ns)) .nil, ⟨rfl, List.nodup_nil, fun n o b h => by simp at h⟩, rfl, hm.mono (fun d S e v W' _ _ r => ?_) fun _ _ z => z⟩
    subst e
    cases r
    rfl
  refine codeAny_mono ((F _ kB (nsB hns)).go callerA [] s1 H ⟨[.ref a], []⟩ [.ref a] [.ref a] _ E0 rfl hr e0 (hbind s1 (.ref a)) (.cons rfl .nil) sp) fun r s2 h => ?_
  match r, h with
  | .ok (.ret u), h =>
    obtain ⟨v, H2, os, bare, un, hok2, r2, q⟩ := h
    have q2 : v = .bl true := q
    subst q2
    obtain rfl : u = Value.bool true := r2
    refine ⟨rfl, OldK.of_keep fun b o e => ?_, os, bare⟩
    cases z : H b with
    | none => exact un.keep b o e z (fun h => nomatch h) (fun h => nomatch h)
    | some u =>
      obtain ⟨rfl, _, rfl⟩ := hH z
      have z2 := un.frzs b _ _ z
      have z3 := (hok2 b _ z2).1
      rw [ha] at e
      cases e
      exact z3
  | .ok .next, h => exact h.elim
  | .ok .brk, h => exact h.elim
  | .ok .cont, h => exact h.elim
  | .error e, h => exact h.elim
/-- the goal that k_head leaves, from the law's function on our values -/
theorem endM {l : PySem.W.OpenLaw} {n k : Nat} {q : Program} {loose : List Str} {XP : (Str → Option Value) → Heap → Prop} {YP : World → Heap → Prop} {d : DefRec} {K : Params → PySem.W.Frag} {m : Fn} {x : Str} (hn : l.most = some n) (hn2 : n ≤ sizeLine) (hdf : d.params.defaults = [])
    (hr : Room k callerA) (hY : ∀ (w : World) (h : Heap), YP w h → (K w.params).In h)
    (F : ∀ (w : World) (mg : Str → Option Value) (fa : Addr) (h : Heap), (K w.params).In h → h.Ns mainGlobals mg → mg d.name = some (.ref fa) → ∃ fd : FuncData, (∀ (s : Shared) (u : Value), BindsTo s fd ⟨[u], []⟩ [(x, u)]) ∧
      ∀ base : Heap, (K w.params).In base → base.Ns mainGlobals mg → FnG l.prog w (K w.params) mg base CX0 k fa fd [x] (spM (K w.params) 1 m))
    (hm : ∀ ns : List Int, ns.length ≤ n → good (m [.fro (ns.map .int)] []) (fun d _ => d = .bl true) No) : PySem.W.WalkO q loose XP YP l.row.toRowW d [] (fun f vs => PySem.call f vs) := by
  refine Att.attach_call hn hdf fun w s0 s1 mg mb fa o pm cd doc a vs ns G Y ho hd hcd hmg hobj hints hlen hg => ?_
  have KX := hY w _ Y
  obtain ⟨fd, hb, hF⟩ := F w mg fa _ KX G.T.g hmg
  exact law_go (n := n) KX G.T.g G.T.b G.T.builtins G.T.nolimit hg hobj hints (Nat.le_trans hlen hn2) hr hF hb (hm ns hlen)
theorem ex_bty {X : Cx} {E : XK} (n : String) {x : Str} {pos : Pos} (hg : Gl X x) (hm : X.mg x = none) (hv : bootBuiltins x = some (.type n)) (hn : x ≠ "__name__" := by decide) (hd : (x == ("__debug__" : Str)) = false := by decide) : Ex X E (.Name x pos) (mC (.ty n)) :=
  ex_bltn (v := .ty n) (u := .type n) hg hm hv rfl (fun _ => .ty n) hn hd
/-! ### the module's constants -/
def valOk : D → Value → Bool
  | .int i, .int j _ => decide (i = j)
  | .bl b, .bool c => b == c
  | .str x, .str y _ => decide (x = y)
  | .non, .none => true
  | _, _ => false
def valV : D → V
  | .int i => .int i
  | .bl b => .bl b
  | .str x => .str x
  | _ => .non
theorem valOk_rel {K : PySem.W.Frag} {d : D} {u : Value} (h : valOk d u = true) : RelV (valV d) u ∧ ∀ W, Rp K W d (valV d) := by
  unfold valOk at h
  split at h
  · have e := of_decide_eq_true h
    subst e
    exact ⟨⟨_, rfl⟩, fun _ => .int _⟩
  · have e := eq_of_beq h
    subst e
    exact ⟨rfl, fun _ => .bl _⟩
  · have e := of_decide_eq_true h
    subst e
    exact ⟨⟨_, rfl⟩, fun _ => .str _⟩
  · exact ⟨rfl, fun _ => .non⟩
  · cases h
theorem glob_val {K : PySem.W.Frag} {mg : Str → Option Value} {x : Str} {d : D} {u : Value} (hm : mg x = some u) (h : valOk d u = true) : ∃ u v, mg x = some u ∧ RelV v u ∧ ∀ W, Rp K W d v :=
  ⟨u, valV d, hm, (valOk_rel (K := K) h).1, (valOk_rel h).2⟩
def valsOk : List D → List Value → Bool
  | [], [] => true
  | d :: ds, u :: us => valOk d u && valsOk ds us
  | _, _ => false
theorem valsOk_rel {K : PySem.W.Frag} : ∀ {ds : List D} {us : List Value}, valsOk ds us = true → Vals (ds.map valV) us ∧ ∀ W, Rps K W ds (ds.map valV)
  | [], [], _ => ⟨.nil, fun _ => .nil⟩
  | d :: ds, u :: us, h => by
    simp only [valsOk, Bool.and_eq_true] at h
    obtain ⟨h1, h2⟩ := valOk_rel (K := K) h.1
    obtain ⟨h3, h4⟩ := valsOk_rel (K := K) h.2
    exact ⟨.cons h1 h3, fun W => .cons (h2 W) (h4 W)⟩
  | [], _ :: _, h => by cases h
  | _ :: _, [], h => by cases h
theorem glob_tup {K : PySem.W.Frag} {mg : Str → Option Value} {x : Str} {ds : List D} {a : Addr} {o : Obj} {its : Array Value} {n : Nat} (hm : mg x = some (.ref a)) (ho : K.lookup a = some o) (hc : o.cls = .type "tuple") (hd : o.data = .seq its n) (h : valsOk ds its.toList = true) (hz : its.size ≤ sizeLine) :
    ∃ u v, mg x = some u ∧ RelV v u ∧ ∀ W, Rp K W (.tup ds) v := by
  obtain ⟨h1, h2⟩ := valsOk_rel (K := K) h
  exact ⟨_, .ref a, hm, rfl, fun W => .tup (.inr ⟨o, its, n, ho, hc, hd, hz, h1⟩) (h2 W)⟩
end Qm

namespace Qm
open PySem PySem.Spec PyProof.Rows L2
/-! ### what a computation does, in continuation form -/
section
variable {α β : Type} {P : α → Sto → Prop} {PD : D → Sto → Prop} {PB : Bool → Sto → Prop} {PO : Out → Sto → Prop} {PL : List D → Sto → Prop} {PE : En → Sto → Prop} {E : Value → Sto → Prop} {dl : En} {S : Sto}
theorem g_ok {a : α} : good (some (.ok a S)) P E = P a S := (rfl)
theorem g_none : good (none : Option (Rs α)) P E = False := (rfl)
theorem g_pure {a : α} : good (M.pure a S) P E = P a S := (rfl)
theorem g_fail : good (M.fail S) P E = False := (rfl)
theorem g_bind {m : M α} {f : α → M β} {P : β → Sto → Prop} : good (M.bind m f S) P E = good (m S) (fun a S1 => good (f a S1) P E) E := propext good_bind
theorem g_ite {c : Prop} [Decidable c] {a b : Option (Rs α)} : good (if c then a else b) P E = if c then good a P E else good b P E := by split <;> rfl
theorem eq_of_good {r : Option (Rs α)} {v : α} (h : good r (fun d S' => d = v ∧ S' = S) E) (hE : ∀ c S', ¬ E c S') : r = some (.ok v S) := by
  match r, h with
  | some (.ok a S'), h => obtain ⟨rfl, rfl⟩ := h; rfl
  | some (.ex c S'), h => exact (hE c S' h).elim
theorem eq_of {r : Option (Rs α)} {v : α} (h : good r (fun d S' => d = v ∧ S' = S) No) : r = some (.ok v S) := eq_of_good h fun _ _ z => z
theorem g_eq {r : Option (Rs α)} {v : α} (h : r = some (.ok v S)) : good r P E = P v S := by rw [h]; rfl
/-! expressions -/
theorem g_V {i : Nat} {d : D} (h : dl[i]? = some (some d)) : good (mV i dl S) PD E = PD d S := by unfold mV; rw [h]; rfl
theorem g_C {d : D} : good (mC d dl S) PD E = PD d S := (rfl)
theorem g_Op {f : D → D → M D} {a b : EX} : good (mOp f a b dl S) PD E = good (a dl S) (fun x S1 => good (b dl S1) (fun y S2 => good (f x y S2) PD E) E) E := by
  unfold mOp; rw [g_bind]; simp only [g_bind]
theorem g_Un {f : D → M D} {a : EX} : good (mUn f a dl S) PD E = good (a dl S) (fun x S1 => good (f x S1) PD E) E := by unfold mUn; rw [g_bind]
theorem g_Nil : good (mNil dl S) PL E = PL [] S := (rfl)
theorem g_Cons {m : EX} {n : AX} : good (mCons m n dl S) PL E = good (m dl S) (fun x S1 => good (n dl S1) (fun xs S2 => PL (x :: xs) S2) E) E := by
  unfold mCons; rw [g_bind]; simp only [g_bind, g_pure]
theorem g_Tup {n : AX} : good (mTup n dl S) PD E = good (n dl S) (fun ds S1 => PD (.tup ds) S1) E := by unfold mTup; rw [g_bind]; rfl
theorem g_Lst {n : AX} : good (mLst n dl S) PD E = good (n dl S) (fun ds S1 => PD (.ref S1.length) (S1 ++ [.lst ds])) E := by unfold mLst; rw [g_bind]; rfl
theorem g_newL {ds : List D} : good (newL ds S) PD E = PD (.ref S.length) (S ++ [.lst ds]) := (rfl)
theorem g_Call {f : List D → M D} {n : AX} : good (mCall f n dl S) PD E = good (n dl S) (fun ds S1 => good (f ds S1) PD E) E := by unfold mCall; rw [g_bind]
theorem g_Dic0 : good (mDic0 dl S) PD E = PD (.ref S.length) (S ++ [.dic []]) := (rfl)
def andK (x : D) (k : M D) : M D := match x with
  | .bl true => k
  | .bl false => M.pure (.bl false)
  | _ => M.fail
def orK (x : D) (k : M D) : M D := match x with
  | .bl true => M.pure (.bl true)
  | .bl false => k
  | _ => M.fail
theorem g_And {m n : EX} : good (mAnd m n dl S) PD E = good (m dl S) (fun x S1 => good (andK x (n dl) S1) PD E) E := by unfold mAnd; rw [g_bind]; rfl
theorem g_Or {m n : EX} : good (mOr m n dl S) PD E = good (m dl S) (fun x S1 => good (orK x (n dl) S1) PD E) E := by unfold mOr; rw [g_bind]; rfl
theorem g_andK {b : Bool} {k : M D} : good (andK (.bl b) k S) PD E = ((b = true → good (k S) PD E) ∧ (b = false → PD (.bl false) S)) := by cases b <;> simp [andK, g_pure]
theorem g_orK {b : Bool} {k : M D} : good (orK (.bl b) k S) PD E = ((b = true → PD (.bl true) S) ∧ (b = false → good (k S) PD E)) := by cases b <;> simp [orK, g_pure]
theorem g_not {b : Bool} : good (notD (.bl b) S) PD E = PD (.bl (!b)) S := (rfl)
theorem g_If {t : TX} {m n : EX} : good (mIf t m n dl S) PD E = good (t dl S) (fun b S1 => (b = true → good (m dl S1) PD E) ∧ (b = false → good (n dl S1) PD E)) E := by
  unfold mIf; rw [g_bind]
  congr 1; funext b S1
  cases b <;> simp
/-! tests -/
def testK (x : D) : M Bool := match x with
  | .bl b => M.pure b
  | _ => M.fail
theorem g_T {m : EX} : good (mT m dl S) PB E = good (m dl S) (fun x S1 => good (testK x S1) PB E) E := by unfold mT; rw [g_bind]; rfl
theorem g_testK {b : Bool} : good (testK (.bl b) S) PB E = PB b S := (rfl)
theorem g_NotT {t : TX} : good (mNotT t dl S) PB E = good (t dl S) (fun b S1 => PB (!b) S1) E := by unfold mNotT; rw [g_bind]; rfl
theorem g_AndT {t u : TX} : good (mAndT t u dl S) PB E = good (t dl S) (fun b S1 => (b = true → good (u dl S1) PB E) ∧ (b = false → PB false S1)) E := by
  unfold mAndT; rw [g_bind]
  congr 1; funext b S1
  cases b <;> simp [g_pure]
theorem g_OrT {t u : TX} : good (mOrT t u dl S) PB E = good (t dl S) (fun b S1 => (b = true → PB true S1) ∧ (b = false → good (u dl S1) PB E)) E := by
  unfold mOrT; rw [g_bind]
  congr 1; funext b S1
  cases b <;> simp [g_pure]
theorem g_All : good (tAll dl S) PB E = PB true S := (rfl)
/-! statements -/
def fnK (P : D → Sto → Prop) : Out → Sto → Prop
  | .rt d, S => P d S
  | .nx _, S => P .non S
  | _, _ => False
theorem g_fnK_rt {d : D} : fnK PD (.rt d) S = PD d S := (rfl)
theorem g_fnK_nx : fnK PD (.nx dl) S = PD .non S := (rfl)
theorem g_Fn {n : Nat} {b : SX} {ds : List D} : good (mFn n b ds S) PD E = good (b (entry n ds) S) (fnK PD) No := by
  unfold mFn
  rw [propext good_nx, g_bind]
  congr 1; funext o S1
  cases o <;> rfl
def seqK (b : SX) (P : Out → Sto → Prop) (E : Value → Sto → Prop) : Out → Sto → Prop
  | .nx dl, S => good (b dl S) P E
  | .rt d, S => P (.rt d) S
  | .bk dl, S => P (.bk dl) S
  | .ct dl, S => P (.ct dl) S
theorem g_seqK_nx {b : SX} : seqK b PO E (.nx dl) S = good (b dl S) PO E := (rfl)
theorem g_seqK_rt {b : SX} {d : D} : seqK b PO E (.rt d) S = PO (.rt d) S := (rfl)
theorem g_seqK_ct {b : SX} : seqK b PO E (.ct dl) S = PO (.ct dl) S := (rfl)
theorem g_seqK_bk {b : SX} : seqK b PO E (.bk dl) S = PO (.bk dl) S := (rfl)
theorem g_Seq {a b : SX} : good (sSeq a b dl S) PO E = good (a dl S) (seqK b PO E) E := by
  unfold sSeq; rw [g_bind]
  congr 1; funext o S1
  cases o <;> rfl
theorem g_Done : good (sDone dl S) PO E = PO (.nx dl) S := (rfl)
theorem g_Ret {m : EX} : good (sRet m dl S) PO E = good (m dl S) (fun d S1 => PO (.rt d) S1) E := by unfold sRet; rw [g_bind]; rfl
theorem g_Expr {m : EX} : good (sExpr m dl S) PO E = good (m dl S) (fun _ S1 => PO (.nx dl) S1) E := by unfold sExpr; rw [g_bind]; rfl
theorem g_sIf {t : TX} {a b : SX} : good (sIf t a b dl S) PO E = good (t dl S) (fun c S1 => (c = true → good (a dl S1) PO E) ∧ (c = false → good (b dl S1) PO E)) E := by
  unfold sIf; rw [g_bind]
  congr 1; funext b S1
  cases b <;> simp
theorem g_Asg {m : EX} {g : GX} : good (sAsg m g dl S) PO E = good (m dl S) (fun d S1 => good (g d dl S1) (fun dl1 S2 => PO (.nx dl1) S2) E) E := by
  unfold sAsg; rw [g_bind]; simp only [g_bind, g_pure]
theorem g_gN {i : Nat} {d : D} : good (gN i d dl S) PE E = PE (dl.set i (some d)) S := (rfl)
theorem g_gT {n : Nat} {h : List D → En → M En} {ds : List D} (e : ds.length = n) : good (gT n h (.tup ds) dl S) PE E = good (h ds dl S) PE E := by
  show good ((if ds.length = n then h ds dl else M.fail) S) PE E = _
  rw [if_pos e]
theorem g_gsNil : good (gsNil [] dl S) PE E = PE dl S := (rfl)
theorem g_gsCons {g : GX} {h : List D → En → M En} {d : D} {r : List D} : good (gsCons g h (d :: r) dl S) PE E = good (g d dl S) (fun dl1 S1 => good (h r dl1 S1) PE E) E := by
  show good (M.bind (g d dl) (fun dl1 => h r dl1) S) PE E = _
  rw [g_bind]
theorem g_gSub {mo mi : EX} {v : D} : good (gSubD mo mi v dl S) PE E = good (mo dl S) (fun o S1 => good (mi dl S1) (fun i S2 => good (setD o i v S2) (fun _ S3 => PE dl S3) E) E) E := by
  unfold gSubD; rw [g_bind]; simp only [g_bind, g_pure]
/-! operations -/
theorem g_addI {i j : Int} : good (addD (.int i) (.int j) S) PD E = PD (.int (i + j)) S := (rfl)
theorem g_subI {i j : Int} : good (subD (.int i) (.int j) S) PD E = PD (.int (i - j)) S := (rfl)
theorem g_lt {i j : Int} : good (ltD (.int i) (.int j) S) PD E = PD (.bl (decide (i < j))) S := (rfl)
theorem g_le {i j : Int} : good (leD (.int i) (.int j) S) PD E = PD (.bl (decide (i ≤ j))) S := (rfl)
theorem g_gt {i j : Int} : good (gtD (.int i) (.int j) S) PD E = PD (.bl (decide (j < i))) S := (rfl)
theorem g_ge {i j : Int} : good (geD (.int i) (.int j) S) PD E = PD (.bl (decide (j ≤ i))) S := (rfl)
theorem g_neg {i : Int} : good (negD (.int i) S) PD E = PD (.int (-i)) S := (rfl)
theorem g_addT {a b : List D} (h : a.length + b.length ≤ sizeLine) : good (addD (.tup a) (.tup b) S) PD E = PD (.tup (a ++ b)) S := by
  show good (if a.length + b.length ≤ sizeLine then _ else _) PD E = _
  rw [if_pos h]; rfl
def chainK (f' : D → D → M D) (c : M D) (y x : D) : M D := match x with
  | .bl true => M.bind c fun w => f' y w
  | .bl false => M.pure (.bl false)
  | _ => M.fail
theorem g_Chain {f f' : D → D → M D} {a b c : EX} : good (mChain f f' a b c dl S) PD E = good (a dl S) (fun x S1 => good (b dl S1) (fun y S2 => good (f x y S2) (fun z S3 => good (chainK f' (c dl) y z S3) PD E) E) E) E := by
  unfold mChain; rw [g_bind]; simp only [g_bind]; rfl
theorem g_chainK {f' : D → D → M D} {c : M D} {y : D} {b : Bool} : good (chainK f' c y (.bl b) S) PD E = ((b = true → good (c S) (fun w S1 => good (f' y w S1) PD E) E) ∧ (b = false → PD (.bl false) S)) := by
  cases b
  · simp [chainK, g_pure]
  · simp [chainK, g_bind]
end
/-! ### walks -/
def loopK (I : En → Sto → Prop) (P : Out → Sto → Prop) : Out → Sto → Prop
  | .nx dl, S => I dl S
  | .ct dl, S => I dl S
  | .bk dl, S => P (.nx dl) S
  | .rt d, S => P (.rt d) S
theorem g_loopK_nx {I : En → Sto → Prop} {P : Out → Sto → Prop} {dl : En} {S : Sto} : loopK I P (.nx dl) S = I dl S := (rfl)
theorem g_loopK_ct {I : En → Sto → Prop} {P : Out → Sto → Prop} {dl : En} {S : Sto} : loopK I P (.ct dl) S = I dl S := (rfl)
theorem g_loopK_bk {I : En → Sto → Prop} {P : Out → Sto → Prop} {dl : En} {S : Sto} : loopK I P (.bk dl) S = P (.nx dl) S := (rfl)
theorem g_loopK_rt {I : En → Sto → Prop} {P : Out → Sto → Prop} {d : D} {S : Sto} : loopK I P (.rt d) S = P (.rt d) S := (rfl)
theorem forF_inv {f : Nat → Sto → Option (Option D)} {b : D → En → M Out} {full : List D} {P : Out → Sto → Prop} {E : Value → Sto → Prop} (I : Nat → En → Sto → Prop) (hf : ∀ i dl S, I i dl S → f i S = some full[i]?)
    (step : ∀ i d dl S, full[i]? = some d → I i dl S → good (b d dl S) (loopK (I (i + 1)) P) E) (fin : ∀ dl S, I full.length dl S → P (.nx dl) S) :
    ∀ (n i : Nat) (dl : En) (S : Sto), i + n = full.length → I i dl S → good (forF f b n i dl S) P E
  | n, i, dl, S, hn, hI => by
    unfold forF
    rw [hf i dl S hI]
    by_cases hi : i < full.length
    · rw [List.getElem?_eq_getElem hi]
      cases n with
      | zero => omega
      | succ k =>
        show good (M.bind (b full[i] dl) _ S) P E
        rw [g_bind]
        refine good.mono (step i _ dl S (List.getElem?_eq_getElem hi) hI) (fun o S1 h => ?_) fun _ _ z => z
        cases o with
        | nx dl1 => exact forF_inv I hf step fin k (i + 1) dl1 S1 (by omega) h
        | ct dl1 => exact forF_inv I hf step fin k (i + 1) dl1 S1 (by omega) h
        | bk dl1 => exact h
        | rt d => exact h
    · rw [List.getElem?_eq_none_iff.mpr (Nat.le_of_not_lt hi)]
      have e : i = full.length := by omega
      subst e
      exact fin dl S hI
/-- the whole for: src a known sequence -/
theorem g_For {src : IX} {g : GX} {b : SX} {dl : En} {S : Sto} {P : Out → Sto → Prop} {E : Value → Sto → Prop} : good (sFor src g b dl S) P E = good (src dl S) (fun s S1 => good (forF s.f (fun d dl => M.bind (g d dl) b) s.n 0 dl S1) P E) E := by
  unfold sFor; rw [g_bind]
theorem valsF_eq {ds : List D} {i : Nat} {S : Sto} : valsF ds i S = some ds[i]? := rfl
def intsD (lo : Int) (n : Nat) : List D := (List.range n).map fun (k : Nat) => D.int (lo + (k : Int))
theorem intsD_len {lo : Int} {n : Nat} : (intsD lo n).length = n := by simp [intsD]
theorem rangeF_eq {lo : Int} {n i : Nat} {S : Sto} : rangeF lo n i S = some (intsD lo n)[i]? := by
  unfold rangeF intsD
  by_cases h : i < n
  · rw [if_pos h, List.getElem?_map, List.getElem?_range h]; rfl
  · rw [if_neg h, List.getElem?_eq_none_iff.mpr (by simp; omega)]
theorem g_Src {m : EX} {dl : En} {S : Sto} {P : Src → Sto → Prop} {E : Value → Sto → Prop} : good (mSrc m dl S) P E = good (m dl S) (fun d S1 => good (srcD d S1) P E) E := by unfold mSrc; rw [g_bind]
theorem g_srcT {ds : List D} {S : Sto} {P : Src → Sto → Prop} {E : Value → Sto → Prop} : good (srcD (.tup ds) S) P E = P ⟨valsF ds, ds.length⟩ S := (rfl)
theorem g_srcL {n : Nat} {ds : List D} {S : Sto} {P : Src → Sto → Prop} {E : Value → Sto → Prop} (h : lstAt S n = some ds) : good (srcD (.ref n) S) P E = P ⟨listF n, ds.length⟩ S := by
  show good ((lstAt S n).bind _) P E = _
  rw [h]; rfl
theorem g_Rng1 {n : AX} {dl : En} {S : Sto} {P : Src → Sto → Prop} {E : Value → Sto → Prop} : good (mRng1 n dl S) P E = good (n dl S) (fun ds S1 => good (rng1D ds S1) P E) E := by unfold mRng1; rw [g_bind]
theorem g_rng1 {j : Int} {S : Sto} {P : Src → Sto → Prop} {E : Value → Sto → Prop} (h : -(2 ^ 62) ≤ j ∧ j < 2 ^ 62) : good (rng1D [.int j] S) P E = P ⟨rangeF 0 j.toNat, j.toNat⟩ S := by
  show good (if -(2 ^ 62) ≤ j ∧ j < 2 ^ 62 then _ else _) P E = _
  rw [if_pos h]; rfl
theorem compL_inv {f : Nat → Sto → Option (Option D)} {T : D → M (Option D)} {full : List D} {n0 : Nat} {P : D → Sto → Prop} {E : Value → Sto → Prop} (I : Nat → List D → Sto → Prop) (hf : ∀ i acc S, I i acc S → f i S = some full[i]?)
    (step : ∀ i d acc S, full[i]? = some d → I i acc S → good (T d S) (fun o S1 => match o with
      | none => I (i + 1) acc S1
      | some y => lstAt S1 n0 = some acc ∧ acc.length < sizeLine ∧ I (i + 1) (acc ++ [y]) (S1.set n0 (.lst (acc ++ [y])))) No) (fin : ∀ acc S, I full.length acc S → P (.ref n0) S) :
    ∀ (n i : Nat) (acc : List D) (S : Sto), i + n = full.length → I i acc S → good (compL n0 f T n i S) P E
  | n, i, acc, S, hn, hI => by
    unfold compL
    rw [hf i acc S hI]
    by_cases hi : i < full.length
    · rw [List.getElem?_eq_getElem hi]
      cases n with
      | zero => omega
      | succ k =>
        have st := step i _ acc S (List.getElem?_eq_getElem hi) hI
        dsimp only
        cases q : T full[i] S with
        | none => rw [q] at st; exact st.elim
        | some r =>
          rw [q] at st
          cases r with
          | ex c S1 => exact st.elim
          | ok o S1 =>
            cases o with
            | none => exact compL_inv I hf step fin k (i + 1) acc S1 (by omega) st
            | some y =>
              obtain ⟨h1, h2, h3⟩ := st
              dsimp only
              rw [h1]
              dsimp only
              rw [if_pos h2]
              exact compL_inv I hf step fin k (i + 1) _ _ (by omega) h3
    · rw [List.getElem?_eq_none_iff.mpr (Nat.le_of_not_lt hi)]
      have e : i = full.length := by omega
      subst e
      exact fin acc S hI
/-- a comprehension whose turns leave the old store as it is: the new list, and what was made besides -/
theorem compL_pure {f : Nat → Sto → Option (Option D)} {T : D → M (Option D)} {F : D → Option D} {full : List D} {S0 : Sto} {P : D → Sto → Prop} {E : Value → Sto → Prop} (hf : ∀ i G, f i (S0 ++ G) = some full[i]?)
    (hT : ∀ d ∈ full, ∀ G, ∃ G', T d (S0 ++ G) = some (.ok (F d) (S0 ++ G ++ G'))) (hz : full.length ≤ sizeLine) (fin : ∀ G, P (.ref S0.length) (S0 ++ .lst (full.filterMap F) :: G)) :
    good (compL S0.length f T full.length 0 (S0 ++ [.lst []])) P E := by
  refine compL_inv (full := full) (fun i acc S => i ≤ full.length ∧ acc = (full.take i).filterMap F ∧ ∃ G, S = S0 ++ .lst acc :: G) (fun i acc S h => ?_) (fun i d acc S hd h => ?_) (fun acc S h => ?_) full.length 0 [] _ (by omega) ⟨Nat.zero_le _, by simp, [], rfl⟩
  · obtain ⟨_, _, G, rfl⟩ := h
    exact hf i _
  · obtain ⟨hi, ha, G, rfl⟩ := h
    have hm : d ∈ full := List.mem_of_getElem? hd
    have hlt : i < full.length := (List.getElem?_eq_some_iff.mp hd).1
    obtain ⟨G', e⟩ := hT d hm (.lst acc :: G)
    rw [e]
    have tk : full.take (i + 1) = full.take i ++ [d] := by rw [List.take_add_one, hd]; rfl
    have at0 : lstAt (S0 ++ .lst acc :: G ++ G') S0.length = some acc := by
      unfold lstAt
      rw [List.append_assoc, List.getElem?_append_right (Nat.le_refl _), Nat.sub_self]
      rfl
    show (match F d with | none => _ | some y => _)
    cases q : F d with
    | none =>
      dsimp only
      refine ⟨hlt, ?_, G ++ G', by simp⟩
      rw [tk, List.filterMap_append, ← ha]
      simp [q]
    | some y =>
      dsimp only
      refine ⟨at0, ?_, hlt, ?_, G ++ G', ?_⟩
      · rw [ha]
        have h1 := List.length_filterMap_le F (full.take i)
        have h2 : (full.take i).length ≤ i := by rw [List.length_take]; exact Nat.min_le_left _ _
        omega
      · rw [tk, List.filterMap_append, ← ha]
        simp [q]
      · rw [List.append_assoc, List.set_append_right _ _ (Nat.le_refl _), Nat.sub_self]
        rfl
  · obtain ⟨_, ha, G, rfl⟩ := h
    rw [ha, List.take_length]
    exact fin G
theorem g_Lc {src : IX} {g : GX} {t : TX} {e : EX} {own : List Nat} {dl : En} {S : Sto} {P : D → Sto → Prop} {E : Value → Sto → Prop} : good (mLc src g t e own dl S) P E = good (src dl S) (fun s S1 => good (compL S1.length s.f (compT g t e (wipeD dl own)) s.n 0 (S1 ++ [.lst []])) P E) E := by
  unfold mLc; rw [g_bind]
/-! ### growth -/
theorem lstAt_app {S G : Sto} {n : Nat} {ds : List D} (h : lstAt S n = some ds) : lstAt (S ++ G) n = some ds := by
  unfold lstAt at h ⊢
  split at h
  · rename_i ds2 e
    cases h
    rw [List.getElem?_append_left (List.getElem?_eq_some_iff.mp e).1, e]
  · cases h
theorem allO_mono {α β : Type} {f g : α → Option β} : ∀ {l : List α} {ys : List β}, (∀ x ∈ l, ∀ y, f x = some y → g x = some y) → allO f l = some ys → allO g l = some ys
  | [], _, _, h => h
  | x :: r, _, hx, h => by
    obtain ⟨z, zs, h1, h2, rfl⟩ := allO_cons h
    unfold allO
    rw [hx x (by simp) z h1, allO_mono (fun y hy => hx y (List.mem_cons_of_mem _ hy)) h2]
theorem toP_app {S G : Sto} : ∀ (k : Nat) (d : D) (p : PyData), toP k S d = some p → toP k (S ++ G) d = some p
  | 0, _, _, h => by cases h
  | k + 1, d, p, h => by
    have all : ∀ {ds : List D} {ps : List PyData}, allO (toP k S) ds = some ps → allO (toP k (S ++ G)) ds = some ps := fun h => allO_mono (fun x _ y e => toP_app k x y e) h
    have one : ∀ {ds : List D} {p : PyData} {f : List PyData → PyData}, (allO (toP k S) ds).map f = some p → (allO (toP k (S ++ G)) ds).map f = some p := fun {ds p f} h => by
      cases e : allO (toP k S) ds with
      | none => rw [e] at h; cases h
      | some ps => rw [e] at h; rw [all e]; exact h
    cases d with
    | non => exact h
    | bl b => exact h
    | int i => exact h
    | str x => exact h
    | tup ds => exact one h
    | fro ds => exact one h
    | adr a => exact h
    | ty a => exact h
    | ref n =>
      simp only [toP] at h ⊢
      cases e : S[n]? with
      | none => rw [e] at h; cases h
      | some o =>
        rw [List.getElem?_append_left (List.getElem?_eq_some_iff.mp e).1, e]
        rw [e] at h
        cases o with
        | lst ds => exact one h
        | dic kvs => exact one h
theorem reprO_app {S G : Sto} {d : D} {t : Str} (h : reprO S d = some t) : reprO (S ++ G) d = some t := by
  unfold reprO at h ⊢
  cases e : toP 64 S d with
  | none => rw [e] at h; cases h
  | some p => rw [toP_app 64 d p e]; rw [e] at h; exact h
theorem g_repr {S : Sto} {d : D} {t : Str} {PD : D → Sto → Prop} {E : Value → Sto → Prop} (h : reprO S d = some t) : good (reprD [d] S) PD E = PD (.str t) S := by
  show good ((reprO S d).bind _) PD E = _
  rw [h]; rfl
theorem eqB_str {a b : Str} {S : Sto} : eqB (.str a) (.str b) S = some (decide (a = b)) := rfl
theorem g_eqS {a b : Str} {S : Sto} {PD : D → Sto → Prop} {E : Value → Sto → Prop} : good (eqD (.str a) (.str b) S) PD E = PD (.bl (decide (a = b))) S := (rfl)
end Qm

namespace Qm
open PySem PySem.Spec PyProof.Rows L2
/-! ### small data that repr shows -/
structure Sm (p : PyData) (n : Nat) : Prop where
  show_ : p.showable = true
  leaf : p.leavesShort 40 = true
  bulk : p.bulk ≤ n
structure SmAll (ps : List PyData) (n : Nat) : Prop where
  show_ : PyData.showableAll ps = true
  leaf : PyData.leavesShortAll 40 ps = true
  bulk : PyData.bulkAll ps ≤ n
def plain (p : PyData) : Bool := !p.hasDict && noList p
def dictOk (p : PyData) : Bool := !p.hasDict || noList p
theorem Sm.le {p : PyData} {n m : Nat} (h : Sm p n) (e : n ≤ m) : Sm p m := ⟨h.show_, h.leaf, Nat.le_trans h.bulk e⟩
theorem Sm.shown {p : PyData} {n : Nat} (h : Sm p n) (hn : n ≤ 100000) : p.shown.length ≤ sizeLine := by
  have h1 := PyData.shown_le_bulk 40 (by decide) p h.leaf
  have h2 := h.bulk
  rw [sizeLine_eq]
  omega
theorem SmAll.nil : SmAll [] 0 := ⟨rfl, rfl, Nat.le_refl _⟩
theorem SmAll.cons {p : PyData} {ps : List PyData} {n m : Nat} (h : Sm p n) (hs : SmAll ps m) : SmAll (p :: ps) (n + 1 + m) := by
  refine ⟨?_, ?_, ?_⟩
  · simp only [PyData.showableAll, h.show_, hs.show_, Bool.and_self]
  · simp only [PyData.leavesShortAll, h.leaf, hs.leaf, Bool.and_self]
  · simp only [PyData.bulkAll]
    have := h.bulk
    have := hs.bulk
    omega
theorem SmAll.append {ps qs : List PyData} {n m : Nat} (h : SmAll ps n) (hs : SmAll qs m) : SmAll (ps ++ qs) (n + m) := by
  induction ps generalizing n with
  | nil => exact ⟨hs.show_, hs.leaf, Nat.le_trans hs.bulk (Nat.le_add_left _ _)⟩
  | cons p ps ih =>
    have h1 := h.show_
    have h2 := h.leaf
    have h3 := h.bulk
    simp only [PyData.showableAll, Bool.and_eq_true] at h1
    simp only [PyData.leavesShortAll, Bool.and_eq_true] at h2
    simp only [PyData.bulkAll] at h3
    have q := ih (n := PyData.bulkAll ps) ⟨h1.2, h2.2, Nat.le_refl _⟩
    refine ⟨?_, ?_, ?_⟩
    · simp only [List.cons_append, PyData.showableAll, h1.1, q.show_, Bool.and_self]
    · simp only [List.cons_append, PyData.leavesShortAll, h2.1, q.leaf, Bool.and_self]
    · simp only [List.cons_append, PyData.bulkAll]
      have := q.bulk
      omega
theorem SmAll.le {ps : List PyData} {n m : Nat} (h : SmAll ps n) (e : n ≤ m) : SmAll ps m := ⟨h.show_, h.leaf, Nat.le_trans h.bulk e⟩
theorem Sm.tup {ps : List PyData} {n : Nat} (h : SmAll ps n) : Sm (.tuple ps) n := ⟨by simp only [PyData.showable]; exact h.show_, by simp only [PyData.leavesShort]; exact h.leaf, by simp only [PyData.bulk]; exact h.bulk⟩
theorem Sm.lst {ps : List PyData} {n : Nat} (h : SmAll ps n) : Sm (.list ps) n := ⟨by simp only [PyData.showable]; exact h.show_, by simp only [PyData.leavesShort]; exact h.leaf, by simp only [PyData.bulk]; exact h.bulk⟩
theorem Sm.int {i : Int} (h1 : -999999999999 ≤ i) (h2 : i ≤ 999999999999) : Sm (.int i) 0 := by
  refine ⟨?_, ?_, by simp [PyData.bulk]⟩
  · simp only [PyData.showable, decide_eq_true_eq]
    have hb : i.natAbs < 2 ^ 40 := by omega
    by_cases hz : i.natAbs = 0
    · rw [hz]; decide
    · have := (Nat.log2_lt hz).mpr hb
      omega
  · simp only [PyData.leavesShort, decide_eq_true_eq]
    have := PyData.shown_int_le2 h1 h2
    omega
theorem SmAll.ints : ∀ {is : List Int}, (∀ i ∈ is, -999999999999 ≤ i ∧ i ≤ 999999999999) → SmAll (is.map PyData.int) is.length
  | [], _ => .nil
  | i :: is, h => by
    have h1 := h i (by simp)
    exact (SmAll.cons (.int h1.1 h1.2) (SmAll.ints fun j hj => h j (List.mem_cons_of_mem _ hj))).le (by simp; omega)
theorem plainAll_ints (is : List Int) : PyData.hasDictAll (is.map PyData.int) = false ∧ noListAll (is.map PyData.int) = true := by
  induction is with
  | nil => exact ⟨by simp [PyData.hasDictAll], by simp [noListAll]⟩
  | cons i is ih => exact ⟨by simp [PyData.hasDictAll, PyData.hasDict, ih.1], by simp [noListAll, noList, ih.2]⟩
theorem hasDictAll_app (ps qs : List PyData) : PyData.hasDictAll (ps ++ qs) = (PyData.hasDictAll ps || PyData.hasDictAll qs) := by
  induction ps with
  | nil => simp [PyData.hasDictAll]
  | cons p ps ih => simp [PyData.hasDictAll, ih, Bool.or_assoc]
theorem noListAll_app (ps qs : List PyData) : noListAll (ps ++ qs) = (noListAll ps && noListAll qs) := by
  induction ps with
  | nil => simp [noListAll]
  | cons p ps ih => simp [noListAll, ih, Bool.and_assoc]
/-- a value that is data and that repr shows -/
structure Rok (S : Sto) (d : D) (p : PyData) (n : Nat) : Prop where
  to : toP 64 S d = some p
  sm : Sm p n
  dk : dictOk p = true
theorem Rok.repr {S : Sto} {d : D} {p : PyData} {n : Nat} (h : Rok S d p n) (hn : n ≤ 100000) : reprO S d = some p.shown := by
  unfold reprO
  rw [h.to]
  show (if _ then _ else _) = _
  rw [if_pos]
  refine ⟨h.sm.show_, h.sm.shown hn, fun hd => ?_⟩
  have := h.dk
  unfold dictOk at this
  rw [hd] at this
  simpa using this
theorem Rok.app {S G : Sto} {d : D} {p : PyData} {n : Nat} (h : Rok S d p n) : Rok (S ++ G) d p n := ⟨toP_app _ _ _ h.to, h.sm, h.dk⟩
/-! the type of a value that is data -/
def tyList : List String := ["NoneType", "bool", "int", "str", "tuple", "list", "dict"]
theorem tyD_of {S : Sto} {k : Nat} {d : D} {p : PyData} (h : toP (k + 1) S d = some p) : ∃ t, tyD d S = some t ∧ tyList.contains t = true := by
  cases d with
  | non => exact ⟨_, rfl, by decide⟩
  | bl b => exact ⟨_, rfl, by decide⟩
  | int i => exact ⟨_, rfl, by decide⟩
  | str x => exact ⟨_, rfl, by decide⟩
  | tup ds => exact ⟨_, rfl, by decide⟩
  | fro ds => exact ⟨_, rfl, by decide⟩
  | adr a => cases h
  | ty a => cases h
  | ref n =>
    simp only [toP] at h
    cases e : S[n]? with
    | none => rw [e] at h; cases h
    | some o =>
      cases o with
      | lst ds => exact ⟨"list", by simp only [tyD, e], by decide⟩
      | dic ds => exact ⟨"dict", by simp only [tyD, e], by decide⟩
theorem isi_eq {d : D} {c t : String} {b : Bool} {S : Sto} (h : tyD d S = some t) (h2 : isiB t c = some b) : isiD [d, .ty c] S = some (.ok (.bl b) S) := by
  show ((tyD d S).bind fun t => isiB t c).bind _ = _
  rw [h]
  show (isiB t c).bind _ = _
  rw [h2]; rfl
theorem isi_all {t : String} (h : tyList.contains t = true) : isiB t "int" = some (decide (t = "int") || decide (t = "bool")) ∧ isiB t "bool" = some (decide (t = "bool")) ∧ isiB t "tuple" = some (decide (t = "tuple")) ∧ isiB t "str" = some (decide (t = "str")) := by
  simp only [tyList, List.contains_cons, Bool.or_eq_true, beq_iff_eq] at h
  rcases h with h | h | h | h | h | h | h | h
  all_goals first | (subst h; decide) | (simp at h)
theorem ty_int {d : D} {S : Sto} (h : tyD d S = some "int") : ∃ i, d = .int i := by
  cases d <;> first | exact ⟨_, rfl⟩ | (exfalso; simp [tyD] at h; done) | skip
  rename_i n
  exfalso
  simp only [tyD] at h
  split at h <;> simp at h
theorem ty_tuple {d : D} {S : Sto} (h : tyD d S = some "tuple") : ∃ i, d = .tup i := by
  cases d <;> first | exact ⟨_, rfl⟩ | (exfalso; simp [tyD] at h; done) | skip
  rename_i n
  exfalso
  simp only [tyD] at h
  split at h <;> simp at h
/-- an integer in its bounds -/
def wh (lo hi : Int) : D → Bool
  | .int i => decide (lo ≤ i) && decide (i ≤ hi)
  | _ => false
theorem wh_ty {d : D} {S : Sto} {t : String} {lo hi : Int} (h : tyD d S = some t) (hn : t ≠ "int") : wh lo hi d = false := by
  cases d <;> first | rfl | skip
  cases h
  exact absurd rfl hn
/-! ### the pen -/
/-- at p the pen stands, good for B draws more -/
def PenOk (S : Sto) (p : Nat) (B : Nat) : Prop := ∃ a s t : Int, lstAt S p = some [.int a, .int s, .int t] ∧ 0 ≤ a ∧ 0 ≤ s ∧ s < 1000000007 ∧ 0 ≤ t ∧ t + B ≤ 1000000000000
/-- all but p is as it was -/
def But (p : Nat) (S S' : Sto) : Prop := S'.length = S.length ∧ ∀ n, n ≠ p → S'[n]? = S[n]?
theorem But.refl (p : Nat) (S : Sto) : But p S S := ⟨rfl, fun _ _ => rfl⟩
theorem But.trans {p : Nat} {A B C : Sto} (h : But p A B) (k : But p B C) : But p A C := ⟨k.1.trans h.1, fun n e => (k.2 n e).trans (h.2 n e)⟩
theorem But.set (p : Nat) (S : Sto) (o : O) : But p S (S.set p o) := ⟨by simp, fun n e => by rw [List.getElem?_set_ne (Ne.symm e)]⟩
theorem lstAt_set {S : Sto} {p : Nat} {ds es : List D} (h : lstAt S p = some ds) : lstAt (S.set p (.lst es)) p = some es := by
  unfold lstAt at h ⊢
  split at h
  · rename_i e
    rw [List.getElem?_set_self (List.getElem?_eq_some_iff.mp e).1]
  · cases h
theorem lstAt_last {S : Sto} {ds : List D} : lstAt (S ++ [.lst ds]) S.length = some ds := by
  unfold lstAt
  rw [List.getElem?_append_right (Nat.le_refl _), Nat.sub_self]
  rfl
theorem lstAt_but {p n : Nat} {S S' : Sto} {ds : List D} (b : But p S S') (hn : n ≠ p) (h : lstAt S n = some ds) : lstAt S' n = some ds := by
  unfold lstAt at h ⊢
  rw [b.2 n hn]
  exact h
theorem at0 {α : Type} {x : α} {r : List α} : atI (x :: r) 0 = some x := by
  unfold atI ixN
  rw [if_pos (Int.le_refl 0), if_pos (by simp only [List.length_cons]; omega)]
  rfl
theorem at1 {α : Type} {x y : α} {r : List α} : atI (x :: y :: r) 1 = some y := by
  unfold atI ixN
  rw [if_pos (by decide), if_pos (by simp only [List.length_cons]; omega)]
  rfl
theorem at2 {α : Type} {x y z : α} {r : List α} : atI (x :: y :: z :: r) 2 = some z := by
  unfold atI ixN
  rw [if_pos (by decide), if_pos (by simp only [List.length_cons]; omega)]
  rfl
theorem at_nat {α : Type} {xs : List α} {i : Int} {v : α} (h0 : 0 ≤ i) (h : xs[i.toNat]? = some v) : atI xs i = some v := by
  unfold atI ixN
  have hl := (List.getElem?_eq_some_iff.mp h).1
  rw [if_pos h0, if_pos (by omega), Option.bind_some]
  exact h
theorem g_ix {n : Nat} {ds : List D} {i : Int} {d : D} {S : Sto} {PD : D → Sto → Prop} {E : Value → Sto → Prop} (h : lstAt S n = some ds) (hi : atI ds i = some d) : good (ixD (.ref n) (.int i) S) PD E = PD d S := by
  show good ((lstAt S n).bind fun ds => (atI ds i).bind fun d => some (.ok d S)) PD E = _
  rw [h]
  show good ((atI ds i).bind _) PD E = _
  rw [hi]; rfl
theorem g_ixT {ds : List D} {i : Int} {d : D} {S : Sto} {PD : D → Sto → Prop} {E : Value → Sto → Prop} (hi : atI ds i = some d) : good (ixD (.tup ds) (.int i) S) PD E = PD d S := by
  show good ((atI ds i).bind _) PD E = _
  rw [hi]; rfl
theorem g_ixF {ds : List D} {i : Int} {d : D} {S : Sto} {PD : D → Sto → Prop} {E : Value → Sto → Prop} (hi : atI ds i = some d) : good (ixD (.fro ds) (.int i) S) PD E = PD d S := by
  show good ((atI ds i).bind _) PD E = _
  rw [hi]; rfl
theorem g_set {n j : Nat} {ds : List D} {i : Int} {v : D} {S : Sto} {P : Unit → Sto → Prop} {E : Value → Sto → Prop} (h : lstAt S n = some ds) (hi : ixN ds.length i = some j) : good (setD (.ref n) (.int i) v S) P E = P () (S.set n (.lst (ds.set j v))) := by
  show good (match lstAt S n with | some xs => _ | none => none) P E = _
  rw [h]
  show good (match ixN ds.length i with | some j => _ | none => none) P E = _
  rw [hi]; rfl
theorem g_mod {i j : Int} {S : Sto} {PD : D → Sto → Prop} {E : Value → Sto → Prop} (h : 0 < j) : good (modD (.int i) (.int j) S) PD E = PD (.int (i % j)) S := by
  show good (if 0 < j then _ else _) PD E = _
  rw [if_pos h]; rfl
theorem g_fdiv {i j : Int} {S : Sto} {PD : D → Sto → Prop} {E : Value → Sto → Prop} (h : 0 < j ∧ j < 1073741824) : good (fdivD (.int i) (.int j) S) PD E = PD (.int (i / j)) S := by
  show good (if 0 < j ∧ j < 1073741824 then _ else _) PD E = _
  rw [if_pos h]; rfl
theorem g_mulL {i j : Int} {S : Sto} {PD : D → Sto → Prop} {E : Value → Sto → Prop} (h : -(2 ^ 64) < i ∧ i < 2 ^ 64) : good (mulD (.int i) (.int j) S) PD E = PD (.int (i * j)) S := by
  show good (if (-(2 ^ 64) < i ∧ i < 2 ^ 64) ∨ (-(2 ^ 64) < j ∧ j < 2 ^ 64) then _ else _) PD E = _
  rw [if_pos (.inl h)]; rfl
theorem g_mulR {i j : Int} {S : Sto} {PD : D → Sto → Prop} {E : Value → Sto → Prop} (h : -(2 ^ 64) < j ∧ j < 2 ^ 64) : good (mulD (.int i) (.int j) S) PD E = PD (.int (i * j)) S := by
  show good (if (-(2 ^ 64) < i ∧ i < 2 ^ 64) ∨ (-(2 ^ 64) < j ∧ j < 2 ^ 64) then _ else _) PD E = _
  rw [if_pos (.inr h)]; rfl
theorem g_mulT {a : List D} {k : Int} {S : Sto} {PD : D → Sto → Prop} {E : Value → Sto → Prop} (h : -(2 ^ 63) ≤ k ∧ k < 2 ^ 63 ∧ a.length * k.toNat ≤ sizeLine) : good (mulD (.tup a) (.int k) S) PD E = PD (.tup (List.replicate k.toNat a).flatten) S := by
  show good (if -(2 ^ 63) ≤ k ∧ k < 2 ^ 63 ∧ a.length * k.toNat ≤ sizeLine then _ else _) PD E = _
  rw [if_pos h]; rfl
theorem g_addL {n m : Nat} {a b : List D} {S : Sto} {PD : D → Sto → Prop} {E : Value → Sto → Prop} (h1 : lstAt S n = some a) (h2 : lstAt S m = some b) (hz : a.length + b.length ≤ sizeLine) : good (addD (.ref n) (.ref m) S) PD E = PD (.ref S.length) (S ++ [.lst (a ++ b)]) := by
  show good (match lstAt S n, lstAt S m with | some a, some b => _ | _, _ => none) PD E = _
  rw [h1, h2]
  show good (if a.length + b.length ≤ sizeLine then _ else _) PD E = _
  rw [if_pos hz]; rfl
theorem g_lenL {n : Nat} {ds : List D} {S : Sto} {PD : D → Sto → Prop} {E : Value → Sto → Prop} (h : lstAt S n = some ds) : good (lenD [.ref n] S) PD E = PD (.int ds.length) S := by
  show good ((lstAt S n).bind _) PD E = _
  rw [h]; rfl
theorem g_lenT {ds : List D} {S : Sto} {PD : D → Sto → Prop} {E : Value → Sto → Prop} : good (lenD [.tup ds] S) PD E = PD (.int ds.length) S := (rfl)
theorem g_lenF {ds : List D} {S : Sto} {PD : D → Sto → Prop} {E : Value → Sto → Prop} : good (lenD [.fro ds] S) PD E = PD (.int ds.length) S := (rfl)
theorem g_max {i j : Int} {S : Sto} {PD : D → Sto → Prop} {E : Value → Sto → Prop} : good (max2D [.int i, .int j] S) PD E = PD (.int (if j > i then j else i)) S := (rfl)
theorem g_min {i j : Int} {S : Sto} {PD : D → Sto → Prop} {E : Value → Sto → Prop} : good (min2D [.int i, .int j] S) PD E = PD (.int (if j < i then j else i)) S := (rfl)
theorem g_pow {i j : Int} {S : Sto} {PD : D → Sto → Prop} {E : Value → Sto → Prop} (h : 0 ≤ j ∧ j ≤ 1000000 ∧ i.natAbs < 2 ^ 64) : good (powD (.int i) (.int j) S) PD E = PD (.int (i ^ j.toNat)) S := by
  show good (if 0 ≤ j ∧ j ≤ 1000000 ∧ i.natAbs < 2 ^ 64 then _ else _) PD E = _
  rw [if_pos h]; rfl
end Qm

namespace Qm
open PySem PySem.Spec PyProof.Rows L2
section
variable {X : Cx} {E : XK} {a : Expr} {ma : EX} {p pos : Pos} {es : List Expr} {n : AX}
/-! ### displays with stars: the length is asked when the row is there -/
structure Axs (X : Cx) (E : XK) (es : List Expr) (m : AX) : Prop where
  pa : PA X es (tDA X.K E m)
theorem Axn.s (h : Axn X E es n) : Axs X E es n := ⟨h.pa⟩
def starK (n : AX) (dl : En) (x : D) : M (List D) := fun S => match seqD x S with
  | none => none
  | some xs => M.bind (n dl) (fun ys => M.pure (xs ++ ys)) S
def mStar (m : EX) (n : AX) : AX := fun dl => M.bind (m dl) (starK n dl)
theorem as_nil : Axs X E [] mNil := ax_nil.s
theorem as_cons (ha : Ex X E a ma) (hr : Axs X E es n) (hs : starEach (a :: es) X.env = (false, eval a X.env) :: starEach es X.env := by rfl) : Axs X E (a :: es) (mCons ma n) := ⟨(pa_cons ha hr.pa hs).imp fun sg H Q h => by
  obtain ⟨W, dl, S, hH, hE, hS, g⟩ := h
  refine tD.step hH hE hS g fun x S1 vx W1 e1 hE1 hS1 rx g1 => ?_
  refine tDA.step rfl hE1 hS1 (g1.mono (fun _ _ q => q.le e1) fun _ _ q => q.le e1) fun xs S2 vxs W2 e2 hE2 hS2 rxs g2 => ?_
  exact g2 _ W2 e2 hS2 (.cons (rx.le e2) rxs)⟩
theorem Rps.app {K : PySem.W.Frag} {W : Wd} {xs ys : List D} {us vs : List V} (h : Rps K W xs us) (k : Rps K W ys vs) : Rps K W (xs ++ ys) (us ++ vs) := by
  induction xs generalizing us with
  | nil => cases h; exact k
  | cons x r ih => cases h with
    | cons h1 h2 => exact .cons h1 (ih h2)
theorem as_star (ha : Ex X E a ma) (hr : Axs X E es n) (hs : starEach (.Starred a p :: es) X.env = (true, eval a X.env) :: starEach es X.env := by rfl) : Axs X E (.Starred a p :: es) (mStar ma n) := ⟨(_root_.StX.pa_star ha hr.pa hs).imp fun sg H Q h => by
  obtain ⟨W, dl, S, hH, hE, hS, g⟩ := h
  refine tD.step hH hE hS g fun x S1 vx W1 e1 hE1 hS1 rx g1 => ?_
  unfold starK at g1
  cases e : seqD x S1 with
  | none => rw [e] at g1; exact g1.elim
  | some xs =>
    rw [e] at g1
    obtain ⟨b, us, rfl, hs, hr⟩ := seqD_ok e hS1 rx
    refine ⟨b, us, rfl, hs.symm, ?_⟩
    refine tDA.step rfl hE1 hS1 (g1.mono (fun _ _ q => q.le e1) fun _ _ q => q.le e1) fun ys S2 vys W2 e2 hE2 hS2 rys g2 => ?_
    exact g2 _ W2 e2 hS2 ((hr.le e2).app rys)⟩
def newLs (ds : List D) : M D := fun S => if ds.length ≤ sizeLine then newL ds S else none
def mLstS (n : AX) : EX := fun dl => M.bind (n dl) newLs
def tupS (ds : List D) : M D := fun S => if ds.length ≤ sizeLine then some (.ok (.tup ds) S) else none
def mTupS (n : AX) : EX := fun dl => M.bind (n dl) tupS
theorem ex_lstS (h : Axs X E es n) : Ex X E (.List es pos) (mLstS n) := (pe_lst h.pa).imp fun sg H Q q => by
  obtain ⟨W, dl, S, hH, hE, hS, g⟩ := q
  unfold mLstS at g
  subst hH
  have g' := good_bind.mp g
  refine ⟨W, dl, S, rfl, hE, hS, ?_⟩
  cases e : n dl S with
  | none => rw [e] at g'; exact g'.elim
  | some r =>
    rw [e] at g'
    cases r with
    | ex c S1 => exact g'
    | ok ds S1 =>
      intro vs W1 e1 hS1 r1
      replace g' : good (newLs ds S1) (PoV X.K W Q) (PoE X.K E W) := g'
      unfold newLs at g'
      by_cases hz : ds.length ≤ sizeLine
      · rw [if_pos hz] at g'
        exact ⟨by rw [← r1.length]; exact hz, fun p hp => pushed hS1 r1 (PoV.le g' e1) p hp⟩
      · rw [if_neg hz] at g'; exact g'.elim
theorem ex_tupS {x1} (h : Axs X E es n) : Ex X E (.Tuple es x1 pos) (mTupS n) := (pe_tup h.pa).imp fun sg H Q q => by
  obtain ⟨W, dl, S, hH, hE, hS, g⟩ := q
  unfold mTupS at g
  subst hH
  have g' := good_bind.mp g
  refine ⟨W, dl, S, rfl, hE, hS, ?_⟩
  cases e : n dl S with
  | none => rw [e] at g'; exact g'.elim
  | some r =>
    rw [e] at g'
    cases r with
    | ex c S1 => exact g'
    | ok ds S1 =>
      intro vs W1 e1 hS1 r1
      replace g' : good (tupS ds S1) (PoV X.K W Q) (PoE X.K E W) := g'
      unfold tupS at g'
      by_cases hz : ds.length ≤ sizeLine
      · rw [if_pos hz] at g'
        exact ⟨by rw [← r1.length]; exact hz, fun p hp => pushedT hS1 r1 (PoV.le g' e1) p hp⟩
      · rw [if_neg hz] at g'; exact g'.elim
end
end Qm
namespace Qm
open PySem PySem.Spec PyProof.Rows L2
/-! ### enumerate of a list, zip of two lists or two tuples: new pairs -/
def pairF (f g : Nat → Sto → Option (Option D)) : Nat → Sto → Option (Option D) := fun i S => match f i S, g i S with
  | some (some a), some (some b) => some (some (.tup [a, b]))
  | some none, some _ => some none
  | some _, some none => some none
  | _, _ => none
def natF : Nat → Sto → Option (Option D) := fun i _ => some (some (.int (i : Nat)))
theorem pairF_none {f g : Nat → Sto → Option (Option D)} {i : Nat} {S : Sto} (h : pairF f g i S = some none) : (f i S = some none ∧ ∃ o, g i S = some o) ∨ (g i S = some none ∧ ∃ o, f i S = some o) := by
  unfold pairF at h
  split at h
  · cases h
  · rename_i h1 h2; exact .inl ⟨h1, _, h2⟩
  · rename_i h1 h2; exact .inr ⟨h2, _, h1⟩
  · cases h
theorem pairF_some {f g : Nat → Sto → Option (Option D)} {i : Nat} {S : Sto} {d : D} (h : pairF f g i S = some (some d)) : ∃ a b, f i S = some (some a) ∧ g i S = some (some b) ∧ d = .tup [a, b] := by
  unfold pairF at h
  split at h
  · rename_i h1 h2; cases h; exact ⟨_, _, h1, h2, rfl⟩
  all_goals cases h
theorem new_pair {K : PySem.W.Frag} {W : Wd} {S : Sto} {a b : D} {x y : V} {T : Addr} (hS : SR K W S) (h1 : Rp K W a x) (h2 : Rp K W b y) (hT : W.H T = none) : ∃ W', W'.H = upd W.H T (.tup [x, y]) ∧ W.le W' ∧ SR K W' S ∧ Rp K W' (.tup [a, b]) (.ref T) :=
  ⟨⟨upd W.H T (.tup [x, y]), W.ro⟩, rfl, Wd.le_tup hT, hS.new hT, .tup (.of upd_same) (.cons (h1.le (Wd.le_tup hT)) (.cons (h2.le (Wd.le_tup hT)) .nil))⟩
theorem itr_enum {K : PySem.W.Frag} {W0 : Wd} {a : Addr} {n : Nat} (r : Rp K W0 (.ref n) (.ref a)) : ItR K W0 (Ite K a) (pairF natF (listF n)) where
  stop i W S l hS e := by
    have e2 : listF n i S = some none := by
      rcases pairF_none e with ⟨h, _⟩ | ⟨h, _⟩
      · cases h
      · exact h
    obtain ⟨ds, h1, h2⟩ := listF_some e2
    obtain ⟨a2, vs, e2, h3, h4, _⟩ := lstAt_ob h1 hS (r.le l)
    cases e2
    exact ⟨vs, .of h3, by rw [← h4.length]; exact List.getElem?_eq_none_iff.mp h2⟩
  go i W S d l hS e := by
    obtain ⟨p, q, _, hq, rfl⟩ := pairF_some e
    obtain ⟨ds, h1, h2⟩ := listF_some hq
    obtain ⟨a2, vs, e2, h3, h4, _⟩ := lstAt_ob h1 hS (r.le l)
    cases e2
    obtain ⟨v, k1, _⟩ := h4.get h2
    exact ⟨vs, v, .of h3, k1⟩
  yld i W S d x H' l hS e y := by
    obtain ⟨p, q, hp, hq, rfl⟩ := pairF_some e
    cases hp
    obtain ⟨T, z, rfl, hT, rfl, y⟩ := y
    obtain ⟨ds, h1, h2⟩ := listF_some hq
    obtain ⟨a2, vs, e2, h3, h4, _⟩ := lstAt_ob h1 hS (r.le l)
    cases e2
    obtain ⟨v, k1, k2⟩ := h4.get h2
    have := y vs (.of h3)
    rw [k1] at this
    cases this
    exact new_pair hS (.int _) k2 hT
end Qm
namespace Qm
open PySem PySem.Spec PyProof.Rows L2
theorem itr_zipL {K : PySem.W.Frag} {W0 : Wd} {a b : Addr} {n m : Nat} (r : Rp K W0 (.ref n) (.ref a)) (r2 : Rp K W0 (.ref m) (.ref b)) : ItR K W0 (Itz K a b) (pairF (listF n) (listF m)) where
  stop i W S l hS e := by
    have two : ∃ o p, listF n i S = some o ∧ listF m i S = some p ∧ (o = none ∨ p = none) := by
      rcases pairF_none e with ⟨h, o, k⟩ | ⟨h, o, k⟩
      · exact ⟨_, _, h, k, .inl rfl⟩
      · exact ⟨_, _, k, h, .inr rfl⟩
    obtain ⟨o, p, e1, e2, hn⟩ := two
    obtain ⟨ds, h1, h2⟩ := listF_some e1
    obtain ⟨es, k1, k2⟩ := listF_some e2
    obtain ⟨a2, vs, q1, h3, h4, _⟩ := lstAt_ob h1 hS (r.le l)
    obtain ⟨b2, us, q2, k3, k4, _⟩ := lstAt_ob k1 hS (r2.le l)
    cases q1; cases q2
    refine ⟨vs, us, .of h3, .of k3, ?_⟩
    rw [← h4.length, ← k4.length]
    rcases hn with rfl | rfl
    · exact .inl (List.getElem?_eq_none_iff.mp h2)
    · exact .inr (List.getElem?_eq_none_iff.mp k2)
  go i W S d l hS e := by
    obtain ⟨p, q, hp, hq, rfl⟩ := pairF_some e
    obtain ⟨ds, h1, h2⟩ := listF_some hp
    obtain ⟨es, k1, k2⟩ := listF_some hq
    obtain ⟨a2, vs, q1, h3, h4, _⟩ := lstAt_ob h1 hS (r.le l)
    obtain ⟨b2, us, q2, k3, k4, _⟩ := lstAt_ob k1 hS (r2.le l)
    cases q1; cases q2
    obtain ⟨v, g1, _⟩ := h4.get h2
    obtain ⟨u, g2, _⟩ := k4.get k2
    exact ⟨vs, us, v, u, .of h3, .of k3, g1, g2⟩
  yld i W S d x H' l hS e y := by
    obtain ⟨p, q, hp, hq, rfl⟩ := pairF_some e
    obtain ⟨T, z, t, rfl, hT, rfl, y1, y2⟩ := y
    obtain ⟨ds, h1, h2⟩ := listF_some hp
    obtain ⟨es, k1, k2⟩ := listF_some hq
    obtain ⟨a2, vs, q1, h3, h4, _⟩ := lstAt_ob h1 hS (r.le l)
    obtain ⟨b2, us, q2, k3, k4, _⟩ := lstAt_ob k1 hS (r2.le l)
    cases q1; cases q2
    obtain ⟨v, g1, g3⟩ := h4.get h2
    obtain ⟨u, g2, g4⟩ := k4.get k2
    have z1 := y1 vs (.of h3)
    have z2 := y2 us (.of k3)
    rw [g1] at z1; rw [g2] at z2
    cases z1; cases z2
    exact new_pair hS g3 g4 hT
theorem itr_zipT {K : PySem.W.Frag} {W0 : Wd} {a b : Addr} {ds es : List D} {vs us : List V} (hs : SqT K W0.H a vs) (r : Rps K W0 ds vs) (hs2 : SqT K W0.H b us) (r2 : Rps K W0 es us) : ItR K W0 (_root_.RZ.ItzT K a b) (pairF (valsF ds) (valsF es)) where
  stop i W S l hS e := by
    refine ⟨vs, us, SqT.le hs l, SqT.le hs2 l, ?_⟩
    rw [← r.length, ← r2.length]
    rcases pairF_none e with ⟨h, _⟩ | ⟨h, _⟩
    · exact .inl (List.getElem?_eq_none_iff.mp (Option.some.inj h))
    · exact .inr (List.getElem?_eq_none_iff.mp (Option.some.inj h))
  go i W S d l hS e := by
    obtain ⟨p, q, hp, hq, rfl⟩ := pairF_some e
    obtain ⟨v, g1, _⟩ := r.get (show ds[i]? = some p from Option.some.inj hp)
    obtain ⟨u, g2, _⟩ := r2.get (show es[i]? = some q from Option.some.inj hq)
    exact ⟨vs, us, v, u, SqT.le hs l, SqT.le hs2 l, g1, g2⟩
  yld i W S d x H' l hS e y := by
    obtain ⟨p, q, hp, hq, rfl⟩ := pairF_some e
    obtain ⟨T, z, t, rfl, hT, rfl, y1, y2⟩ := y
    obtain ⟨v, g1, g3⟩ := r.get (show ds[i]? = some p from Option.some.inj hp)
    obtain ⟨u, g2, g4⟩ := r2.get (show es[i]? = some q from Option.some.inj hq)
    have z1 := y1 vs (SqT.le hs l)
    have z2 := y2 us (SqT.le hs2 l)
    rw [g1] at z1; rw [g2] at z2
    cases z1; cases z2
    exact new_pair hS (g3.le l) (g4.le l) hT
def enL : List D → M Src := fun ds S => match ds with
  | [.ref n] => (lstAt S n).bind fun xs => some (.ok ⟨pairF natF (listF n), xs.length⟩ S)
  | _ => none
def mEnum (n : AX) : IX := fun dl => M.bind (n dl) enL
def zipK : List D → M Src := fun ds S => match ds with
  | [.ref n, .ref m] => (lstAt S n).bind fun xs => (lstAt S m).bind fun ys => some (.ok ⟨pairF (listF n) (listF m), min xs.length ys.length⟩ S)
  | [.tup xs, .tup ys] => some (.ok ⟨pairF (valsF xs) (valsF ys), min xs.length ys.length⟩ S)
  | _ => none
def mZip (n : AX) : IX := fun dl => M.bind (n dl) zipK
section
variable {X : Cx} {E : XK} {a b : Expr} {n : AX} {p pos tpos : Pos} {elts : List Expr} {kk : Nat}
theorem ix_enum (hg : Gl X "enumerate") (hm : X.mg "enumerate" = none) (ha : Axn X E [a] n) (hs : starEach [a] X.env = [(false, eval a X.env)] := by rfl) : Ix X E (.Tuple elts kk tpos) (.Call (.Name "enumerate" p) [a] [] pos) (mEnum n) := (pi_enum hg hm ha.pa hs).imp fun sg H R h => by
  obtain ⟨W, dl, S, hH, hE, hS, g⟩ := h
  refine tDA.step hH hE hS g fun ds S1 vs W1 e1 hE1 hS1 rs g1 => ?_
  unfold enL at g1
  split at g1
  · rename_i n
    cases rs with
    | cons r1 r2 =>
      cases r2
      cases e : lstAt S1 n with
      | none => rw [e] at g1; exact g1.elim
      | some xs =>
        rw [e] at g1
        obtain ⟨a, us, rfl, h3, h4, _⟩ := lstAt_ob e hS1 r1
        exact ⟨_, _, rfl, .of h3, g1 _ W1 e1 hS1 (itr_enum r1)⟩
  · exact g1.elim
theorem ix_zip (hg : Gl X "zip") (hm : X.mg "zip" = none) (ha : Axn X E [a, b] n) (hs : starEach [a, b] X.env = (false, eval a X.env) :: starEach [b] X.env := by rfl) (hpl : (backTo pos (starEach [b] X.env)).any (·.1) = false := by rfl) : Ix X E (.Tuple elts kk tpos) (.Call (.Name "zip" p) [a, b] [] pos) (mZip n) := (_root_.RZ.pi_zipA hg hm ha.pa hs hpl).imp fun sg H R h => by
  obtain ⟨W, dl, S, hH, hE, hS, g⟩ := h
  refine tDA.step hH hE hS g fun ds S1 vs W1 e1 hE1 hS1 rs g1 => ?_
  unfold zipK at g1
  split at g1
  · rename_i n m
    cases rs with
    | cons r1 r2 =>
      cases r2 with
      | cons r2 r3 =>
        cases r3
        cases e : lstAt S1 n with
        | none => rw [e] at g1; exact g1.elim
        | some xs =>
          rw [e] at g1
          replace g1 : good ((lstAt S1 m).bind fun ys => some (.ok ⟨pairF (listF n) (listF m), min xs.length ys.length⟩ S1)) (PoI X.K W R) (PoE X.K E W) := g1
          cases e2 : lstAt S1 m with
          | none => rw [e2] at g1; exact g1.elim
          | some ys =>
            rw [e2] at g1
            obtain ⟨a, us, rfl, h3, h4, _⟩ := lstAt_ob e hS1 r1
            obtain ⟨b, ws, rfl, k3, k4, _⟩ := lstAt_ob e2 hS1 r2
            exact ⟨_, _, _, _, rfl, .inl ⟨.of h3, .of k3, g1 _ W1 e1 hS1 (itr_zipL r1 r2)⟩⟩
  · cases rs with
    | cons r1 r2 =>
      cases r2 with
      | cons r2 r3 =>
        cases r3
        cases r1 with
        | tup h1 h2 =>
          cases r2 with
          | tup k1 k2 => exact ⟨_, _, _, _, rfl, .inr ⟨h1, k1, g1 _ W1 e1 hS1 (itr_zipT h1 h2 k1 k2)⟩⟩
  · exact g1.elim
end
end Qm
namespace Qm
open PySem PySem.Spec PyProof.Rows L2
/-! ### goal rules -/
section
variable {PD : D → Sto → Prop} {PL : List D → Sto → Prop} {P : Src → Sto → Prop} {E : Value → Sto → Prop} {dl : En} {S : Sto}
theorem g_Star {m : EX} {n : AX} : good (mStar m n dl S) PL E = good (m dl S) (fun x S1 => good (starK n dl x S1) PL E) E := by unfold mStar; rw [g_bind]
theorem g_starT {xs : List D} {n : AX} : good (starK n dl (.tup xs) S) PL E = good (n dl S) (fun ys S1 => PL (xs ++ ys) S1) E := by
  show good (M.bind (n dl) (fun ys => M.pure (xs ++ ys)) S) PL E = _
  rw [g_bind]; rfl
theorem g_starL {k : Nat} {xs : List D} {n : AX} (h : lstAt S k = some xs) : good (starK n dl (.ref k) S) PL E = good (n dl S) (fun ys S1 => PL (xs ++ ys) S1) E := by
  unfold starK
  rw [show seqD (.ref k) S = some xs from h]
  show good (M.bind (n dl) (fun ys => M.pure (xs ++ ys)) S) PL E = _
  rw [g_bind]; rfl
theorem g_LstS {n : AX} : good (mLstS n dl S) PD E = good (n dl S) (fun ds S1 => good (newLs ds S1) PD E) E := by unfold mLstS; rw [g_bind]
theorem g_newLs {ds : List D} (h : ds.length ≤ sizeLine) : good (newLs ds S) PD E = PD (.ref S.length) (S ++ [.lst ds]) := by
  unfold newLs; rw [if_pos h]; rfl
theorem g_TupS {n : AX} : good (mTupS n dl S) PD E = good (n dl S) (fun ds S1 => good (tupS ds S1) PD E) E := by unfold mTupS; rw [g_bind]
theorem g_tupS {ds : List D} (h : ds.length ≤ sizeLine) : good (tupS ds S) PD E = PD (.tup ds) S := by
  unfold tupS; rw [if_pos h]; rfl
theorem g_Enum {n : AX} : good (mEnum n dl S) P E = good (n dl S) (fun ds S1 => good (enL ds S1) P E) E := by unfold mEnum; rw [g_bind]
theorem g_enL {k : Nat} {xs : List D} (h : lstAt S k = some xs) : good (enL [.ref k] S) P E = P ⟨pairF natF (listF k), xs.length⟩ S := by
  show good ((lstAt S k).bind _) P E = _
  rw [h]; rfl
theorem g_Zip {n : AX} : good (mZip n dl S) P E = good (n dl S) (fun ds S1 => good (zipK ds S1) P E) E := by unfold mZip; rw [g_bind]
theorem g_zipT {xs ys : List D} : good (zipK [.tup xs, .tup ys] S) P E = P ⟨pairF (valsF xs) (valsF ys), min xs.length ys.length⟩ S := (rfl)
theorem g_zipL {k m : Nat} {xs ys : List D} (h : lstAt S k = some xs) (h2 : lstAt S m = some ys) : good (zipK [.ref k, .ref m] S) P E = P ⟨pairF (listF k) (listF m), min xs.length ys.length⟩ S := by
  show good ((lstAt S k).bind fun xs => (lstAt S m).bind fun ys => some (.ok (Src.mk (pairF (listF k) (listF m)) (min xs.length ys.length)) S)) P E = _
  rw [h, h2]; rfl
end
/-- what an enumerate walks -/
def enumD (i : Nat) : List D → List D
  | [] => []
  | d :: r => .tup [.int (i : Nat), d] :: enumD (i + 1) r
theorem enumD_get : ∀ (ds : List D) (i k : Nat), (enumD i ds)[k]? = ds[k]?.map fun d => .tup [.int ((i + k : Nat) : Int), d]
  | [], i, k => by simp [enumD]
  | d :: r, i, 0 => by simp [enumD]
  | d :: r, i, k + 1 => by
    unfold enumD
    rw [List.getElem?_cons_succ, List.getElem?_cons_succ, enumD_get r (i + 1) k, show i + 1 + k = i + (k + 1) by omega]
theorem enumF_eq {k i : Nat} {S : Sto} {xs : List D} (h : lstAt S k = some xs) : pairF natF (listF k) i S = some (enumD 0 xs)[i]? := by
  have e : listF k i S = some xs[i]? := by
    show (lstAt S k).map _ = _
    rw [h]; rfl
  rw [enumD_get, Nat.zero_add]
  unfold pairF natF
  rw [e]
  cases xs[i]? <;> rfl
theorem zipF_eq {f g : Nat → Sto → Option (Option D)} {i : Nat} {S : Sto} {xs ys : List D} (h : f i S = some xs[i]?) (h2 : g i S = some ys[i]?) : pairF f g i S = some ((xs.zip ys).map fun p => D.tup [p.1, p.2])[i]? := by
  unfold pairF
  rw [h, h2, List.getElem?_map, List.zip, List.getElem?_zipWith]
  cases xs[i]? <;> cases ys[i]? <;> rfl
end Qm

namespace Qm
open PySem PySem.Spec PyProof.Rows L2
/-! ### sum of a tuple of ints -/
def sumTD : List D → M D := fun ds S => match ds with
  | [.tup xs] => (allO intD xs).bind fun is => some (.ok (.int is.sum) S)
  | ds => sumD ds S
section
variable {X : Cx} {E : XK}
theorem cr_sumT (hc : X.calm = true) {pins : List (Addr × Obj)} {s : Shared} {sg : L2.St} {H : Hp} {a : Addr} {is : List Int} {Q : VK} (I : Inv X pins sg H s) (hs : SqT X.K H a (is.map V.int)) (q : Q (.int is.sum) H) :
    wpAny (model X.prog X.w) X.A (call (.builtin "sum") [.ref a]) (EP X pins sg Q) X.xe s := by
  obtain ⟨its, rv, hl, _⟩ := I.tuple hs
  have hi := rv.ints
  obtain ⟨xs, e⟩ := hi.allInts.items
  have hn : numsOf (intItems xs).toList = is := by rw [← e]; exact hi.numsOf
  rw [nums_intItems] at hn
  have hl2 : s.heap.IsTuple a its.toArray := hl
  rw [e] at hl2
  refine PySem.W.ktm_sumG (I.ok.hd hc) hl2 fun h' tk t' hk => ?_
  rw [preSum_eq, List.take_of_length_le (by simp), hn]
  exact ⟨.int _, H, I.kept hk, ⟨_, rfl⟩, q⟩
theorem call_sumTD (hc : X.calm = true) : CallD X E (.builtin "sum") sumTD := .mk fun pins s sg W S ds vs us Q I hS rs rv g => by
  unfold sumTD at g
  split at g
  · rename_i xs
    cases rs with
    | cons r1 r2 =>
      cases r2
      cases r1 with
      | tup h1 h2 =>
        cases e : allO intD xs with
        | none => rw [e] at g; exact g.elim
        | some is =>
          rw [e] at g
          have := ints_of e h2
          subst this
          rw [Vals.ref1 rv]
          exact cr_sumT hc I h1 (g _ W (.refl W) hS (.int _))
  · obtain ⟨r, hr, k⟩ := call_sumD (X := X) (E := E) hc
    exact hr pins s sg W.H vs us Q I rv (k W S _ vs Q hS rs g)
end
section
variable {PD : D → Sto → Prop} {E : Value → Sto → Prop} {S : Sto}
theorem g_sumTT {is : List Int} : good (sumTD [.tup (is.map .int)] S) PD E = PD (.int is.sum) S := by
  show good ((allO intD (is.map D.int)).bind _) PD E = _
  have : allO intD (is.map D.int) = some is := by
    induction is with
    | nil => rfl
    | cons i r ih => rw [List.map_cons]; simp only [allO, intD, ih]
  rw [this]; rfl
theorem g_sumTR {n : Nat} : good (sumTD [.ref n] S) PD E = good (sumD [.ref n] S) PD E := (rfl)
end
end Qm

namespace Qm
open PySem PySem.Spec PyProof.Rows L2
/-! ### zip of a tuple with a list -/
def ItzM (K : PySem.W.Frag) (a b : Addr) : It where
  go i H := ∃ (xs ys : List V) (x y : V), SqT K H a xs ∧ SqL K H b ys ∧ xs[i]? = some x ∧ ys[i]? = some y
  yld i H v H' := ∃ T x y, v = .ref T ∧ H T = none ∧ H' = upd H T (.tup [x, y]) ∧ (∀ l, SqT K H a l → l[i]? = some x) ∧ ∀ l, SqL K H b l → l[i]? = some y
  stop i H := ∃ xs ys : List V, SqT K H a xs ∧ SqL K H b ys ∧ i ≤ xs.length ∧ i ≤ ys.length ∧ (i = xs.length ∨ i = ys.length)
theorem turn_zipM {P : Program} {w : World} {K : PySem.W.Frag} {elts : List Expr} {kk : Nat} {tpos : Pos} {a b z TI TO i1 i2 : Addr} (D : ZipSep2 z TI TO i1 i2 [i1, a] [i2, b]) :
    Turn P w K (.Tuple elts kk tpos) (ItzM K a b) [z, TI, TO, i1, i2] z (fun i h => IsZip h z TI TO .none ∧ IsPair h TI (.ref i1) (.ref i2) ∧ (∃ x y, IsPair h TO x y) ∧ h.IsTupleIter i1 a i ∧ h.IsListIter i2 b i) where
  mem := by simp
  obj i h st c hc := by
    obtain ⟨hz, h2, ⟨x, y, h3⟩, ⟨u1, e1, _, f1⟩, ⟨u2, e2, _, f2⟩⟩ := st
    simp only [List.mem_cons, List.not_mem_nil, or_false] at hc
    rcases hc with rfl | rfl | rfl | rfl | rfl
    · exact ⟨_, hz, fun v q => by cases q⟩
    · exact ⟨_, h2, fun v q => by cases q⟩
    · exact ⟨_, h3, fun v q => by cases q⟩
    · exact ⟨u1, e1, fun v q => by rw [f1] at q; cases q⟩
    · exact ⟨u2, e2, fun v q => by rw [f2] at q; cases q⟩
  keep i h h' st k := by
    obtain ⟨hz, h2, ⟨x, y, h3⟩, h4, h5⟩ := st
    exact ⟨k z (by simp) _ hz, k TI (by simp) _ h2, ⟨x, y, k TO (by simp) _ h3⟩, h4.at fun o q => k i1 (by simp) o q, h5.at fun o q => k i2 (by simp) o q⟩
  item := by
    intro X hP hw hK hc i pins s σ H E I hf st hg
    subst hP hw hK
    obtain ⟨hz, h2, ⟨x0, y0, h3⟩, h4, h5⟩ := st
    obtain ⟨xs, ys, x, y, qx, qy, hx, hy⟩ := hg
    obtain ⟨its, rv, p, _⟩ := I.tuple qx
    obtain ⟨jts, rw2, p2, _⟩ := I.list qy
    obtain ⟨u, hu, ru⟩ := rv.get hx
    obtain ⟨v, hv, rv2⟩ := rw2.get hy
    have hd := I.ok.hd hc
    have hzl : z < s.heap.objs.size := Heap.lt_size hz
    have ne1 : a ≠ i1 := fun e => by
      obtain ⟨o1, k1, k2, _⟩ := h4
      obtain ⟨o2, k3, k4, _⟩ := p
      rw [e, k1] at k3; cases k3; rw [k2] at k4; exact absurd k4 (by decide)
    have ne2 : b ≠ i2 := fun e => by
      obtain ⟨o1, k1, k2, _⟩ := h5
      obtain ⟨o2, k3, k4, _⟩ := p2.isList
      rw [e, k1] at k3; cases k3; rw [k2] at k4; exact absurd k4 (by decide)
    have hi1 : i < its.toArray.size := by
      rw [List.size_toArray]; exact (List.getElem?_eq_some_iff.mp hu).1
    have hi2 : i < jts.toArray.size := by
      rw [List.size_toArray]; exact (List.getElem?_eq_some_iff.mp hv).1
    refine wpAny_pyNext_zipD2_item D (Draws.tuple (A := X.A.in1) hd i1 a ne1 its.toArray) (Draws.list (A := X.A.in1) hd i2 b ne2 jts.toArray) hz h2 h3 ⟨h4, p⟩ ⟨h5, p2.isList⟩ hi1 hi2 fun x1 x2 g tk c1 c2 gz gO g1 g2 gT gs gk => ?_
    have e1 : x1 = u := by
      have c1 : its.toArray[i]? = some x1 := c1
      rw [List.getElem?_toArray, hu] at c1; cases c1; rfl
    have e2 : x2 = v := by
      have c2 : jts.toArray[i]? = some x2 := c2
      rw [List.getElem?_toArray, hv] at c2; cases c2; rfl
    subst e1 e2
    refine ⟨_, rfl, wpAny_letOwnedTupleGo_zip (s := { s with heap := g, toks := tk }) gz fun q qz sb => ?_⟩
    have qT : q.get? s.heap.objs.size = some { cls := .type "tuple", data := .seq #[x1, x2] } := (sb.2 _ (Nat.ne_of_gt hzl)).trans gT
    have ok : ObjOk X.prog X.w (upd H s.heap.objs.size (.tup [x, y])) q s.heap.objs.size (.tup [x, y]) :=
      ⟨(by decide : 2 ≤ sizeLine), [x1, x2], .cons ru (.cons rv2 .nil), ⟨_, qT, rfl, _, rfl⟩⟩
    have old : ∀ c o, c ∉ [z, TI, TO, i1, i2] → s.heap.get? c = some o → q.get? c = some o := by
      intro c o hc hq
      simp only [List.mem_cons, List.not_mem_nil, or_false, not_or] at hc
      exact (sb.2 c hc.1).trans (gk c o hc.1 hc.2.2.1 hc.2.2.2.1 hc.2.2.2.2 hq)
    have I1 : Inv X pins σ (upd H s.heap.objs.size (.tup [x, y])) { s with heap := q, toks := tk } := I.turnedNew old hf (Nat.le_refl _) ok
    have f1 : ∀ l, SqT X.K H a l → l[i]? = some x := fun l hl => by
      have := I.tuple_inj hl qx
      rw [this]; exact hx
    have f2 : ∀ l, SqL X.K H b l → l[i]? = some y := fun l hl => by
      have := I.list_inj hl qy
      rw [this]; exact hy
    refine ⟨.ref s.heap.objs.size, _, I1, rfl, ⟨_, x, y, rfl, I.hok.fresh (Nat.le_refl _), rfl, f1, f2⟩, ⟨qz, (sb.2 TI D.TIz).trans (gk TI _ D.TIz D.TITO D.TIi1 D.TIi2 h2), ⟨x1, x2, (sb.2 TO D.TOz).trans gO⟩, g1.1.at fun o e => (sb.2 i1 D.zi1.symm).trans e, g2.1.at fun o e => (sb.2 i2 D.zi2.symm).trans e⟩, fun c hc => ?_⟩
    have hl : c < s.heap.objs.size := by
      simp only [List.mem_cons, List.not_mem_nil, or_false] at hc
      rcases hc with rfl | rfl | rfl | rfl | rfl
      · exact hzl
      · exact Heap.lt_size h2
      · exact Heap.lt_size h3
      · obtain ⟨o, k, _⟩ := h4; exact Heap.lt_size k
      · obtain ⟨o, k, _⟩ := h5; exact Heap.lt_size k
    rw [upd_ne (Nat.ne_of_lt hl)]
    exact (hf c hc).1
  done := by
    intro X hP hw hK hc i pins s σ H E I hf st hg
    subst hP hw hK
    obtain ⟨hz, h2, ⟨x0, y0, h3⟩, h4, h5⟩ := st
    obtain ⟨xs, ys, qx, qy, b1, b2, hend⟩ := hg
    obtain ⟨its, rv, p, _⟩ := I.tuple qx
    obtain ⟨jts, rw2, p2, _⟩ := I.list qy
    have hd := I.ok.hd hc
    have ne1 : a ≠ i1 := fun e => by
      obtain ⟨o1, k1, k2, _⟩ := h4
      obtain ⟨o2, k3, k4, _⟩ := p
      rw [e, k1] at k3; cases k3; rw [k2] at k4; exact absurd k4 (by decide)
    have ne2 : b ≠ i2 := fun e => by
      obtain ⟨o1, k1, k2, _⟩ := h5
      obtain ⟨o2, k3, k4, _⟩ := p2.isList
      rw [e, k1] at k3; cases k3; rw [k2] at k4; exact absurd k4 (by decide)
    have l1 := rv.length
    have l2 := rw2.length
    refine wpAny_pyNext_zipD2_end D (Draws.tuple (A := X.A.in1) hd i1 a ne1 its.toArray) (Draws.list (A := X.A.in1) hd i2 b ne2 jts.toArray) hz h2 h3 ⟨h4, p⟩ ⟨h5, p2.isList⟩ (by rw [List.size_toArray]; omega) (by rw [List.size_toArray]; omega) (by rw [List.size_toArray, List.size_toArray]; omega) fun q tk k => ⟨rfl, ?_⟩
    exact I.turnedL (fun c o hc hq => by
      simp only [List.mem_cons, List.not_mem_nil, or_false, not_or] at hc
      exact k c o hc.1 hc.2.2.1 hc.2.2.2.1 hc.2.2.2.2 hq) hf
  self A i s Q E st h := wpAny_pyIter_zip st.1 h
/-- what it yields -/
def zipMF (xs : List D) (n : Nat) : Nat → Sto → Option (Option D) := fun i S => (lstAt S n).bind fun ys => if i ≤ xs.length ∧ i ≤ ys.length then some (match xs[i]?, ys[i]? with
  | some a, some b => some (.tup [a, b])
  | _, _ => none) else none
theorem zipMF_eq {xs ys : List D} {n i : Nat} {S : Sto} (h : lstAt S n = some ys) (h1 : i ≤ xs.length) (h2 : i ≤ ys.length) : zipMF xs n i S = some ((xs.zip ys).map fun p => D.tup [p.1, p.2])[i]? := by
  unfold zipMF
  rw [h, Option.bind_some, if_pos ⟨h1, h2⟩, List.getElem?_map, List.zip, List.getElem?_zipWith]
  cases xs[i]? <;> cases ys[i]? <;> rfl
theorem itr_zipM {K : PySem.W.Frag} {W0 : Wd} {a b : Addr} {ds : List D} {vs : List V} {n : Nat} (hs : SqT K W0.H a vs) (r : Rps K W0 ds vs) (r2 : Rp K W0 (.ref n) (.ref b)) : ItR K W0 (ItzM K a b) (zipMF ds n) where
  stop i W S l hS e := by
    unfold zipMF at e
    cases e1 : lstAt S n with
    | none => rw [e1] at e; cases e
    | some ys =>
      rw [e1, Option.bind_some] at e
      obtain ⟨b2, us, q2, k3, k4, _⟩ := lstAt_ob e1 hS (r2.le l)
      cases q2
      split at e
      · rename_i hb
        refine ⟨vs, us, SqT.le hs l, .of k3, by rw [← r.length]; exact hb.1, by rw [← k4.length]; exact hb.2, ?_⟩
        rw [← r.length, ← k4.length]
        by_cases h1 : i < ds.length
        · by_cases h2 : i < ys.length
          · rw [List.getElem?_eq_getElem h1, List.getElem?_eq_getElem h2] at e
            cases e
          · right; omega
        · left; omega
      · cases e
  go i W S d l hS e := by
    unfold zipMF at e
    cases e1 : lstAt S n with
    | none => rw [e1] at e; cases e
    | some ys =>
      rw [e1, Option.bind_some] at e
      obtain ⟨b2, us, q2, k3, k4, _⟩ := lstAt_ob e1 hS (r2.le l)
      cases q2
      split at e
      · cases g1 : ds[i]? with
        | none => rw [g1] at e; cases e
        | some x =>
          cases g2 : ys[i]? with
          | none => rw [g1, g2] at e; cases e
          | some y =>
            obtain ⟨v, m1, _⟩ := r.get g1
            obtain ⟨u, m2, _⟩ := k4.get g2
            exact ⟨vs, us, v, u, SqT.le hs l, .of k3, m1, m2⟩
      · cases e
  yld i W S d x H' l hS e y := by
    unfold zipMF at e
    obtain ⟨T, z, t, rfl, hT, rfl, y1, y2⟩ := y
    cases e1 : lstAt S n with
    | none => rw [e1] at e; cases e
    | some ys =>
      rw [e1, Option.bind_some] at e
      obtain ⟨b2, us, q2, k3, k4, _⟩ := lstAt_ob e1 hS (r2.le l)
      cases q2
      split at e
      · cases g1 : ds[i]? with
        | none => rw [g1] at e; cases e
        | some p =>
          cases g2 : ys[i]? with
          | none => rw [g1, g2] at e; cases e
          | some q =>
            rw [g1, g2] at e
            cases e
            obtain ⟨v, m1, m3⟩ := r.get g1
            obtain ⟨u, m2, m4⟩ := k4.get g2
            have z1 := y1 vs (SqT.le hs l)
            have z2 := y2 us (.of k3)
            rw [m1] at z1; rw [m2] at z2
            cases z1; cases z2
            exact new_pair hS (m3.le l) m4 hT
      · cases e
def zipMK : List D → M Src := fun ds S => match ds with
  | [.tup xs, .ref m] => (lstAt S m).bind fun ys => some (.ok ⟨zipMF xs m, min xs.length ys.length⟩ S)
  | ds => zipK ds S
theorem zipMK_or (S : Sto) : ∀ ds : List D, (∃ xs m, ds = [.tup xs, .ref m]) ∨ zipMK ds S = zipK ds S
  | [] => .inr rfl
  | [x] => .inr (by cases x <;> rfl)
  | [x, y] => by cases x <;> cases y <;> first | exact .inl ⟨_, _, rfl⟩ | exact .inr rfl
  | x :: y :: z :: r => .inr (by cases x <;> cases y <;> rfl)
def mZipM (n : AX) : IX := fun dl => M.bind (n dl) zipMK
section
variable {X : Cx} {E : XK} {a b : Expr} {n : AX} {p pos tpos : Pos} {elts : List Expr} {kk : Nat}
theorem ix_zipM (hg : Gl X "zip") (hm : X.mg "zip" = none) (ha : Axn X E [a, b] n) (hs : starEach [a, b] X.env = (false, eval a X.env) :: starEach [b] X.env := by rfl) (hpl : (backTo pos (starEach [b] X.env)).any (·.1) = false := by rfl) : Ix X E (.Tuple elts kk tpos) (.Call (.Name "zip" p) [a, b] [] pos) (mZipM n) := by
  refine ⟨fun pins s σ H R I h => ?_⟩
  obtain ⟨W, dl, S, hH, hE, hS, g⟩ := h
  have other : good (mZip n dl S) (PoI X.K W R) (PoE X.K E W) → wpAny (model X.prog X.w) X.A (eval (.Call (.Name "zip" p) [a, b] [] pos) X.env) (fun v s1 => wpAny (model X.prog X.w) X.A (pyIter v) (PIE X pins σ (.Tuple elts kk tpos) R) X.xe s1) X.xe s := fun g =>
    (ix_zip (X := X) (E := E) hg hm ha hs hpl).run pins s σ H R I ⟨W, dl, S, hH, hE, hS, g⟩
  have g' := good_bind.mp g
  cases e : n dl S with
  | none => rw [e] at g'; exact g'.elim
  | some r =>
    cases r with
    | ex c S1 =>
      refine other (good_bind.mpr ?_)
      rw [e] at g' ⊢
      exact g'
    | ok ds S1 =>
      rw [e] at g'
      have alt : zipMK ds S1 = zipK ds S1 → _ := fun q => other (good_bind.mpr (by rw [e]; show good (zipK ds S1) _ _; rw [← q]; exact g'))
      rcases zipMK_or S1 ds with hc | hc
      case inr => exact alt hc
      case inl =>
        obtain ⟨xs, m, rfl⟩ := hc
        have g2 : good ((lstAt S1 m).bind fun ys => some (.ok (Src.mk (zipMF xs m) (min xs.length ys.length)) S1)) (PoI X.K W R) (PoE X.K E W) := g'
        cases e1 : lstAt S1 m with
        | none => rw [e1] at g2; exact g2.elim
        | some ys =>
          rw [e1] at g2
          have g3 : PoI X.K W R (Src.mk (zipMF xs m) (min xs.length ys.length)) S1 := g2
          have ht : tDA X.K E n σ H (fun vs H1 => ∃ (a b : Addr) (l1 l2 : List V), vs = [.ref a, .ref b] ∧ SqT X.K H1 a l1 ∧ SqL X.K H1 b l2 ∧ R (ItzM X.K a b) H1) := by
            refine ⟨W, dl, S, hH, hE, hS, ?_⟩
            rw [e]
            intro vs W1 le1 hS1 rs
            cases rs with
            | cons r1 rs =>
              cases rs with
              | cons r2 rs =>
                cases rs
                cases r1 with
                | tup k1 k2 =>
                  obtain ⟨b2, us, rfl, k3, k4, _⟩ := lstAt_ob e1 hS1 r2
                  exact ⟨_, _, _, _, rfl, k1, .of k3, g3 _ W1 le1 hS1 (itr_zipM k1 k2 r2)⟩
          refine Call_ (ld_blt I hg hm boot_zip ?_)
          refine callWith_type1 (thn (ha.pa.run pos pins s σ H _ I ht) ?_) hs hpl
          intro us s1 q
          obtain ⟨vs, H1, I1, rv, a1, b1, l1, l2, rfl, q1, q2, q3⟩ := q
          cases rv with
          | cons ra rv =>
            cases rv with
            | cons rb rv =>
              cases rv
              cases ra
              cases rb
              obtain ⟨its, _, t1, _⟩ := I1.tuple q1
              obtain ⟨jts, _, t2, _⟩ := I1.list q2
              have lt1 : a1 < s1.heap.objs.size := by obtain ⟨o, k, _⟩ := t1; exact Heap.lt_size k
              have lt2 : b1 < s1.heap.objs.size := by obtain ⟨o, k, _⟩ := t2.isList; exact Heap.lt_size k
              have fr : ∀ c, s1.heap.objs.size ≤ c → FpOk X pins H1 c := fun c hc => I1.fpOk hc (I1.hok.fresh hc)
              refine zip_begins2 (begins_tuple a1 its.toArray) (begins_list b1 jts.toArray) t1 t2.isList fun h' hz hT hO hi1 hi2 hsz hk => ?_
              refine wpAny_pyIter_zip hz ?_
              have I2 : Inv X pins σ H1 { s1 with heap := h' } := I1.kept (t' := s1.toks) hk
              have D : ZipSep2 (s1.heap.objs.size + 4) (s1.heap.objs.size + 2) (s1.heap.objs.size + 3) s1.heap.objs.size (s1.heap.objs.size + 1) [s1.heap.objs.size, a1] [s1.heap.objs.size + 1, b1] := by
                have key : ∀ (N x y : Nat), x < N → y < N → ZipSep2 (N + 4) (N + 2) (N + 3) N (N + 1) [N, x] [N + 1, y] := by
                  intro N x y hx hy
                  constructor
                  all_goals simp only [List.mem_cons, List.not_mem_nil, or_false, not_or, ne_eq, true_or]
                  all_goals (try constructor)
                  all_goals (show ¬ (_ : Nat) = (_ : Nat); omega)
                exact key _ _ _ lt1 lt2
              refine ⟨_, [s1.heap.objs.size + 4, s1.heap.objs.size + 2, s1.heap.objs.size + 3, s1.heap.objs.size, s1.heap.objs.size + 1], _, _, H1, rfl, I2, turn_zipM D, ⟨hz, hT, ⟨_, _, hO⟩, ⟨_, hi1, rfl, rfl⟩, ⟨_, hi2, rfl, rfl⟩⟩, fun c hc => fr c ?_, q3⟩
              simp only [List.mem_cons, List.not_mem_nil, or_false] at hc
              rcases hc with h | h | h | h | h
              all_goals (rw [h]; first | exact Nat.le_refl _ | exact Nat.le_add_right _ _)
end
end Qm
namespace Qm
open PySem PySem.Spec PyProof.Rows L2
def notIsBD (x y : D) : M D := fun S => match x, y with
  | .bl a, .bl b => some (.ok (.bl (!decide (a = b))) S)
  | x, y => notIsD x y S
section
variable {X : Cx} {E : XK}
theorem op_notIsBD : OpD X E (compareOp .IsNot) notIsBD := .mk fun pins s sg W S x y vx vy v u Q I hS q1 q2 r1 r2 g => by
  unfold notIsBD at g
  split at g
  · cases q1; cases q2
    exact op_isnot_bl pins s sg W.H _ _ v u Q I r1 r2 ⟨_, _, rfl, rfl, g _ W (.refl W) hS (.bl _)⟩
  · obtain ⟨r, hr, k⟩ := op_notIsD (X := X) (E := E)
    exact hr pins s sg W.H vx vy v u Q I r1 r2 (k W S _ _ vx vy Q hS q1 q2 g)
end
section
variable {PD : D → Sto → Prop} {P : Src → Sto → Prop} {E : Value → Sto → Prop} {S : Sto} {dl : En}
theorem g_nibBB {a b : Bool} : good (notIsBD (.bl a) (.bl b) S) PD E = PD (.bl (!decide (a = b))) S := (rfl)
theorem g_ZipM {n : AX} : good (mZipM n dl S) P E = good (n dl S) (fun ds S1 => good (zipMK ds S1) P E) E := by unfold mZipM; rw [g_bind]
theorem g_zipMT {xs ys : List D} : good (zipMK [.tup xs, .tup ys] S) P E = P ⟨pairF (valsF xs) (valsF ys), min xs.length ys.length⟩ S := (rfl)
theorem g_zipMR {xs ys : List D} {m : Nat} (h : lstAt S m = some ys) : good (zipMK [.tup xs, .ref m] S) P E = P ⟨zipMF xs m, min xs.length ys.length⟩ S := by
  show good ((lstAt S m).bind fun ys => some (.ok (Src.mk (zipMF xs m) (min xs.length ys.length)) S)) P E = _
  rw [h]; rfl
end
end Qm

namespace Tx
open PySem PySem.Spec PyProof.Rows L2 Qm
abbrev v_MOST_FRESH : D := .int 999
@[irreducible] def m__law_cell_at : Fn := mFn 2
  (sSeq (sIf (mT (mOp ltD (mV 1) (mCall lenD (mCons (mV 0) mNil)))) (sRet (mOp ixD (mV 0) (mV 1))) sDone)
    (sRet (mC (.int 0))))
@[irreducible] def m__law_draw : Fn := mFn 4
  (sSeq (sIf (mT (mOp gtD (mOp ixD (mV 0) (mC (.int 0))) (mC (.int 0)))) (sSeq (sAsg (mOp modD (mOp ixD (mV 0) (mC (.int 0))) (mV 1)) (gN 3))
    (sSeq (sAsg (mOp fdivD (mOp ixD (mV 0) (mC (.int 0))) (mV 1)) (gSubD (mV 0) (mC (.int 0))))
    (sRet (mV 3)))) sDone)
    (sSeq (sAsg (mOp addD (mOp ixD (mV 0) (mC (.int 2))) (mC (.int 1))) (gSubD (mV 0) (mC (.int 2))))
    (sSeq (sAsg (mOp modD (mOp mulD (mOp addD (mOp ixD (mV 0) (mC (.int 1))) (mOp mulD (mC (.int 17)) (mOp ixD (mV 0) (mC (.int 2))))) (mOp addD (mC (.int 69621)) (mOp mulD (mC (.int 2)) (mOp ixD (mV 0) (mC (.int 2)))))) (mC (.int 2147483647))) (gN 2))
    (sSeq (sAsg (mOp modD (mOp addD (mOp addD (mOp mulD (mV 2) (mV 2)) (mOp mulD (mC (.int 40503)) (mOp ixD (mV 0) (mC (.int 2))))) (mC (.int 5))) (mC (.int 2147483629))) (gN 2))
    (sRet (mOp modD (mOp fdivD (mOp modD (mOp mulD (mV 2) (mC (.int 48271))) (mC (.int 2147483647))) (mC (.int 32))) (mV 1)))))))
@[irreducible] def m__law_odds : Fn := mFn 1
  (sSeq (sAsg (mLst (mCons (mC .non) (mCons (mC (.bl true)) (mCons (mC (.bl false)) (mCons (mC (.int 0)) (mCons (mC (.int 1)) (mCons (mUn negD (mC (.int 1))) (mCons (mC (.int 2)) (mCons (mC (.int 3)) (mCons (mC (.int 4)) (mCons (mC (.int 5)) (mCons (mC (.int 6)) (mCons (mOp powD (mC (.int 10)) (mC (.int 11))) (mCons (mUn negD (mOp powD (mC (.int 10)) (mC (.int 11)))) (mCons (mC (.str "")) (mCons (mC (.str "oldest")) (mCons (mC (.str "newest")) (mCons (mC (.str "Oldest")) mNil)))))))))))))))))) (gN 0))
    (sSeq (sAsg (mOp addD (mV 0) (mLst (mCons (mC (.str "yes")) (mCons (mC (.str "2")) (mCons (mTup mNil) (mCons (mLst mNil) (mCons mDic0 (mCons (mTup (mCons (mC (.int 1)) mNil)) (mCons (mTup (mCons (mC (.int 1)) (mCons (mC (.int 1)) mNil))) (mCons (mTup (mCons (mC (.int 3)) (mCons (mC (.int 3)) mNil))) (mCons (mTup (mCons (mC (.int 0)) (mCons (mC (.int 1)) mNil))) (mCons (mTup (mCons (mC (.int 1)) (mCons (mC (.int 0)) mNil))) (mCons (mTup (mCons (mC (.int 4)) (mCons (mC (.int 1)) mNil))) (mCons (mTup (mCons (mC (.int 1)) (mCons (mC (.int 4)) mNil))) (mCons (mTup (mCons (mC (.int 1)) (mCons (mC (.int 1)) (mCons (mC (.int 1)) mNil)))) mNil))))))))))))))) (gN 0))
    (sSeq (sAsg (mOp addD (mV 0) (mLst (mCons (mLst (mCons (mC (.int 1)) (mCons (mC (.int 1)) mNil))) (mCons (mTup (mCons (mC (.bl true)) (mCons (mC (.int 1)) mNil))) (mCons (mTup (mCons (mC (.int 1)) (mCons (mC (.bl true)) mNil))) (mCons (mTup (mCons (mC .non) (mCons (mC (.int 1)) mNil))) (mCons (mTup (mCons (mC (.str "1")) (mCons (mC (.int 1)) mNil))) (mCons (mTup (mCons (mTup (mCons (mC (.int 1)) (mCons (mC (.int 1)) mNil))) mNil)) (mCons (mLst (mCons (mTup (mCons (mC (.int 1)) (mCons (mC (.int 1)) mNil))) mNil)) (mCons (mDic1 (mC (.int 1)) (mC (.int 1))) mNil)))))))))) (gN 0))
    (sRet (mOp addD (mV 0) (mLst (mCons (mTup (mCons (mC (.int 0)) mNil)) (mCons (mTup (mCons (mTup mNil) mNil)) (mCons (mTup (mCons (mTup (mCons (mC (.int 0)) mNil)) mNil)) mNil)))))))))
@[irreducible] def m__law_pen : Fn := mFn 1
  (sRet (mLst (mCons (mCall max2D (mCons (mC (.int 0)) (mCons (mOp subD (mV 0) (mOp powD (mC (.int 10)) (mC (.int 18)))) mNil))) (mCons (mOp modD (mV 0) (mC (.int 1000000007))) (mCons (mC (.int 0)) mNil)))))
@[irreducible] def m__law_pick : Fn := mFn 2
  (sRet (mOp ixD (mV 1) (mCall m__law_draw (mCons (mV 0) (mCons (mCall lenD (mCons (mV 1) mNil)) mNil)))))
@[irreducible] def m__law_same : Fn := mFn 2
  (sRet (mOp eqD (mCall reprD (mCons (mV 0) mNil)) (mCall reprD (mCons (mV 1) mNil))))
@[irreducible] def m__law_whole : Fn := mFn 3
  (sRet (mAnd (mCall isiD (mCons (mV 0) (mCons (mC (.ty "int")) mNil))) (mAnd (mUn notD (mCall isiD (mCons (mV 0) (mCons (mC (.ty "bool")) mNil)))) (mChain leD leD (mV 1) (mV 0) (mV 2)))))
@[irreducible] def m_is_number : Fn := mFn 1
  (sRet (mAnd (mCall isiD (mCons (mV 0) (mCons (mC (.ty "int")) mNil))) (mUn notD (mCall isiD (mCons (mV 0) (mCons (mC (.ty "bool")) mNil))))))
@[irreducible] def m_is_within : Fn := mFn 3
  (sRet (mAnd (mCall m_is_number (mCons (mV 0) mNil)) (mChain leD leD (mV 1) (mV 0) (mV 2))))
@[irreducible] def m_are_within : Fn := mFn 4
  (sRet (mAnd (mCall isiD (mCons (mV 0) (mCons (mC (.ty "tuple")) mNil))) (mCall allD (mCons (mLc (mSrc (mV 0)) (gN 3) tAll (mCall m_is_within (mCons (mV 3) (mCons (mV 1) (mCons (mV 2) mNil)))) [3]) mNil))))
@[irreducible] def m_is_row : Fn := mFn 1
  (sRet (mCall m_are_within (mCons (mV 0) (mCons (mC (.int 0)) (mCons (mC v_MOST_FRESH) mNil)))))
@[irreducible] def m__law_right : Fn := mFn 4
  (sSeq (sAsg (mCall reprD (mCons (mV 0) mNil)) (gN 1))
    (sSeq (sAsg (mAnd (mCall isiD (mCons (mV 0) (mCons (mC (.ty "tuple")) mNil))) (mOp eqD (mLc (mSrc (mV 0)) (gN 3) (mNotT (mT (mCall m__law_whole (mCons (mV 3) (mCons (mC (.int 0)) (mCons (mC (.int 999)) mNil)))))) (mC (.int 1)) [3]) (mLst mNil))) (gN 2))
    (sRet (mAnd (mCall m__law_same (mCons (mLst (mCons (mCall m_is_row (mCons (mV 0) mNil)) (mCons (mCall m_is_row (mCons (mV 0) mNil)) mNil))) (mCons (mLst (mCons (mV 2) (mCons (mV 2) mNil))) mNil))) (mOp eqD (mCall reprD (mCons (mV 0) mNil)) (mV 1))))))
@[irreducible] def m__law_row_of : Fn := mFn 4
  (sRet (mCall tupleD (mCons (mLc (mRng1 (mCons (mCall m__law_draw (mCons (mV 0) (mCons (mOp addD (mV 1) (mC (.int 1))) mNil))) mNil)) (gN 3) tAll (mCall m__law_draw (mCons (mV 0) (mCons (mOp addD (mV 2) (mC (.int 1))) mNil))) [3]) mNil)))
@[irreducible] def m_law : Fn := mFn 9
  (sSeq (sFor (mSrc (mOp addD (mCall m__law_odds mNil) (mLst (mCons (mOp mulD (mTup (mCons (mC (.int 0)) mNil)) (mC (.int 200))) (mCons (mOp mulD (mTup (mCons (mC (.int 999)) mNil)) (mC (.int 201))) (mCons (mOp mulD (mTup (mCons (mC (.int 0)) mNil)) (mC (.int 3000))) (mCons (mTup (mCons (mC (.int 1000)) mNil)) (mCons (mTup (mCons (mC (.int 0)) (mCons (mUn negD (mC (.int 1))) mNil))) (mCons (mC (.str "0")) (mCons (mTup (mCons (mC (.int 0)) (mCons (mC .non) mNil))) (mCons (mTup (mCons (mTup (mCons (mC (.int 0)) mNil)) (mCons (mC (.int 0)) mNil))) mNil))))))))))) (gN 1) (sIf (mNotT (mT (mCall m__law_right (mCons (mV 1) mNil)))) (sRet (mC (.bl false))) sDone))
    (sSeq (sFor (mRng1 (mCons (mCall max2D (mCons (mC (.int 1)) (mCons (mCall min2D (mCons (mCall lenD (mCons (mV 0) mNil)) (mCons (mC (.int 3)) mNil))) mNil))) mNil)) (gN 2) (sSeq (sAsg (mCall m__law_pen (mCons (mCall m__law_cell_at (mCons (mV 0) (mCons (mV 2) mNil))) mNil)) (gN 3))
    (sFor (mRng1 (mCons (mC (.int 4)) mNil)) (gN 4) (sSeq (sAsg (mCall m__law_row_of (mCons (mV 3) (mCons (mC (.int 12)) (mCons (mCall m__law_pick (mCons (mV 3) (mCons (mLst (mCons (mC (.int 1)) (mCons (mC (.int 9)) (mCons (mC (.int 999)) mNil)))) mNil))) mNil)))) (gN 5))
    (sSeq (sAsg (mCall m__law_draw (mCons (mV 3) (mCons (mOp addD (mCall lenD (mCons (mV 5) mNil)) (mC (.int 1))) mNil))) (gN 6))
    (sSeq (sAsg (mLst (mCons (mV 5) (mCons (mCall listD (mCons (mV 5) mNil)) (mCons (mTup (mCons (mV 5) mNil)) (mCons (mOp addD (mV 5) (mTup (mCons (mC (.int 1000)) mNil))) (mCons (mOp addD (mTup (mCons (mUn negD (mC (.int 1))) mNil)) (mV 5)) (mCons (mOp mulD (mV 5) (mC (.int 40))) mNil))))))) (gN 7))
    (sSeq (sAsg (mOp addD (mV 7) (mLc (mSrc (mOp addD (mCall m__law_odds mNil) (mLst (mCons (mC (.int 999)) (mCons (mC (.int 1000)) (mCons (mUn negD (mC (.int 1))) (mCons (mC (.str "1")) mNil))))))) (gN 8) tAll (mOp addD (mOp addD (mSl slD (mV 5) mOn (mOs (mV 6))) (mTup (mCons (mV 8) mNil))) (mSl slD (mV 5) (mOs (mV 6)) mOn)) [8])) (gN 7))
    (sIf (mT (mOp neD (mLc (mSrc (mV 7)) (gN 1) (mNotT (mT (mCall m__law_right (mCons (mV 1) mNil)))) (mC (.int 1)) [1]) (mLst mNil))) (sRet (mC (.bl false))) sDone))))))))
    (sRet (mC (.bl true)))))
end Tx

namespace Tx
open PySem PySem.Spec PyProof.Rows L2 Qm
local macro_rules | `(tactic| walk_at "go") => `(tactic| simp only [↓g_Fn, ↓g_Seq, ↓g_Ret, ↓g_sIf, ↓g_Asg, ↓g_Expr, ↓g_Done, ↓g_fnK_rt, ↓g_fnK_nx, ↓g_seqK_nx, ↓g_seqK_rt, ↓g_seqK_ct, ↓g_seqK_bk, ↓g_loopK_nx, ↓g_loopK_ct, ↓g_loopK_bk, ↓g_loopK_rt, ↓g_gN, ↓g_gSub, ↓g_gsNil, ↓g_gsCons, ↓g_C, ↓g_Op, ↓g_Un, ↓g_Nil, ↓g_Cons, ↓g_Tup, ↓g_Lst, ↓g_Call, ↓g_Dic0, ↓g_And, ↓g_Or, ↓g_andK, ↓g_orK, ↓g_not, ↓g_If, ↓g_T, ↓g_testK, ↓g_NotT, ↓g_AndT, ↓g_OrT, ↓g_All, ↓g_addI, ↓g_subI, ↓g_lt, ↓g_le, ↓g_gt, ↓g_ge, ↓g_neg, ↓g_Chain, ↓g_chainK, ↓g_ok, ↓g_none, ↓g_lenT, ↓g_lenF, ↓g_max, ↓g_min, ↓g_eqS, ↓g_Src, ↓g_srcT, ↓g_Rng1, ↓g_For, ↓g_Lc, ↓g_bind, ↓g_pure, ↓g_newL, entry, mV, List.length_cons, List.length_nil, List.map_cons, List.map_nil, List.cons_append, List.nil_append, List.replicate_succ, List.replicate_zero, List.getElem?_cons_zero, List.getElem?_cons_succ, List.set_cons_zero, List.set_cons_succ, Nat.reduceSub, Nat.reduceAdd])
local macro_rules | `(tactic| walk_at "goa") => `(tactic| simp (disch := omega) only [↓g_mulL, ↓g_mod, ↓g_fdiv, ↓g_rng1, ↓g_Fn, ↓g_Seq, ↓g_Ret, ↓g_sIf, ↓g_Asg, ↓g_Expr, ↓g_Done, ↓g_fnK_rt, ↓g_fnK_nx, ↓g_seqK_nx, ↓g_seqK_rt, ↓g_seqK_ct, ↓g_seqK_bk, ↓g_loopK_nx, ↓g_loopK_ct, ↓g_loopK_bk, ↓g_loopK_rt, ↓g_gN, ↓g_gSub, ↓g_gsNil, ↓g_gsCons, ↓g_C, ↓g_Op, ↓g_Un, ↓g_Nil, ↓g_Cons, ↓g_Tup, ↓g_Lst, ↓g_Call, ↓g_Dic0, ↓g_And, ↓g_Or, ↓g_andK, ↓g_orK, ↓g_not, ↓g_If, ↓g_T, ↓g_testK, ↓g_NotT, ↓g_AndT, ↓g_OrT, ↓g_All, ↓g_addI, ↓g_subI, ↓g_lt, ↓g_le, ↓g_gt, ↓g_ge, ↓g_neg, ↓g_Chain, ↓g_chainK, ↓g_ok, ↓g_none, ↓g_lenT, ↓g_lenF, ↓g_max, ↓g_min, ↓g_eqS, ↓g_Src, ↓g_srcT, ↓g_Rng1, ↓g_For, ↓g_Lc, ↓g_bind, ↓g_pure, ↓g_newL, entry, mV, List.length_cons, List.length_nil, List.map_cons, List.map_nil, List.cons_append, List.nil_append, List.replicate_succ, List.replicate_zero, List.getElem?_cons_zero, List.getElem?_cons_succ, List.set_cons_zero, List.set_cons_succ, Nat.reduceSub, Nat.reduceAdd])
theorem whole_eq {d : D} {lo hi : Int} {S : Sto} {t : String} (h : tyD d S = some t) (ht : tyList.contains t = true) : m__law_whole [d, .int lo, .int hi] S = some (.ok (.bl (wh lo hi d)) S) := by
  obtain ⟨h1, h2, _⟩ := isi_all ht
  apply eq_of
  unfold m__law_whole
  walk_at "go"
  simp only [isi_eq h h1]
  walk_at "go"
  refine ⟨fun e => ?_, fun e => ?_⟩
  · simp only [isi_eq h h2]
    walk_at "go"
    by_cases hb : t = "bool"
    · subst hb
      refine ⟨fun e => by simp at e, fun _ => ?_⟩
      rw [wh_ty h (by decide)]
      exact ⟨rfl, trivial⟩
    · have hi : t = "int" := by simpa [hb] using e
      subst hi
      obtain ⟨i, rfl⟩ := ty_int h
      walk_at "go"
      refine ⟨fun _ => ?_, fun e => by simp at e⟩
      refine ⟨fun e => ?_, fun e => ?_⟩
      · simp [wh, e]
      · simp [wh, e]
  · rw [wh_ty h (by rintro rfl; simp at e)]
    exact ⟨rfl, trivial⟩
theorem draw_ok {S : Sto} {p B : Nat} {k : Int} {PD : D → Sto → Prop} (hp : PenOk S p (B + 1)) (hk : 1 ≤ k) (hk2 : k < 1073741824) (go : ∀ (r : Int) (S' : Sto), 0 ≤ r → r < k → PenOk S' p B → But p S S' → PD (.int r) S') : good (m__law_draw [.ref p, .int k] S) PD No := by
  obtain ⟨a, s, t, hl, ha, hs, hs2, ht, hB⟩ := hp
  have i0 : atI [D.int a, .int s, .int t] 0 = some (.int a) := at0
  have i1 : atI [D.int a, .int s, .int t] 1 = some (.int s) := at1
  have i2 : atI [D.int a, .int s, .int t] 2 = some (.int t) := at2
  unfold m__law_draw
  try walk_at "goa"
  simp only [g_ix hl i0]
  try walk_at "goa"
  refine ⟨fun e => ?_, fun e => ?_⟩
  · simp only [g_ix hl i0]
    try walk_at "goa"
    try walk_at "goa"
    try walk_at "goa"
    simp only [g_ix hl i0]
    try walk_at "goa"
    try walk_at "goa"
    try walk_at "goa"
    simp only [g_set (j := 0) hl (show ixN 3 0 = some 0 by decide)]
    have h0 : 0 ≤ a / k := Int.ediv_nonneg ha (by omega)
    refine go _ _ (Int.emod_nonneg _ (by omega)) (Int.emod_lt_of_pos _ (by omega)) ⟨a / k, s, t, lstAt_set hl, h0, hs, hs2, ht, by omega⟩ (But.set _ _ _)
  · simp only [g_ix hl i2]
    try walk_at "goa"
    simp only [g_set (j := 2) hl (show ixN 3 2 = some 2 by decide)]
    have hl2 : lstAt (S.set p (.lst [D.int a, .int s, .int (t + 1)])) p = some [D.int a, .int s, .int (t + 1)] := lstAt_set hl
    have j1 : atI [D.int a, .int s, .int (t + 1)] 1 = some (.int s) := at1
    have j2 : atI [D.int a, .int s, .int (t + 1)] 2 = some (.int (t + 1)) := at2
    simp only [List.set_cons_succ, List.set_cons_zero]
    simp only [g_ix hl2 j1]
    simp only [g_ix hl2 j2]
    try walk_at "goa"
    try walk_at "goa"
    simp only [g_ix hl2 j2]
    try walk_at "goa"
    try walk_at "goa"
    try walk_at "goa"
    try walk_at "goa"
    try walk_at "goa"
    generalize hx : (s + 17 * (t + 1)) * (69621 + 2 * (t + 1)) % 2147483647 = x
    have hx0 : 0 ≤ x := by rw [← hx]; exact Int.emod_nonneg _ (by omega)
    have hx1 : x < 2147483647 := by rw [← hx]; exact Int.emod_lt_of_pos _ (by omega)
    try walk_at "goa"
    simp only [g_ix hl2 j2]
    try walk_at "goa"
    try walk_at "goa"
    try walk_at "goa"
    try walk_at "goa"
    generalize hy : (x * x + 40503 * (t + 1) + 5) % 2147483629 = y
    have hy0 : 0 ≤ y := by rw [← hy]; exact Int.emod_nonneg _ (by omega)
    have hy1 : y < 2147483629 := by rw [← hy]; exact Int.emod_lt_of_pos _ (by omega)
    try walk_at "goa"
    try walk_at "goa"
    try walk_at "goa"
    try walk_at "goa"
    exact go _ _ (Int.emod_nonneg _ (by omega)) (Int.emod_lt_of_pos _ (by omega)) ⟨a, s, t + 1, hl2, ha, hs, hs2, by omega, by omega⟩ (But.set _ _ _)
theorem pen_ok {S : Sto} {c : Int} {PD : D → Sto → Prop} (go : ∀ S', S' = S ++ S'.drop S.length → S'.length = S.length + 1 → PenOk S' S.length 100000000000 → PD (.ref S.length) S') : good (m__law_pen [.int c] S) PD No := by
  unfold m__law_pen
  walk_at "go"
  simp only [g_pow (i := 10) (j := 18) (by decide)]
  walk_at "go"
  walk_at "goa"
  have h : ∀ l : List D, (S ++ [O.lst l]) = S ++ (S ++ [O.lst l]).drop S.length := fun l => by simp
  refine go _ (h _) (by simp) ⟨(if c - 10 ^ Int.toNat 18 > 0 then c - 10 ^ Int.toNat 18 else 0), c % 1000000007, 0, lstAt_last, ?_, ?_, ?_, Int.le_refl _, by omega⟩
  · split <;> omega
  · exact Int.emod_nonneg _ (by omega)
  · exact Int.emod_lt_of_pos _ (by omega)
theorem cell_ok {S : Sto} {ns : List Int} {k : Int} {PD : D → Sto → Prop} (hk : 0 ≤ k) (go : ∀ c : Int, PD (.int c) S) : good (m__law_cell_at [.fro (ns.map .int), .int k] S) PD No := by
  unfold m__law_cell_at
  walk_at "go"
  refine ⟨fun e => ?_, fun _ => go 0⟩
  have e := of_decide_eq_true e
  simp only [List.length_map] at e
  have hlt : k.toNat < ns.length := by omega
  have hi : atI (ns.map D.int) k = some (.int ns[k.toNat]) := at_nat hk (by rw [List.getElem?_map, List.getElem?_eq_getElem hlt]; rfl)
  simp only [g_ixF hi]
  exact go _
end Tx

namespace Tx
open PySem PySem.Spec PyProof.Rows L2 Qm
local macro_rules | `(tactic| walk_at "go") => `(tactic| simp only [↓g_Fn, ↓g_Seq, ↓g_Ret, ↓g_sIf, ↓g_Asg, ↓g_Expr, ↓g_Done, ↓g_fnK_rt, ↓g_fnK_nx, ↓g_seqK_nx, ↓g_seqK_rt, ↓g_seqK_ct, ↓g_seqK_bk, ↓g_loopK_nx, ↓g_loopK_ct, ↓g_loopK_bk, ↓g_loopK_rt, ↓g_gN, ↓g_gSub, ↓g_gsNil, ↓g_gsCons, ↓g_C, ↓g_Op, ↓g_Un, ↓g_Nil, ↓g_Cons, ↓g_Tup, ↓g_Lst, ↓g_Call, ↓g_Dic0, ↓g_And, ↓g_Or, ↓g_andK, ↓g_orK, ↓g_not, ↓g_If, ↓g_T, ↓g_testK, ↓g_NotT, ↓g_AndT, ↓g_OrT, ↓g_All, ↓g_addI, ↓g_subI, ↓g_lt, ↓g_le, ↓g_gt, ↓g_ge, ↓g_neg, ↓g_Chain, ↓g_chainK, ↓g_ok, ↓g_none, ↓g_lenT, ↓g_lenF, ↓g_max, ↓g_min, ↓g_eqS, ↓g_Src, ↓g_srcT, ↓g_Rng1, ↓g_For, ↓g_Lc, ↓g_bind, ↓g_pure, ↓g_newL, entry, mV, List.length_cons, List.length_nil, List.map_cons, List.map_nil, List.cons_append, List.nil_append, List.replicate_succ, List.replicate_zero, List.getElem?_cons_zero, List.getElem?_cons_succ, List.set_cons_zero, List.set_cons_succ, Nat.reduceSub, Nat.reduceAdd])
local macro_rules | `(tactic| walk_at "goa") => `(tactic| simp (disch := omega) only [↓g_mulL, ↓g_mod, ↓g_fdiv, ↓g_rng1, ↓g_Fn, ↓g_Seq, ↓g_Ret, ↓g_sIf, ↓g_Asg, ↓g_Expr, ↓g_Done, ↓g_fnK_rt, ↓g_fnK_nx, ↓g_seqK_nx, ↓g_seqK_rt, ↓g_seqK_ct, ↓g_seqK_bk, ↓g_loopK_nx, ↓g_loopK_ct, ↓g_loopK_bk, ↓g_loopK_rt, ↓g_gN, ↓g_gSub, ↓g_gsNil, ↓g_gsCons, ↓g_C, ↓g_Op, ↓g_Un, ↓g_Nil, ↓g_Cons, ↓g_Tup, ↓g_Lst, ↓g_Call, ↓g_Dic0, ↓g_And, ↓g_Or, ↓g_andK, ↓g_orK, ↓g_not, ↓g_If, ↓g_T, ↓g_testK, ↓g_NotT, ↓g_AndT, ↓g_OrT, ↓g_All, ↓g_addI, ↓g_subI, ↓g_lt, ↓g_le, ↓g_gt, ↓g_ge, ↓g_neg, ↓g_Chain, ↓g_chainK, ↓g_ok, ↓g_none, ↓g_lenT, ↓g_lenF, ↓g_max, ↓g_min, ↓g_eqS, ↓g_Src, ↓g_srcT, ↓g_Rng1, ↓g_For, ↓g_Lc, ↓g_bind, ↓g_pure, ↓g_newL, entry, mV, List.length_cons, List.length_nil, List.map_cons, List.map_nil, List.cons_append, List.nil_append, List.replicate_succ, List.replicate_zero, List.getElem?_cons_zero, List.getElem?_cons_succ, List.set_cons_zero, List.set_cons_succ, Nat.reduceSub, Nat.reduceAdd])
theorem is_number_eq {d : D} {S : Sto} {t : String} (h : tyD d S = some t) (ht : tyList.contains t = true) : m_is_number [d] S = some (.ok (.bl (decide (t = "int"))) S) := by
  obtain ⟨h1, h2, _⟩ := isi_all ht
  apply eq_of
  unfold m_is_number
  try walk_at "go"
  simp only [isi_eq h h1]
  try walk_at "go"
  refine ⟨fun e => ?_, fun e => ?_⟩
  · simp only [isi_eq h h2]
    try walk_at "go"
    by_cases hb : t = "bool"
    · subst hb; exact ⟨rfl, trivial⟩
    · have hi : t = "int" := by simpa [hb] using e
      subst hi; exact ⟨rfl, trivial⟩
  · have hn : t ≠ "int" := by rintro rfl; simp at e
    simp [hn]
theorem is_within_eq {d : D} {lo hi : Int} {S : Sto} {t : String} (h : tyD d S = some t) (ht : tyList.contains t = true) : m_is_within [d, .int lo, .int hi] S = some (.ok (.bl (wh lo hi d)) S) := by
  apply eq_of
  unfold m_is_within
  try walk_at "go"
  simp only [is_number_eq h ht]
  try walk_at "go"
  refine ⟨fun e => ?_, fun e => ?_⟩
  · have hi : t = "int" := of_decide_eq_true e
    subst hi
    obtain ⟨i, rfl⟩ := ty_int h
    try walk_at "go"
    refine ⟨fun e => ?_, fun e => ?_⟩
    · simp [wh, e]
    · simp [wh, e]
  · rw [wh_ty h (of_decide_eq_false e)]
    exact ⟨rfl, trivial⟩
theorem toP_ints {S : Sto} {k : Nat} : ∀ is : List Int, allO (toP (k + 1) S) (is.map D.int) = some (is.map PyData.int)
  | [] => rfl
  | i :: is => by
    rw [List.map_cons, List.map_cons]
    unfold allO
    rw [toP_ints is]
    rfl
theorem toP_lst {S : Sto} {k n : Nat} {ds : List D} (h : lstAt S n = some ds) : toP (k + 1) S (.ref n) = (allO (toP k S) ds).map .list := by
  unfold lstAt at h
  simp only [toP]
  split at h
  · rename_i e
    cases h
    rw [e]
  · cases h
theorem canLay_ints : ∀ is : List Int, PyData.canLayAll0 (is.map PyData.int) = true
  | [] => rfl
  | i :: is => by
    rw [List.map_cons]
    simp only [PyData.canLayAll0, PyData.canLay0, canLay_ints is, Bool.and_self]
theorem eqvAll_ints : ∀ is js : List Int, PyData.eqvAll (is.map PyData.int) (js.map PyData.int) = decide (is = js)
  | [], [] => by simp [PyData.eqvAll]
  | [], _ :: _ => by simp [PyData.eqvAll]
  | _ :: _, [] => by simp [PyData.eqvAll]
  | i :: is, j :: js => by
    simp only [List.map_cons, PyData.eqvAll, PyData.eqv, eqvAll_ints is js]
    by_cases h : i = j
    · subst h; simp
    · simp [h]
theorem eqB_ints {S : Sto} {n m : Nat} {is js : List Int} (h1 : lstAt S n = some (is.map D.int)) (h2 : lstAt S m = some (js.map D.int)) : eqB (.ref n) (.ref m) S = some (decide (is = js)) := by
  show eqP (.ref n) (.ref m) S = _
  unfold eqP
  rw [toP_lst h1, toP_lst h2, toP_ints, toP_ints]
  show (if (PyData.list (is.map PyData.int)).canLay0 = true ∧ (PyData.list (js.map PyData.int)).canLay0 = true then some (PyData.eqv (.list (is.map PyData.int)) (.list (js.map PyData.int))) else none) = _
  rw [if_pos ⟨by simp only [PyData.canLay0, canLay_ints], by simp only [PyData.canLay0, canLay_ints]⟩]
  simp only [PyData.eqv, eqvAll_ints]
theorem eq_ints {S : Sto} {n m : Nat} {is js : List Int} {PD : D → Sto → Prop} {E : Value → Sto → Prop} (h1 : lstAt S n = some (is.map D.int)) (h2 : lstAt S m = some (js.map D.int)) : good (eqD (.ref n) (.ref m) S) PD E = PD (.bl (decide (is = js))) S := by
  unfold eqD
  rw [eqB_ints h1 h2]
  rfl
theorem ne_ints {S : Sto} {n m : Nat} {is js : List Int} {PD : D → Sto → Prop} {E : Value → Sto → Prop} (h1 : lstAt S n = some (is.map D.int)) (h2 : lstAt S m = some (js.map D.int)) : good (neD (.ref n) (.ref m) S) PD E = PD (.bl (!decide (is = js))) S := by
  unfold neD
  rw [eqB_ints h1 h2]
  rfl
theorem rok_bb {S : Sto} {n : Nat} {b : Bool} (h : lstAt S n = some [.bl b, .bl b]) : Rok S (.ref n) (.list [.bool b, .bool b]) 2 := by
  refine ⟨?_, ?_, ?_⟩
  · rw [toP_lst h]; rfl
  · cases b
    · exact ⟨by decide +kernel, by decide +kernel, by decide +kernel⟩
    · exact ⟨by decide +kernel, by decide +kernel, by decide +kernel⟩
  · cases b <;> decide +kernel
theorem same_ok {S : Sto} {x y : D} {t : Str} {PD : D → Sto → Prop} (h1 : reprO S x = some t) (h2 : reprO S y = some t) (go : PD (.bl true) S) : good (m__law_same [x, y] S) PD No := by
  unfold m__law_same
  try walk_at "go"
  simp only [g_repr h1]
  try walk_at "go"
  simp only [g_repr h2]
  try walk_at "go"
  simpa using go
/-- every item is data -/
def Items (S : Sto) (ds : List D) : Prop := ∀ d ∈ ds, ∃ p, toP 63 S d = some p
theorem items_of {S : Sto} {ds : List D} {p : PyData} (h : toP 64 S (.tup ds) = some p) : Items S ds := by
  intro d hd
  have h2 : (allO (toP 63 S) ds).map PyData.tuple = some p := h
  cases e : allO (toP 63 S) ds with
  | none => rw [e] at h2; cases h2
  | some ps =>
    clear h h2
    induction ds generalizing ps with
    | nil => cases hd
    | cons x r ih =>
      obtain ⟨z, zs, h1, h2, rfl⟩ := allO_cons e
      rcases List.mem_cons.mp hd with rfl | hd
      · exact ⟨z, h1⟩
      · exact ih hd zs h2
/-- what is_row and the law's own look say -/
def isRow (d : D) : Bool := match d with
  | .tup ds => ds.all (wh 0 999)
  | _ => false
theorem blD_map (f : D → Bool) : ∀ ds : List D, allO blD (ds.map fun d => D.bl (f d)) = some (ds.map f)
  | [] => rfl
  | d :: ds => by
    rw [List.map_cons, List.map_cons]
    unfold allO
    rw [blD_map f ds]
    rfl
theorem all_ok {S : Sto} {n : Nat} {bs : List Bool} {ds : List D} {PD : D → Sto → Prop} {E : Value → Sto → Prop} (h : lstAt S n = some ds) (hb : allO blD ds = some bs) : good (allD [.ref n] S) PD E = PD (.bl (bs.all id)) S := by
  show good (((lstAt S n).bind (allO blD)).bind _) PD E = _
  rw [h]
  show good ((allO blD ds).bind _) PD E = _
  rw [hb]; rfl
theorem lstAt_mid {S G : Sto} {ds : List D} : lstAt (S ++ .lst ds :: G) S.length = some ds := by
  unfold lstAt
  rw [List.getElem?_append_right (Nat.le_refl _), Nat.sub_self]
  rfl
theorem are_ok {d : D} {S : Sto} {p : PyData} {PD : D → Sto → Prop} (h : toP 64 S d = some p) (hz : ∀ ds, d = .tup ds → ds.length ≤ sizeLine) (go : ∀ G, PD (.bl (isRow d)) (S ++ G)) : good (m_are_within [d, .int 0, .int 999] S) PD No := by
  obtain ⟨t, h1, ht⟩ := tyD_of h
  obtain ⟨_, _, h2, _⟩ := isi_all ht
  unfold m_are_within
  try walk_at "go"
  simp only [isi_eq h1 h2]
  try walk_at "go"
  refine ⟨fun e => ?_, fun e => ?_⟩
  · have hi : t = "tuple" := of_decide_eq_true e
    subst hi
    obtain ⟨ds, rfl⟩ := ty_tuple h1
    have it := items_of h
    try walk_at "go"
    refine compL_pure (F := fun d => some (.bl (wh 0 999 d))) (fun i G => rfl) (fun d hd G => ?_) (hz ds rfl) (fun G => ?_)
    · obtain ⟨q, hq⟩ := it d hd
      obtain ⟨t, k1, k2⟩ := tyD_of (toP_app (G := G) 63 d q hq)
      refine ⟨[], ?_⟩
      rw [List.append_nil]
      refine eq_of ?_
      unfold compT
      try walk_at "go"
      simp only [wipeD, List.set_cons_succ, List.set_cons_zero]
      try walk_at "go"
      simp only [is_within_eq k1 k2]
      try walk_at "go"
      first | exact ⟨rfl, trivial⟩ | simp
    · have e1 : ds.filterMap (fun d => some (D.bl (wh 0 999 d))) = ds.map fun d => D.bl (wh 0 999 d) := by
        induction ds with
        | nil => rfl
        | cons x r ih => simp
      rw [e1]
      simp only [all_ok lstAt_mid (blD_map _ ds)]
      have e2 : (ds.map (wh 0 999)).all id = isRow (.tup ds) := by
        simp [isRow, List.all_map]
      rw [e2]
      exact go _
  · have hn : t ≠ "tuple" := of_decide_eq_false e
    have e2 : isRow d = false := by
      cases d <;> first | rfl | skip
      cases h1
      exact absurd rfl hn
    have := go []
    rw [List.append_nil, e2] at this
    exact this
theorem is_row_ok {d : D} {S : Sto} {p : PyData} {PD : D → Sto → Prop} (h : toP 64 S d = some p) (hz : ∀ ds, d = .tup ds → ds.length ≤ sizeLine) (go : ∀ G, PD (.bl (isRow d)) (S ++ G)) : good (m_is_row [d] S) PD No := by
  unfold m_is_row
  try walk_at "go"
  exact are_ok h hz go
theorem ones_eq {ds : List D} : ds.filterMap (fun d => if wh 0 999 d = true then none else some (D.int 1)) = ((ds.filter fun d => !wh 0 999 d).map fun _ => (1 : Int)).map D.int := by
  induction ds with
  | nil => rfl
  | cons x r ih =>
    rw [List.filterMap_cons, List.filter_cons]
    cases h : wh 0 999 x
    · simp [ih]
    · simp [ih]
theorem ones_nil {ds : List D} : decide (((ds.filter fun d => !wh 0 999 d).map fun _ => (1 : Int)) = []) = ds.all (wh 0 999) := by
  induction ds with
  | nil => rfl
  | cons x r ih =>
    rw [List.filter_cons, List.all_cons]
    cases h : wh 0 999 x
    · simp
    · simpa using ih
theorem right_ok {d : D} {S : Sto} {p : PyData} {n : Nat} {PD : D → Sto → Prop} (h : Rok S d p n) (hn : n ≤ 100000) (hz : ∀ ds, d = .tup ds → ds.length ≤ sizeLine) (go : ∀ G, PD (.bl true) (S ++ G)) : good (m__law_right [d] S) PD No := by
  obtain ⟨t, h1, ht⟩ := tyD_of h.to
  obtain ⟨_, _, h2, _⟩ := isi_all ht
  have due : ∀ (Q : D → Sto → Prop), (∀ G, Q (.bl (isRow d)) (S ++ G)) → good (mAnd (mCall isiD (mCons (mV 0) (mCons (mC (.ty "tuple")) mNil))) (mOp eqD (mLc (mSrc (mV 0)) (gN 3) (mNotT (mT (mCall m__law_whole (mCons (mV 3) (mCons (mC (.int 0)) (mCons (mC (.int 999)) mNil)))))) (mC (.int 1)) [3]) (mLst mNil)) [some d, some (.str p.shown), none, none] S) Q No := by
    intro Q hQ
    try walk_at "go"
    simp only [isi_eq h1 h2]
    try walk_at "go"
    refine ⟨fun e => ?_, fun e => ?_⟩
    · have hi : t = "tuple" := of_decide_eq_true e
      subst hi
      obtain ⟨ds, rfl⟩ := ty_tuple h1
      have it := items_of h.to
      try walk_at "go"
      refine compL_pure (F := fun d => if wh 0 999 d = true then none else some (D.int 1)) (fun i G => rfl) (fun d hd G => ?_) (hz ds rfl) (fun G => ?_)
      · obtain ⟨q, hq⟩ := it d hd
        obtain ⟨t, k1, k2⟩ := tyD_of (toP_app (G := G) 63 d q hq)
        refine ⟨[], ?_⟩
        rw [List.append_nil]
        refine eq_of ?_
        unfold compT
        try walk_at "go"
        simp only [wipeD, List.set_cons_succ, List.set_cons_zero]
        try walk_at "go"
        simp only [whole_eq k1 k2]
        try walk_at "go"
        cases hw : wh 0 999 d <;> simp [g_bind, g_pure, mC, g_ok, M.bind, M.pure, good]
      · rw [ones_eq]
        have e0 : lstAt (S ++ (O.lst (((ds.filter fun d => !wh 0 999 d).map fun _ => (1 : Int)).map D.int) :: G) ++ [O.lst []]) (S ++ (O.lst (((ds.filter fun d => !wh 0 999 d).map fun _ => (1 : Int)).map D.int) :: G)).length = some (([] : List Int).map D.int) := lstAt_last
        simp only [eq_ints (lstAt_app lstAt_mid) e0]
        rw [ones_nil]
        have := hQ (O.lst (((ds.filter fun d => !wh 0 999 d).map fun _ => (1 : Int)).map D.int) :: G ++ [O.lst []])
        rw [← List.append_assoc] at this
        exact this
    · have hn : t ≠ "tuple" := of_decide_eq_false e
      have e2 : isRow d = false := by
        cases d <;> first | rfl | skip
        cases h1
        exact absurd rfl hn
      have := hQ []
      rw [List.append_nil, e2] at this
      exact this
  unfold m__law_right
  simp only [↓g_Fn, ↓g_Seq, ↓g_Asg, ↓g_Call, ↓g_Cons, ↓g_Nil, entry, List.length_cons, List.length_nil, List.map_cons, List.map_nil, List.cons_append, List.nil_append, List.replicate_succ, List.replicate_zero, Nat.reduceSub, Nat.reduceAdd, mV, List.getElem?_cons_zero, ↓g_ok, g_repr (h.repr hn), ↓g_gN, ↓g_seqK_nx, List.set_cons_succ, List.set_cons_zero]
  refine due _ fun G => ?_
  try walk_at "go"
  refine is_row_ok (toP_app _ _ _ h.to) hz fun G2 => ?_
  refine is_row_ok (toP_app _ _ _ (toP_app _ _ _ h.to)) hz fun G3 => ?_
  try walk_at "go"
  have b1 : lstAt (S ++ G ++ G2 ++ G3 ++ [O.lst [.bl (isRow d), .bl (isRow d)]] ++ [O.lst [.bl (isRow d), .bl (isRow d)]]) (S ++ G ++ G2 ++ G3).length = some [.bl (isRow d), .bl (isRow d)] := lstAt_app lstAt_last
  have b2 : lstAt (S ++ G ++ G2 ++ G3 ++ [O.lst [.bl (isRow d), .bl (isRow d)]] ++ [O.lst [.bl (isRow d), .bl (isRow d)]]) (S ++ G ++ G2 ++ G3 ++ [O.lst [.bl (isRow d), .bl (isRow d)]]).length = some [.bl (isRow d), .bl (isRow d)] := lstAt_last
  refine same_ok ((rok_bb b1).repr (by decide)) ((rok_bb b2).repr (by decide)) ?_
  try walk_at "go"
  refine ⟨fun _ => ?_, fun e => by cases e⟩
  have hr : reprO (S ++ G ++ G2 ++ G3 ++ [O.lst [.bl (isRow d), .bl (isRow d)]] ++ [O.lst [.bl (isRow d), .bl (isRow d)]]) d = some p.shown := reprO_app (reprO_app (reprO_app (reprO_app (reprO_app (h.repr hn)))))
  simp only [g_repr hr]
  try walk_at "go"
  have := go (G ++ G2 ++ G3 ++ [O.lst [.bl (isRow d), .bl (isRow d)]] ++ [O.lst [.bl (isRow d), .bl (isRow d)]])
  simpa using this
end Tx

namespace Tx
open PySem PySem.Spec PyProof.Rows L2 Qm
local macro_rules | `(tactic| walk_at "go") => `(tactic| simp only [↓g_Fn, ↓g_Seq, ↓g_Ret, ↓g_sIf, ↓g_Asg, ↓g_Expr, ↓g_Done, ↓g_fnK_rt, ↓g_fnK_nx, ↓g_seqK_nx, ↓g_seqK_rt, ↓g_seqK_ct, ↓g_seqK_bk, ↓g_loopK_nx, ↓g_loopK_ct, ↓g_loopK_bk, ↓g_loopK_rt, ↓g_gN, ↓g_gSub, ↓g_gsNil, ↓g_gsCons, ↓g_C, ↓g_Op, ↓g_Un, ↓g_Nil, ↓g_Cons, ↓g_Tup, ↓g_Lst, ↓g_Call, ↓g_Dic0, ↓g_And, ↓g_Or, ↓g_andK, ↓g_orK, ↓g_not, ↓g_If, ↓g_T, ↓g_testK, ↓g_NotT, ↓g_AndT, ↓g_OrT, ↓g_All, ↓g_addI, ↓g_subI, ↓g_lt, ↓g_le, ↓g_gt, ↓g_ge, ↓g_neg, ↓g_Chain, ↓g_chainK, ↓g_ok, ↓g_none, ↓g_lenT, ↓g_lenF, ↓g_max, ↓g_min, ↓g_eqS, ↓g_Src, ↓g_srcT, ↓g_Rng1, ↓g_For, ↓g_Lc, ↓g_bind, ↓g_pure, ↓g_newL, entry, mV, List.length_cons, List.length_nil, List.map_cons, List.map_nil, List.cons_append, List.nil_append, List.replicate_succ, List.replicate_zero, List.getElem?_cons_zero, List.getElem?_cons_succ, List.set_cons_zero, List.set_cons_succ, Nat.reduceSub, Nat.reduceAdd])
local macro_rules | `(tactic| walk_at "goa") => `(tactic| simp (disch := omega) only [↓g_mulL, ↓g_mod, ↓g_fdiv, ↓g_rng1, ↓g_Fn, ↓g_Seq, ↓g_Ret, ↓g_sIf, ↓g_Asg, ↓g_Expr, ↓g_Done, ↓g_fnK_rt, ↓g_fnK_nx, ↓g_seqK_nx, ↓g_seqK_rt, ↓g_seqK_ct, ↓g_seqK_bk, ↓g_loopK_nx, ↓g_loopK_ct, ↓g_loopK_bk, ↓g_loopK_rt, ↓g_gN, ↓g_gSub, ↓g_gsNil, ↓g_gsCons, ↓g_C, ↓g_Op, ↓g_Un, ↓g_Nil, ↓g_Cons, ↓g_Tup, ↓g_Lst, ↓g_Call, ↓g_Dic0, ↓g_And, ↓g_Or, ↓g_andK, ↓g_orK, ↓g_not, ↓g_If, ↓g_T, ↓g_testK, ↓g_NotT, ↓g_AndT, ↓g_OrT, ↓g_All, ↓g_addI, ↓g_subI, ↓g_lt, ↓g_le, ↓g_gt, ↓g_ge, ↓g_neg, ↓g_Chain, ↓g_chainK, ↓g_ok, ↓g_none, ↓g_lenT, ↓g_lenF, ↓g_max, ↓g_min, ↓g_eqS, ↓g_Src, ↓g_srcT, ↓g_Rng1, ↓g_For, ↓g_Lc, ↓g_bind, ↓g_pure, ↓g_newL, entry, mV, List.length_cons, List.length_nil, List.map_cons, List.map_nil, List.cons_append, List.nil_append, List.replicate_succ, List.replicate_zero, List.getElem?_cons_zero, List.getElem?_cons_succ, List.set_cons_zero, List.set_cons_succ, Nat.reduceSub, Nat.reduceAdd])
theorem g_Dic1 {k : Int} {d : D} {dl : En} {S : Sto} {PD : D → Sto → Prop} {E : Value → Sto → Prop} : good (mDic1 (mC (.int k)) (mC d) dl S) PD E = PD (.ref S.length) (S ++ [.dic [(.inl k, d)]]) := by
  have e : mDic1 (mC (.int k)) (mC d) dl S = (match keyD (.int k), (S ++ [O.dic []])[S.length]? with
    | some k, some (.dic []) => some (.ok (.ref S.length) ((S ++ [O.dic []]).set S.length (.dic [(k, d)])))
    | _, _ => none) := rfl
  rw [e, List.getElem?_append_right (Nat.le_refl _), Nat.sub_self]
  show PD (.ref S.length) ((S ++ [O.dic []]).set S.length (.dic [(.inl k, d)])) = _
  rw [List.set_append_right _ _ (Nat.le_refl _), Nat.sub_self]
  rfl
theorem lstAt_off {S l : Sto} {k : Nat} : lstAt (S ++ l) (S.length + k) = lstAt l k := by
  unfold lstAt
  rw [List.getElem?_append_right (Nat.le_add_right _ _), Nat.add_sub_cancel_left]
theorem lstAt_off0 {S l : Sto} : lstAt (S ++ l) S.length = lstAt l 0 := lstAt_off (k := 0)
theorem lstAt_z {ds : List D} {l : Sto} : lstAt (.lst ds :: l) 0 = some ds := rfl
theorem lstAt_s {o : O} {l : Sto} {k : Nat} : lstAt (o :: l) (k + 1) = lstAt l k := by
  unfold lstAt
  rw [List.getElem?_cons_succ]
theorem addL_def {n m : Nat} {S : Sto} {PD : D → Sto → Prop} {E : Value → Sto → Prop} : good (addD (.ref n) (.ref m) S) PD E = good ((lstAt S n).bind fun a => (lstAt S m).bind fun b => if a.length + b.length ≤ 16777216 then newL (a ++ b) S else none) PD E := by
  show good (match lstAt S n, lstAt S m with | some a, some b => if a.length + b.length ≤ sizeLine then newL (a ++ b) S else none | _, _ => none) PD E = _
  rw [sizeLine_eq]
  cases lstAt S n <;> cases lstAt S m <;> rfl
theorem if_t {α : Type} {c : Prop} [Decidable c] {a b : α} (h : c) : (if c then a else b) = a := if_pos h
local macro_rules | `(tactic| walk_at "st") => `(tactic| simp (disch := omega) only [↓g_addL, ↓g_Dic1, addL_def, lstAt_off, lstAt_off0, lstAt_z, lstAt_s, Option.bind_some, if_t, ↓g_newL, List.append_assoc, List.cons_append, List.nil_append, List.append_nil, List.length_append, List.length_cons, List.length_nil, Nat.zero_add, Nat.add_assoc, Nat.reduceAdd, ↓g_ok])
def oddsL (N : Nat) : List D := [.non, .bl true, .bl false, .int 0, .int 1, .int (-1), .int 2, .int 3, .int 4, .int 5, .int 6, .int (10 ^ Int.toNat 11), .int (-10 ^ Int.toNat 11), .str "", .str "oldest", .str "newest", .str "Oldest",
  .str "yes", .str "2", .tup [], .ref (N + 1), .ref (N + 2), .tup [.int 1], .tup [.int 1, .int 1], .tup [.int 3, .int 3], .tup [.int 0, .int 1], .tup [.int 1, .int 0], .tup [.int 4, .int 1], .tup [.int 1, .int 4], .tup [.int 1, .int 1, .int 1],
  .ref (N + 5), .tup [.bl true, .int 1], .tup [.int 1, .bl true], .tup [.non, .int 1], .tup [.str "1", .int 1], .tup [.tup [.int 1, .int 1]], .ref (N + 6), .ref (N + 7), .tup [.int 0], .tup [.tup []], .tup [.tup [.int 0]]]
theorem toP_up {S : Sto} : ∀ (k : Nat) (d : D) (p : PyData), toP k S d = some p → toP (k + 1) S d = some p
  | 0, _, _, h => by cases h
  | k + 1, d, p, h => by
    have all : ∀ {ds : List D} {ps : List PyData}, allO (toP k S) ds = some ps → allO (toP (k + 1) S) ds = some ps := fun h => allO_mono (fun x _ y e => toP_up k x y e) h
    have one : ∀ {ds : List D} {p : PyData} {f : List PyData → PyData}, (allO (toP k S) ds).map f = some p → (allO (toP (k + 1) S) ds).map f = some p := fun {ds p f} h => by
      cases e : allO (toP k S) ds with
      | none => rw [e] at h; cases h
      | some ps => rw [all e]; rw [e] at h; exact h
    cases d with
    | tup ds => exact one h
    | fro ds => exact one h
    | ref n =>
      unfold toP at h ⊢
      dsimp only at h ⊢
      split at h
      · exact one h
      · exact one h
      · cases h
    | _ => exact h
theorem toP_le {S : Sto} {k m : Nat} {d : D} {p : PyData} (h : toP k S d = some p) (e : k ≤ m) : toP m S d = some p := by
  obtain ⟨j, rfl⟩ := Nat.exists_eq_add_of_le e
  induction j with
  | zero => exact h
  | succ j ih => exact toP_up _ _ _ (ih (Nat.le_add_right _ _))
/-- a value that the law may ask of, k deep -/
structure RokD (k : Nat) (S : Sto) (d : D) : Prop where
  data : ∃ p, toP k S d = some p ∧ Sm p (20000 + 1000 * k) ∧ dictOk p = true
  len : ∀ ds, d = .tup ds → ds.length ≤ sizeLine
theorem RokD.app {k : Nat} {S G : Sto} {d : D} (h : RokD k S d) : RokD k (S ++ G) d := by
  obtain ⟨⟨p, h, h2⟩, hz⟩ := h
  exact ⟨⟨p, toP_app _ _ _ h, h2⟩, hz⟩
theorem RokD.le {k m : Nat} {S : Sto} {d : D} (h : RokD k S d) (e : k ≤ m) : RokD m S d := by
  obtain ⟨⟨p, h, h2⟩, hz⟩ := h
  exact ⟨⟨p, toP_le h e, h2.1.le (by omega), h2.2⟩, hz⟩
theorem rightD {k : Nat} {d : D} {S : Sto} (h : RokD k S d) (hk : k ≤ 64) : ∃ G, m__law_right [d] S = some (.ok (.bl true) (S ++ G)) := by
  obtain ⟨⟨p, h, h2, h3⟩, hz⟩ := h
  have k : good (m__law_right [d] S) (fun v S' => v = .bl true ∧ ∃ G, S' = S ++ G) No := right_ok (n := 84000) ⟨toP_le h hk, h2.le (by omega), h3⟩ (by decide) hz fun G => ⟨rfl, G, rfl⟩
  match q : m__law_right [d] S, k with
  | some (.ok a S'), k => obtain ⟨rfl, G, rfl⟩ := k; exact ⟨G, rfl⟩
  | some (.ex c S'), k => exact k.elim
  | none, k => exact k.elim
def okC (d : D) : Bool := (match toP 7 [] d with
  | some p => p.showable && p.leavesShort 40 && Nat.ble p.bulk 200 && dictOk p
  | none => false) && (match d with
  | .tup ds => Nat.ble ds.length 200
  | _ => true)
theorem okC_ok {d : D} {S : Sto} (h : okC d = true) : RokD 7 S d := by
  unfold okC at h
  rw [Bool.and_eq_true] at h
  obtain ⟨h, hz⟩ := h
  refine RokD.app (S := []) ⟨?_, fun ds e => ?_⟩
  · split at h
    · rename_i p e
      simp only [Bool.and_eq_true] at h
      exact ⟨p, e, ⟨h.1.1.1, h.1.1.2, Nat.le_trans (Nat.le_of_ble_eq_true h.1.2) (by decide)⟩, h.2⟩
    · cases h
  · subst e
    exact Nat.le_trans (Nat.le_of_ble_eq_true hz) (by rw [sizeLine_eq]; decide)
theorem rok_lst {S : Sto} {n : Nat} {ds : List D} {p : PyData} (h : lstAt S n = some ds) (e : (allO (toP 6 S) ds).map PyData.list = some p) (hp : (p.showable && p.leavesShort 40 && Nat.ble p.bulk 200 && dictOk p) = true) : RokD 7 S (.ref n) := by
  refine ⟨⟨p, ?_, ?_, ?_⟩, fun ds e => by cases e⟩
  · rw [toP_lst h]; exact e
  · simp only [Bool.and_eq_true] at hp
    exact ⟨hp.1.1.1, hp.1.1.2, Nat.le_trans (Nat.le_of_ble_eq_true hp.1.2) (by decide)⟩
  · simp only [Bool.and_eq_true] at hp
    exact hp.2
theorem toP_dic {S : Sto} {k n : Nat} {kvs : List ((Int ⊕ Str) × D)} (h : S[n]? = some (.dic kvs)) : toP (k + 1) S (.ref n) = (allO (toP k S) (kvs.map (·.2))).map fun vs => .dict ((kvs.map fun kv => keyP kv.1).zip vs) := by
  simp only [toP, h]
theorem rok_dic {S : Sto} {n : Nat} (h : S[n]? = some (.dic [])) : RokD 7 S (.ref n) := by
  refine ⟨⟨.dict [], ?_, ⟨by decide +kernel, by decide +kernel, by decide +kernel⟩, by decide +kernel⟩, fun ds e => by cases e⟩
  rw [toP_dic h]
  rfl
theorem rok_dic1 {S : Sto} {n : Nat} (h : S[n]? = some (.dic [(.inl 1, .int 1)])) : RokD 7 S (.ref n) := by
  refine ⟨⟨.dict [(.int 1, .int 1)], ?_, ⟨by decide +kernel, by decide +kernel, by decide +kernel⟩, by decide +kernel⟩, fun ds e => by cases e⟩
  rw [toP_dic h]
  rfl
theorem odds_in {N : Nat} {d : D} (h : d ∈ oddsL N) : okC d = true ∨ d = .ref (N + 1) ∨ d = .ref (N + 2) ∨ d = .ref (N + 5) ∨ d = .ref (N + 6) ∨ d = .ref (N + 7) := by
  simp only [oddsL, List.mem_cons, List.not_mem_nil, or_false] at h
  rcases h with rfl | rfl | rfl | rfl | rfl | rfl | rfl | rfl | rfl | rfl | rfl | rfl | rfl | rfl | rfl | rfl | rfl | rfl | rfl | rfl | rfl | rfl | rfl | rfl | rfl | rfl | rfl | rfl | rfl | rfl | rfl | rfl | rfl | rfl | rfl | rfl | rfl | rfl | rfl | rfl | rfl
  all_goals first | exact .inl (by decide +kernel) | (simp; done)
theorem get_off {S l : Sto} {k : Nat} : (S ++ l)[S.length + k]? = l[k]? := by
  rw [List.getElem?_append_right (Nat.le_add_right _ _), Nat.add_sub_cancel_left]
theorem odds_ok {S : Sto} {PD : D → Sto → Prop} (go : ∀ G, G.length = 12 → lstAt (S ++ G) (S.length + 11) = some (oddsL S.length) → (∀ d ∈ oddsL S.length, RokD 7 (S ++ G) d) → PD (.ref (S.length + 11)) (S ++ G)) : good (m__law_odds [] S) PD No := by
  unfold m__law_odds
  walk_at "go"
  simp only [g_pow (i := 10) (j := 11) (by decide)]
  walk_at "go"
  walk_at "st"
  refine go _ rfl (by rw [lstAt_off]; rfl) fun d hd => ?_
  rcases odds_in hd with h | rfl | rfl | rfl | rfl | rfl
  · exact okC_ok h
  · exact rok_lst (ds := []) (p := .list []) (by rw [lstAt_off]; rfl) rfl (by decide +kernel)
  · exact rok_dic (by rw [get_off]; rfl)
  · exact rok_lst (ds := [.int 1, .int 1]) (p := .list [.int 1, .int 1]) (by rw [lstAt_off]; rfl) rfl (by decide +kernel)
  · exact rok_lst (ds := [.tup [.int 1, .int 1]]) (p := .list [.tuple [.int 1, .int 1]]) (by rw [lstAt_off]; rfl) rfl (by decide +kernel)
  · exact rok_dic1 (by rw [get_off]; rfl)
end Tx

namespace Tx
open PySem PySem.Spec PyProof.Rows L2 Qm
local macro_rules | `(tactic| walk_at "go") => `(tactic| simp only [↓g_Fn, ↓g_Seq, ↓g_Ret, ↓g_sIf, ↓g_Asg, ↓g_Expr, ↓g_Done, ↓g_fnK_rt, ↓g_fnK_nx, ↓g_seqK_nx, ↓g_seqK_rt, ↓g_seqK_ct, ↓g_seqK_bk, ↓g_loopK_nx, ↓g_loopK_ct, ↓g_loopK_bk, ↓g_loopK_rt, ↓g_gN, ↓g_gSub, ↓g_gsNil, ↓g_gsCons, ↓g_C, ↓g_Op, ↓g_Un, ↓g_Nil, ↓g_Cons, ↓g_Tup, ↓g_Lst, ↓g_Call, ↓g_Dic0, ↓g_And, ↓g_Or, ↓g_andK, ↓g_orK, ↓g_not, ↓g_If, ↓g_T, ↓g_testK, ↓g_NotT, ↓g_AndT, ↓g_OrT, ↓g_All, ↓g_addI, ↓g_subI, ↓g_lt, ↓g_le, ↓g_gt, ↓g_ge, ↓g_neg, ↓g_Chain, ↓g_chainK, ↓g_ok, ↓g_none, ↓g_lenT, ↓g_lenF, ↓g_max, ↓g_min, ↓g_eqS, ↓g_Src, ↓g_srcT, ↓g_Rng1, ↓g_For, ↓g_Lc, ↓g_bind, ↓g_pure, ↓g_newL, entry, mV, List.length_cons, List.length_nil, List.map_cons, List.map_nil, List.cons_append, List.nil_append, List.replicate_succ, List.replicate_zero, List.getElem?_cons_zero, List.getElem?_cons_succ, List.set_cons_zero, List.set_cons_succ, Nat.reduceSub, Nat.reduceAdd])
local macro_rules | `(tactic| walk_at "goa") => `(tactic| simp (disch := omega) only [↓g_mulL, ↓g_mod, ↓g_fdiv, ↓g_rng1, ↓g_Fn, ↓g_Seq, ↓g_Ret, ↓g_sIf, ↓g_Asg, ↓g_Expr, ↓g_Done, ↓g_fnK_rt, ↓g_fnK_nx, ↓g_seqK_nx, ↓g_seqK_rt, ↓g_seqK_ct, ↓g_seqK_bk, ↓g_loopK_nx, ↓g_loopK_ct, ↓g_loopK_bk, ↓g_loopK_rt, ↓g_gN, ↓g_gSub, ↓g_gsNil, ↓g_gsCons, ↓g_C, ↓g_Op, ↓g_Un, ↓g_Nil, ↓g_Cons, ↓g_Tup, ↓g_Lst, ↓g_Call, ↓g_Dic0, ↓g_And, ↓g_Or, ↓g_andK, ↓g_orK, ↓g_not, ↓g_If, ↓g_T, ↓g_testK, ↓g_NotT, ↓g_AndT, ↓g_OrT, ↓g_All, ↓g_addI, ↓g_subI, ↓g_lt, ↓g_le, ↓g_gt, ↓g_ge, ↓g_neg, ↓g_Chain, ↓g_chainK, ↓g_ok, ↓g_none, ↓g_lenT, ↓g_lenF, ↓g_max, ↓g_min, ↓g_eqS, ↓g_Src, ↓g_srcT, ↓g_Rng1, ↓g_For, ↓g_Lc, ↓g_bind, ↓g_pure, ↓g_newL, entry, mV, List.length_cons, List.length_nil, List.map_cons, List.map_nil, List.cons_append, List.nil_append, List.replicate_succ, List.replicate_zero, List.getElem?_cons_zero, List.getElem?_cons_succ, List.set_cons_zero, List.set_cons_succ, Nat.reduceSub, Nat.reduceAdd])
local macro_rules | `(tactic| walk_at "st") => `(tactic| simp (disch := omega) only [↓g_addL, ↓g_Dic1, addL_def, lstAt_off, lstAt_off0, lstAt_z, lstAt_s, Option.bind_some, if_t, ↓g_newL, List.append_assoc, List.cons_append, List.nil_append, List.append_nil, List.length_append, List.length_cons, List.length_nil, Nat.zero_add, Nat.add_assoc, Nat.reduceAdd, ↓g_ok])
theorem rok_ints {S : Sto} {is : List Int} (h : ∀ i ∈ is, -999999999999 ≤ i ∧ i ≤ 999999999999) (hl : is.length ≤ 20000) : RokD 2 S (.tup (is.map .int)) := by
  refine ⟨⟨.tuple (is.map .int), ?_, Sm.le (Sm.tup (SmAll.ints h)) (by omega), ?_⟩, fun ds e => ?_⟩
  · show (allO (toP 1 S) (is.map D.int)).map PyData.tuple = _
    rw [toP_ints]; rfl
  · simp [dictOk, PyData.hasDict, (plainAll_ints is).1]
  · cases e
    rw [sizeLine_eq, List.length_map]
    omega
theorem rok_listL {S : Sto} {n : Nat} {is : List Int} (e : lstAt S n = some (is.map .int)) (h : ∀ i ∈ is, -999999999999 ≤ i ∧ i ≤ 999999999999) (hl : is.length ≤ 20000) : RokD 2 S (.ref n) := by
  refine ⟨⟨.list (is.map .int), ?_, Sm.le (Sm.lst (SmAll.ints h)) (by omega), ?_⟩, fun ds e => by cases e⟩
  · rw [toP_lst e, toP_ints]; rfl
  · simp [dictOk, PyData.hasDict, (plainAll_ints is).1]
theorem rok_one {S : Sto} {is : List Int} (h : ∀ i ∈ is, -999999999999 ≤ i ∧ i ≤ 999999999999) (hl : is.length ≤ 10000) : RokD 3 S (.tup [.tup (is.map .int)]) := by
  refine ⟨⟨.tuple [.tuple (is.map .int)], ?_, Sm.le (Sm.tup (SmAll.cons (Sm.tup (SmAll.ints h)) SmAll.nil)) (by omega), ?_⟩, fun ds e => ?_⟩
  · show (allO (toP 2 S) [.tup (is.map D.int)]).map PyData.tuple = _
    have : toP 2 S (.tup (is.map D.int)) = some (.tuple (is.map .int)) := by
      show (allO (toP 1 S) (is.map D.int)).map PyData.tuple = _
      rw [toP_ints]; rfl
    simp only [allO, this]
    rfl
  · simp [dictOk, PyData.hasDict, PyData.hasDictAll, (plainAll_ints is).1]
  · cases e
    rw [sizeLine_eq]
    simp
theorem allO_app {α β : Type} {f : α → Option β} {xs ys : List α} {as bs : List β} (h1 : allO f xs = some as) (h2 : allO f ys = some bs) : allO f (xs ++ ys) = some (as ++ bs) := by
  induction xs generalizing as with
  | nil => cases h1; exact h2
  | cons x r ih =>
    obtain ⟨z, zs, e1, e2, rfl⟩ := allO_cons h1
    simp only [List.cons_append, allO, e1, ih e2]
theorem rok_put {S : Sto} {d : D} {is js : List Int} (hd : RokD 7 S d) (h1 : ∀ i ∈ is, 0 ≤ i ∧ i ≤ 999) (h2 : ∀ i ∈ js, 0 ≤ i ∧ i ≤ 999) (l1 : is.length ≤ 100) (l2 : js.length ≤ 100) : ∃ p, toP 8 S (.tup (is.map .int ++ [d] ++ js.map .int)) = some p ∧ Sm p (20000 + 1000 * 8) ∧ dictOk p = true := by
  obtain ⟨⟨p, h, hs, hp⟩, _⟩ := hd
  have a1 : SmAll (is.map PyData.int) is.length := SmAll.ints fun i hi => by have := h1 i hi; omega
  have a2 : SmAll (js.map PyData.int) js.length := SmAll.ints fun i hi => by have := h2 i hi; omega
  refine ⟨.tuple (is.map .int ++ [p] ++ js.map .int), ?_, Sm.le (Sm.tup ((a1.append (SmAll.cons hs .nil)).append a2)) (by omega), ?_⟩
  · show (allO (toP 7 S) (is.map D.int ++ [d] ++ js.map D.int)).map PyData.tuple = _
    have : allO (toP 7 S) [d] = some [p] := by simp only [allO, h]
    rw [allO_app (allO_app (toP_ints (k := 6) is) this) (toP_ints (k := 6) js)]
    rfl
  · unfold dictOk at hp ⊢
    simp only [PyData.hasDict, noList, hasDictAll_app, noListAll_app, (plainAll_ints is).1, (plainAll_ints is).2, (plainAll_ints js).1, (plainAll_ints js).2, PyData.hasDictAll, noListAll, Bool.or_false, Bool.false_or, Bool.and_true, Bool.true_and]
    exact hp
theorem cut_ints (is : List Int) (lo hi : Option Int) : ∃ js : List Int, Qm.cutD (is.map .int) lo hi = js.map .int ∧ (∀ j ∈ js, j ∈ is) ∧ js.length ≤ is.length := by
  refine ⟨(is.drop (HT.sIx (is.map D.int).length 0 lo)).take (HT.sIx (is.map D.int).length (is.map D.int).length hi - HT.sIx (is.map D.int).length 0 lo), ?_, ?_, ?_⟩
  · unfold Qm.cutD
    rw [List.map_take, List.map_drop]
  · intro j hj
    exact List.mem_of_mem_drop (List.mem_of_mem_take hj)
  · rw [List.length_take, List.length_drop]
    omega
theorem pen_set {S : Sto} {p n B : Nat} {o : O} (h : PenOk S p B) (hn : n ≠ p) : PenOk (S.set n o) p B := by
  obtain ⟨a, s, t, hl, r⟩ := h
  refine ⟨a, s, t, ?_, r⟩
  unfold lstAt at hl ⊢
  rw [List.getElem?_set_ne hn]
  exact hl
theorem pen_app {S G : Sto} {p B : Nat} (h : PenOk S p B) : PenOk (S ++ G) p B := by
  obtain ⟨a, s, t, hl, r⟩ := h
  exact ⟨a, s, t, lstAt_app hl, r⟩
theorem pen_le {S : Sto} {p B C : Nat} (h : PenOk S p B) (e : C ≤ B) : PenOk S p C := by
  obtain ⟨a, s, t, hl, h1, h2, h3, h4, h5⟩ := h
  exact ⟨a, s, t, hl, h1, h2, h3, h4, by omega⟩
theorem pen_lt {S : Sto} {p B : Nat} (h : PenOk S p B) : p < S.length := by
  obtain ⟨a, s, t, hl, r⟩ := h
  unfold lstAt at hl
  split at hl
  · rename_i e
    exact (List.getElem?_eq_some_iff.mp e).1
  · cases hl
theorem row_of_ok {S : Sto} {p B : Nat} {top : Int} {PD : D → Sto → Prop} (hp : PenOk S p (B + 20)) (htop : 0 ≤ top ∧ top ≤ 999) (go : ∀ (is : List Int) (S' : Sto), (∀ i ∈ is, 0 ≤ i ∧ i ≤ 999) → is.length ≤ 12 → PenOk S' p B → PD (.tup (is.map .int)) S') : good (m__law_row_of [.ref p, .int 12, .int top] S) PD No := by
  unfold m__law_row_of
  try walk_at "go"
  refine draw_ok (B := B + 19) hp (by omega) (by omega) fun n S1 n0 n1 hp1 b1 => ?_
  simp only [g_rng1 (show -(2 ^ 62) ≤ n ∧ n < 2 ^ 62 by omega)]
  refine compL_inv (full := intsD 0 n.toNat) (fun i acc S2 => i ≤ n.toNat ∧ PenOk S2 p (B + 19 - i) ∧ lstAt S2 S1.length = some acc ∧ ∃ is : List Int, acc = is.map .int ∧ is.length = i ∧ ∀ j ∈ is, 0 ≤ j ∧ j ≤ 999) (fun i acc S2 h => rangeF_eq) (fun i d acc S2 hd h => ?_) (fun acc S2 h => ?_) n.toNat 0 [] _ (by rw [intsD_len]; omega) ⟨Nat.zero_le _, pen_app hp1, lstAt_last, [], rfl, rfl, fun j hj => by cases hj⟩
  · obtain ⟨hi, hp2, hl, is, rfl, hlen, hb⟩ := h
    have hlt : i < n.toNat := by have := (List.getElem?_eq_some_iff.mp hd).1; rwa [intsD_len] at this
    unfold compT
    try walk_at "go"
    simp only [wipeD, List.set_cons_succ, List.set_cons_zero]
    try walk_at "go"
    obtain ⟨C, hC⟩ : ∃ C, B + 19 - i = C + 1 := ⟨B + 18 - i, by omega⟩
    rw [hC] at hp2
    refine draw_ok hp2 (by omega) (by omega) fun r S3 r0 r1 hp3 b3 => ?_
    try walk_at "go"
    have hne : S1.length ≠ p := Nat.ne_of_gt (pen_lt hp1)
    have hl3 := lstAt_but b3 hne hl
    refine ⟨hl3, by rw [sizeLine_eq, List.length_map]; omega, by omega, pen_set (pen_le hp3 (by omega)) hne, lstAt_set hl3, is ++ [r], by simp, by simp [hlen], fun j hj => ?_⟩
    rcases List.mem_append.mp hj with h | h
    · exact hb j h
    · rw [List.mem_singleton] at h; subst h; omega
  · obtain ⟨hi, hp2, hl, is, rfl, hlen, hb⟩ := h
    have e : tupleD [.ref S1.length] S2 = some (.ok (.tup (is.map .int)) S2) := by
      show (lstAt S2 S1.length).bind _ = _
      rw [hl]; rfl
    simp only [g_eq e]
    try walk_at "go"
    rw [intsD_len] at hlen
    exact go is S2 hb (by omega) (pen_le hp2 (by rw [intsD_len]; omega))
theorem pick_ok {S : Sto} {p q B : Nat} {PD : D → Sto → Prop} (hp : PenOk S p (B + 1)) (hq : q ≠ p) (hl : lstAt S q = some [.int 1, .int 9, .int 999]) (go : ∀ (t : Int) (S' : Sto), 0 ≤ t ∧ t ≤ 999 → PenOk S' p B → PD (.int t) S') : good (m__law_pick [.ref p, .ref q] S) PD No := by
  unfold m__law_pick
  try walk_at "go"
  simp only [g_lenL hl]
  try walk_at "go"
  refine draw_ok hp (by decide) (by decide) fun n S1 n0 n1 hp1 b1 => ?_
  have hl1 := lstAt_but b1 hq hl
  have hn : n = 0 ∨ n = 1 ∨ n = 2 := by simp at n1; omega
  rcases hn with rfl | rfl | rfl
  · simp only [g_ix hl1 at0]
    try walk_at "go"
    exact go _ _ (by decide) hp1
  · simp only [g_ix hl1 at1]
    try walk_at "go"
    exact go _ _ (by decide) hp1
  · simp only [g_ix hl1 at2]
    try walk_at "go"
    exact go _ _ (by decide) hp1
end Tx

namespace Tx
open PySem PySem.Spec PyProof.Rows L2 Qm
local macro_rules | `(tactic| walk_at "go") => `(tactic| simp only [↓g_Fn, ↓g_Seq, ↓g_Ret, ↓g_sIf, ↓g_Asg, ↓g_Expr, ↓g_Done, ↓g_fnK_rt, ↓g_fnK_nx, ↓g_seqK_nx, ↓g_seqK_rt, ↓g_seqK_ct, ↓g_seqK_bk, ↓g_loopK_nx, ↓g_loopK_ct, ↓g_loopK_bk, ↓g_loopK_rt, ↓g_gN, ↓g_gSub, ↓g_gsNil, ↓g_gsCons, ↓g_C, ↓g_Op, ↓g_Un, ↓g_Nil, ↓g_Cons, ↓g_Tup, ↓g_Lst, ↓g_Call, ↓g_Dic0, ↓g_And, ↓g_Or, ↓g_andK, ↓g_orK, ↓g_not, ↓g_If, ↓g_T, ↓g_testK, ↓g_NotT, ↓g_AndT, ↓g_OrT, ↓g_All, ↓g_addI, ↓g_subI, ↓g_lt, ↓g_le, ↓g_gt, ↓g_ge, ↓g_neg, ↓g_Chain, ↓g_chainK, ↓g_ok, ↓g_none, ↓g_lenT, ↓g_lenF, ↓g_max, ↓g_min, ↓g_eqS, ↓g_Src, ↓g_srcT, ↓g_Rng1, ↓g_For, ↓g_Lc, ↓g_bind, ↓g_pure, ↓g_newL, entry, mV, List.length_cons, List.length_nil, List.map_cons, List.map_nil, List.cons_append, List.nil_append, List.replicate_succ, List.replicate_zero, List.getElem?_cons_zero, List.getElem?_cons_succ, List.set_cons_zero, List.set_cons_succ, Nat.reduceSub, Nat.reduceAdd])
local macro_rules | `(tactic| walk_at "goa") => `(tactic| simp (disch := omega) only [↓g_mulL, ↓g_mod, ↓g_fdiv, ↓g_rng1, ↓g_Fn, ↓g_Seq, ↓g_Ret, ↓g_sIf, ↓g_Asg, ↓g_Expr, ↓g_Done, ↓g_fnK_rt, ↓g_fnK_nx, ↓g_seqK_nx, ↓g_seqK_rt, ↓g_seqK_ct, ↓g_seqK_bk, ↓g_loopK_nx, ↓g_loopK_ct, ↓g_loopK_bk, ↓g_loopK_rt, ↓g_gN, ↓g_gSub, ↓g_gsNil, ↓g_gsCons, ↓g_C, ↓g_Op, ↓g_Un, ↓g_Nil, ↓g_Cons, ↓g_Tup, ↓g_Lst, ↓g_Call, ↓g_Dic0, ↓g_And, ↓g_Or, ↓g_andK, ↓g_orK, ↓g_not, ↓g_If, ↓g_T, ↓g_testK, ↓g_NotT, ↓g_AndT, ↓g_OrT, ↓g_All, ↓g_addI, ↓g_subI, ↓g_lt, ↓g_le, ↓g_gt, ↓g_ge, ↓g_neg, ↓g_Chain, ↓g_chainK, ↓g_ok, ↓g_none, ↓g_lenT, ↓g_lenF, ↓g_max, ↓g_min, ↓g_eqS, ↓g_Src, ↓g_srcT, ↓g_Rng1, ↓g_For, ↓g_Lc, ↓g_bind, ↓g_pure, ↓g_newL, entry, mV, List.length_cons, List.length_nil, List.map_cons, List.map_nil, List.cons_append, List.nil_append, List.replicate_succ, List.replicate_zero, List.getElem?_cons_zero, List.getElem?_cons_succ, List.set_cons_zero, List.set_cons_succ, Nat.reduceSub, Nat.reduceAdd])
local macro_rules | `(tactic| walk_at "st") => `(tactic| simp (disch := omega) only [↓g_addL, ↓g_Dic1, addL_def, lstAt_off, lstAt_off0, lstAt_z, lstAt_s, Option.bind_some, if_t, ↓g_newL, List.append_assoc, List.cons_append, List.nil_append, List.append_nil, List.length_append, List.length_cons, List.length_nil, Nat.zero_add, Nat.add_assoc, Nat.reduceAdd, ↓g_ok])
section
variable {PD : D → Sto → Prop} {E : Value → Sto → Prop} {dl : En} {S : Sto}
theorem g_Sl {f : D → Option Int → Option Int → M D} {m : EX} {l h : OX} : good (mSl f m l h dl S) PD E = good (m dl S) (fun x S1 => good (l dl S1) (fun lo S2 => good (h dl S2) (fun hi S3 => good (f x lo hi S3) PD E) E) E) E := by
  unfold mSl; rw [g_bind]; simp only [g_bind]
theorem g_On {P : Option Int → Sto → Prop} : good (mOn dl S) P E = P none S := (rfl)
def osK (x : D) : M (Option Int) := match x with
  | .int i => M.pure (some i)
  | _ => M.fail
theorem g_Os {m : EX} {P : Option Int → Sto → Prop} : good (mOs m dl S) P E = good (m dl S) (fun x S1 => good (osK x S1) P E) E := by
  unfold mOs; rw [g_bind]; rfl
theorem g_osK {i : Int} {P : Option Int → Sto → Prop} : good (osK (.int i) S) P E = P (some i) S := (rfl)
theorem g_slT {ds : List D} {lo hi : Option Int} : good (slD (.tup ds) lo hi S) PD E = PD (.tup (Qm.cutD ds lo hi)) S := (rfl)
def rep (k i : Int) : List D := (List.replicate k.toNat i).map D.int
theorem g_mul1 {k i : Int} (h : -(2 ^ 63) ≤ k ∧ k < 2 ^ 63 ∧ k.toNat ≤ 16777216) : good (mulD (.tup [.int i]) (.int k) S) PD E = PD (.tup (rep k i)) S := by
  rw [g_mulT (by rw [sizeLine_eq]; simpa using h)]
  have e : (List.replicate k.toNat [D.int i]).flatten = rep k i := by
    unfold rep
    rw [List.map_replicate]
    generalize k.toNat = n
    induction n with
    | zero => rfl
    | succ n ih => rw [List.replicate_succ, List.flatten_cons, ih, List.replicate_succ]; rfl
  rw [e]
theorem g_listT {ds : List D} : good (listD [.tup ds] S) PD E = PD (.ref S.length) (S ++ [.lst ds]) := (rfl)
end
theorem rok_rep {S : Sto} {k i : Int} (h : -1000 ≤ i ∧ i ≤ 1000) (hk : k ≤ 20000) : RokD 8 S (.tup (rep k i)) := by
  refine RokD.le (k := 2) ?_ (by decide)
  unfold rep
  refine rok_ints (fun j hj => ?_) (by rw [List.length_replicate]; omega)
  have := (List.mem_replicate.mp hj).2
  subst this
  omega
def more (S : Sto) : List D := [.tup (rep 200 0), .tup (rep 201 999), .tup (rep 3000 0), .tup [.int 1000], .tup [.int 0, .int (-1)], .str "0", .tup [.int 0, .non], .tup [.tup [.int 0], .int 0]]
theorem more_ok {S : Sto} {d : D} (h : d ∈ more S) : RokD 8 S d := by
  simp only [more, List.mem_cons, List.not_mem_nil, or_false] at h
  rcases h with rfl | rfl | rfl | rfl | rfl | rfl | rfl | rfl
  · exact rok_rep (by decide) (by decide)
  · exact rok_rep (by decide) (by decide)
  · exact rok_rep (by decide) (by decide)
  all_goals exact (okC_ok (by decide +kernel)).le (by decide)
end Tx

namespace Tx
open PySem PySem.Spec PyProof.Rows L2 Qm
local macro_rules | `(tactic| walk_at "go") => `(tactic| simp only [↓g_Fn, ↓g_Seq, ↓g_Ret, ↓g_sIf, ↓g_Asg, ↓g_Expr, ↓g_Done, ↓g_fnK_rt, ↓g_fnK_nx, ↓g_seqK_nx, ↓g_seqK_rt, ↓g_seqK_ct, ↓g_seqK_bk, ↓g_loopK_nx, ↓g_loopK_ct, ↓g_loopK_bk, ↓g_loopK_rt, ↓g_gN, ↓g_gSub, ↓g_gsNil, ↓g_gsCons, ↓g_C, ↓g_Op, ↓g_Un, ↓g_Nil, ↓g_Cons, ↓g_Tup, ↓g_Lst, ↓g_Call, ↓g_Dic0, ↓g_And, ↓g_Or, ↓g_andK, ↓g_orK, ↓g_not, ↓g_If, ↓g_T, ↓g_testK, ↓g_NotT, ↓g_AndT, ↓g_OrT, ↓g_All, ↓g_addI, ↓g_subI, ↓g_lt, ↓g_le, ↓g_gt, ↓g_ge, ↓g_neg, ↓g_Chain, ↓g_chainK, ↓g_ok, ↓g_none, ↓g_lenT, ↓g_lenF, ↓g_max, ↓g_min, ↓g_eqS, ↓g_Src, ↓g_srcT, ↓g_Rng1, ↓g_For, ↓g_Lc, ↓g_bind, ↓g_pure, ↓g_newL, entry, mV, List.length_cons, List.length_nil, List.map_cons, List.map_nil, List.cons_append, List.nil_append, List.replicate_succ, List.replicate_zero, List.getElem?_cons_zero, List.getElem?_cons_succ, List.set_cons_zero, List.set_cons_succ, Nat.reduceSub, Nat.reduceAdd])
local macro_rules | `(tactic| walk_at "goa") => `(tactic| simp (disch := omega) only [↓g_mulL, ↓g_mod, ↓g_fdiv, ↓g_rng1, ↓g_Fn, ↓g_Seq, ↓g_Ret, ↓g_sIf, ↓g_Asg, ↓g_Expr, ↓g_Done, ↓g_fnK_rt, ↓g_fnK_nx, ↓g_seqK_nx, ↓g_seqK_rt, ↓g_seqK_ct, ↓g_seqK_bk, ↓g_loopK_nx, ↓g_loopK_ct, ↓g_loopK_bk, ↓g_loopK_rt, ↓g_gN, ↓g_gSub, ↓g_gsNil, ↓g_gsCons, ↓g_C, ↓g_Op, ↓g_Un, ↓g_Nil, ↓g_Cons, ↓g_Tup, ↓g_Lst, ↓g_Call, ↓g_Dic0, ↓g_And, ↓g_Or, ↓g_andK, ↓g_orK, ↓g_not, ↓g_If, ↓g_T, ↓g_testK, ↓g_NotT, ↓g_AndT, ↓g_OrT, ↓g_All, ↓g_addI, ↓g_subI, ↓g_lt, ↓g_le, ↓g_gt, ↓g_ge, ↓g_neg, ↓g_Chain, ↓g_chainK, ↓g_ok, ↓g_none, ↓g_lenT, ↓g_lenF, ↓g_max, ↓g_min, ↓g_eqS, ↓g_Src, ↓g_srcT, ↓g_Rng1, ↓g_For, ↓g_Lc, ↓g_bind, ↓g_pure, ↓g_newL, entry, mV, List.length_cons, List.length_nil, List.map_cons, List.map_nil, List.cons_append, List.nil_append, List.replicate_succ, List.replicate_zero, List.getElem?_cons_zero, List.getElem?_cons_succ, List.set_cons_zero, List.set_cons_succ, Nat.reduceSub, Nat.reduceAdd])
local macro_rules | `(tactic| walk_at "st") => `(tactic| simp (disch := omega) only [↓g_addL, ↓g_Dic1, addL_def, lstAt_off, lstAt_off0, lstAt_z, lstAt_s, Option.bind_some, if_t, ↓g_newL, List.append_assoc, List.cons_append, List.nil_append, List.append_nil, List.length_append, List.length_cons, List.length_nil, Nat.zero_add, Nat.add_assoc, Nat.reduceAdd, ↓g_ok])
def lapB : SX := (sSeq (sAsg (mCall m__law_row_of (mCons (mV 3) (mCons (mC (.int 12)) (mCons (mCall m__law_pick (mCons (mV 3) (mCons (mLst (mCons (mC (.int 1)) (mCons (mC (.int 9)) (mCons (mC (.int 999)) mNil)))) mNil))) mNil)))) (gN 5))
    (sSeq (sAsg (mCall m__law_draw (mCons (mV 3) (mCons (mOp addD (mCall lenD (mCons (mV 5) mNil)) (mC (.int 1))) mNil))) (gN 6))
    (sSeq (sAsg (mLst (mCons (mV 5) (mCons (mCall listD (mCons (mV 5) mNil)) (mCons (mTup (mCons (mV 5) mNil)) (mCons (mOp addD (mV 5) (mTup (mCons (mC (.int 1000)) mNil))) (mCons (mOp addD (mTup (mCons (mUn negD (mC (.int 1))) mNil)) (mV 5)) (mCons (mOp mulD (mV 5) (mC (.int 40))) mNil))))))) (gN 7))
    (sSeq (sAsg (mOp addD (mV 7) (mLc (mSrc (mOp addD (mCall m__law_odds mNil) (mLst (mCons (mC (.int 999)) (mCons (mC (.int 1000)) (mCons (mUn negD (mC (.int 1))) (mCons (mC (.str "1")) mNil))))))) (gN 8) tAll (mOp addD (mOp addD (mSl slD (mV 5) mOn (mOs (mV 6))) (mTup (mCons (mV 8) mNil))) (mSl slD (mV 5) (mOs (mV 6)) mOn)) [8])) (gN 7))
    (sIf (mT (mOp neD (mLc (mSrc (mV 7)) (gN 1) (mNotT (mT (mCall m__law_right (mCons (mV 1) mNil)))) (mC (.int 1)) [1]) (mLst mNil))) (sRet (mC (.bl false))) sDone)))))
def six (N : Nat) (is : List Int) : List D := [.tup (is.map .int), .ref N, .tup [.tup (is.map .int)], .tup (is.map .int ++ [.int 1000]), .tup ([.int (-1)] ++ is.map .int), .tup (List.replicate (Int.toNat 40) (is.map D.int)).flatten]
theorem rep_ints (is : List Int) : ∀ n : Nat, (List.replicate n (is.map D.int)).flatten = (List.replicate n is).flatten.map D.int
  | 0 => rfl
  | n + 1 => by rw [List.replicate_succ, List.flatten_cons, rep_ints is n, List.replicate_succ, List.flatten_cons, List.map_append]
theorem six_ok {S G : Sto} {is : List Int} (hb : ∀ i ∈ is, 0 ≤ i ∧ i ≤ 999) (hl : is.length ≤ 12) : ∀ d ∈ six S.length is, RokD 8 (S ++ [.lst (is.map .int)] ++ G) d := by
  intro d h
  have b2 : ∀ i ∈ is, -999999999999 ≤ i ∧ i ≤ 999999999999 := fun i h => by have := hb i h; omega
  simp only [six, List.mem_cons, List.not_mem_nil, or_false] at h
  rcases h with rfl | rfl | rfl | rfl | rfl | rfl
  · exact (rok_ints b2 (by omega)).le (by decide)
  · exact (rok_listL (lstAt_app lstAt_last) b2 (by omega)).le (by decide)
  · exact (rok_one b2 (by omega)).le (by decide)
  · refine RokD.le (k := 2) ?_ (by decide)
    have := rok_ints (S := S ++ [.lst (is.map .int)] ++ G) (is := is ++ [1000]) (fun i h => ?_) (by simp; omega)
    · rw [List.map_append] at this; exact this
    · rcases List.mem_append.mp h with h | h
      · exact b2 i h
      · rw [List.mem_singleton] at h; subst h; decide
  · refine RokD.le (k := 2) ?_ (by decide)
    have := rok_ints (S := S ++ [.lst (is.map .int)] ++ G) (is := [-1] ++ is) (fun i h => ?_) (by simp; omega)
    · rw [List.map_append] at this; exact this
    · rcases List.mem_append.mp h with h | h
      · rw [List.mem_singleton] at h; subst h; decide
      · exact b2 i h
  · refine RokD.le (k := 2) ?_ (by decide)
    rw [rep_ints]
    refine rok_ints (fun i h => ?_) ?_
    · obtain ⟨l, h1, h2⟩ := List.mem_flatten.mp h
      have := (List.mem_replicate.mp h1).2
      subst this
      exact b2 i h2
    · have e : (List.replicate (Int.toNat 40) is).flatten.length = 40 * is.length := by
        rw [List.length_flatten, List.map_replicate, List.sum_replicate_nat]
        rfl
      omega
theorem lap_ok {F : D} {S : Sto} {p B : Nat} {P : Out → Sto → Prop} {a b c d e f g : Option D} (hp : PenOk S p (B + 30)) (go : ∀ (e f h : Option D) (S' : Sto), PenOk S' p B → P (.nx [some F, a, b, some (.ref p), c, e, f, h, g]) S') : good (lapB [some F, a, b, some (.ref p), c, d, e, f, g] S) P No := by
  unfold lapB
  try walk_at "go"
  have hq : S.length ≠ p := Nat.ne_of_gt (pen_lt hp)
  refine pick_ok (B := B + 29) (pen_app hp) hq lstAt_last fun top S1 htop hp1 => ?_
  try walk_at "go"
  refine row_of_ok (B := B + 9) hp1 htop fun is S2 hb hl hp2 => ?_
  try walk_at "go"
  refine draw_ok (B := B + 8) hp2 (by rw [List.length_map]; omega) (by rw [List.length_map]; omega) fun at_ S3 a0 a1 hp3 _ => ?_
  simp only [g_listT]
  try walk_at "go"
  have lis : (is.map D.int).length ≤ 12 := by rw [List.length_map]; exact hl
  refine Eq.mpr (g_addT (by rw [sizeLine_eq]; show (is.map D.int).length + 1 ≤ _; omega)) ?_
  refine Eq.mpr (g_addT (by rw [sizeLine_eq]; show 1 + (is.map D.int).length ≤ _; omega)) ?_
  refine Eq.mpr (g_mulT ⟨by decide, by decide, by rw [sizeLine_eq]; show (is.map D.int).length * 40 ≤ _; omega⟩) ?_
  have hsix := fun G => six_ok (S := S3) (G := G) hb hl
  show good (m__law_odds [] _) _ _
  have e6 : ∀ N, [D.tup (is.map .int), .ref N, .tup [.tup (is.map .int)], .tup (is.map .int ++ [.int 1000]), .tup ([.int (-1)] ++ is.map .int), .tup (List.replicate (Int.toNat 40) (is.map D.int)).flatten] = six N is := fun _ => rfl
  rw [e6]
  clear e6
  refine odds_ok fun G hG hl1 hd => ?_
  generalize hT : S3 ++ [O.lst (is.map .int)] ++ [O.lst (six S3.length is)] = T at hl1 hd ⊢
  have h4 : lstAt (T ++ G ++ [O.lst [D.int 999, .int 1000, .int (-1), .str "1"]]) (T ++ G).length = some [D.int 999, .int 1000, .int (-1), .str "1"] := lstAt_last
  refine Eq.mpr (g_addL (lstAt_app hl1) h4 (show 41 + 4 ≤ sizeLine by rw [sizeLine_eq]; decide)) ?_
  refine Eq.mpr (g_srcL lstAt_last) ?_
  generalize hbads : oddsL T.length ++ [D.int 999, .int 1000, .int (-1), .str "1"] = bads
  have lbads : bads.length = 45 := by rw [← hbads]; rfl
  have hall : ∀ d ∈ bads, RokD 7 (T ++ G) d := by
    intro d h
    rw [← hbads] at h
    rcases List.mem_append.mp h with h | h
    · exact hd d h
    · simp only [List.mem_cons, List.not_mem_nil, or_false] at h
      rcases h with rfl | rfl | rfl | rfl
      all_goals exact okC_ok (by decide +kernel)
  clear hbads
  generalize hU : T ++ G ++ [O.lst [D.int 999, .int 1000, .int (-1), .str "1"]] = U
  obtain ⟨is1, e1, m1, l1⟩ := cut_ints is none (some at_)
  obtain ⟨is2, e2, m2, l2⟩ := cut_ints is (some at_) none
  refine compL_pure (S0 := U ++ [O.lst bads]) (full := bads) (F := fun d => some (.tup (is1.map .int ++ [d] ++ is2.map .int))) (fun i G2 => ?_) (fun d hd2 G2 => ?_) (by rw [sizeLine_eq]; omega) (fun G2 => ?_)
  · show (lstAt (U ++ [O.lst bads] ++ G2) U.length).map (fun ds => ds[i]?) = _
    rw [lstAt_app lstAt_last]
    rfl
  · refine ⟨[], ?_⟩
    rw [List.append_nil]
    refine eq_of ?_
    unfold compT
    try walk_at "go"
    simp only [wipeD, List.set_cons_succ, List.set_cons_zero]
    try walk_at "go"
    simp only [↓g_Sl, ↓g_On, ↓g_Os, ↓g_osK, ↓g_slT, ↓g_Tup, ↓g_Cons, ↓g_Nil, mV, List.getElem?_cons_zero, List.getElem?_cons_succ, ↓g_ok]
    rw [e1, e2]
    refine Eq.mpr (g_addT (by rw [sizeLine_eq, List.length_map]; show is1.length + 1 ≤ _; omega)) ?_
    refine Eq.mpr (g_addT (by rw [sizeLine_eq, List.length_append, List.length_map, List.length_map]; show is1.length + 1 + is2.length ≤ _; omega)) ?_
    try walk_at "go"
    first | trivial | exact ⟨rfl, trivial⟩
  · have hp0 : ∀ x ∈ bads.filterMap (fun d => some (D.tup (is1.map .int ++ [d] ++ is2.map .int))), RokD 8 (T ++ G) x := by
      intro x hx
      obtain ⟨d, h1, h2⟩ := List.mem_filterMap.mp hx
      cases h2
      refine ⟨rok_put (hall d h1) (fun i hi => hb i (m1 i hi)) (fun i hi => hb i (m2 i hi)) (by omega) (by omega), fun ds e => ?_⟩
      cases e
      rw [sizeLine_eq, List.length_append, List.length_append, List.length_map, List.length_map]
      show is1.length + 1 + is2.length ≤ _
      omega
    have lputs : (bads.filterMap (fun d => some (D.tup (is1.map .int ++ [d] ++ is2.map .int)))).length ≤ 45 := by
      have := List.length_filterMap_le (fun d => some (D.tup (is1.map .int ++ [d] ++ is2.map .int))) bads
      omega
    generalize bads.filterMap (fun d => some (D.tup (is1.map .int ++ [d] ++ is2.map .int))) = puts at hp0 lputs ⊢
    have t1 : lstAt T (S3 ++ [O.lst (is.map .int)]).length = some (six S3.length is) := by rw [← hT]; exact lstAt_last
    have u1 : lstAt U (S3 ++ [O.lst (is.map .int)]).length = some (six S3.length is) := by rw [← hU]; exact lstAt_app (lstAt_app t1)
    have l6 : (six S3.length is).length = 6 := rfl
    have lz : (six S3.length is).length + puts.length ≤ sizeLine := by rw [sizeLine_eq]; omega
    refine Eq.mpr (g_addL (lstAt_app (lstAt_app u1)) lstAt_mid lz) ?_
    refine Eq.mpr (g_srcL lstAt_last) ?_
    generalize hZ0 : U ++ [O.lst bads] ++ O.lst puts :: G2 = Z0
    have hX : ∃ X, Z0 = S3 ++ [O.lst (is.map .int)] ++ X := ⟨[O.lst (six S3.length is)] ++ G ++ [O.lst [D.int 999, .int 1000, .int (-1), .str "1"]] ++ [O.lst bads] ++ O.lst puts :: G2, by rw [← hZ0, ← hU, ← hT]; simp only [List.append_assoc]⟩
    have hY : ∃ Y, Z0 = T ++ G ++ Y := ⟨[O.lst [D.int 999, .int 1000, .int (-1), .str "1"]] ++ [O.lst bads] ++ O.lst puts :: G2, by rw [← hZ0, ← hU]; simp only [List.append_assoc]⟩
    have hf : ∀ x ∈ six S3.length is ++ puts, RokD 8 Z0 x := by
      intro x hx
      rcases List.mem_append.mp hx with h | h
      · obtain ⟨X, e⟩ := hX
        rw [e]
        exact hsix X x h
      · obtain ⟨Y, e⟩ := hY
        rw [e]
        exact (hp0 x h).app
    have lf : (six S3.length is ++ puts).length ≤ sizeLine := by rw [List.length_append]; exact lz
    generalize six S3.length is ++ puts = full at hf lf ⊢
    refine compL_pure (S0 := Z0 ++ [O.lst full]) (full := full) (F := fun _ => none) (fun i G3 => ?_) (fun d hd2 G3 => ?_) lf (fun G3 => ?_)
    · show (lstAt (Z0 ++ [O.lst full] ++ G3) Z0.length).map (fun ds => ds[i]?) = _
      rw [lstAt_app lstAt_last]
      rfl
    · have hr : RokD 8 (Z0 ++ [O.lst full] ++ G3) d := (hf d hd2).app.app
      obtain ⟨G4, e4⟩ := rightD hr (by decide)
      refine ⟨G4, eq_of ?_⟩
      unfold compT
      try walk_at "go"
      simp only [wipeD, List.set_cons_succ, List.set_cons_zero]
      try walk_at "go"
      simp only [g_eq e4]
      try walk_at "go"
      first | trivial | exact ⟨rfl, rfl⟩ | simp [g_bind, g_pure, g_ok]
    · have e0 : full.filterMap (fun _ => (none : Option D)) = ([] : List Int).map D.int := by simp
      rw [e0]
      have n1 : lstAt (Z0 ++ [O.lst full] ++ O.lst (([] : List Int).map D.int) :: G3 ++ [O.lst []]) (Z0 ++ [O.lst full]).length = some (([] : List Int).map D.int) := lstAt_app lstAt_mid
      have n2 : lstAt (Z0 ++ [O.lst full] ++ O.lst (([] : List Int).map D.int) :: G3 ++ [O.lst []]) (Z0 ++ [O.lst full] ++ O.lst (([] : List Int).map D.int) :: G3).length = some (([] : List Int).map D.int) := lstAt_last
      refine Eq.mpr (ne_ints n1 n2) ?_
      try walk_at "go"
      refine ⟨fun z => ?_, fun _ => ?_⟩
      · simp at z
      · refine go _ _ _ _ ?_
        obtain ⟨X, e⟩ := hX
        rw [e]
        exact pen_app (pen_app (pen_app (pen_app (pen_app (pen_le hp3 (by omega))))))
end Tx

namespace Tx
open PySem PySem.Spec PyProof.Rows L2 Qm
local macro_rules | `(tactic| walk_at "go") => `(tactic| simp only [↓g_Fn, ↓g_Seq, ↓g_Ret, ↓g_sIf, ↓g_Asg, ↓g_Expr, ↓g_Done, ↓g_fnK_rt, ↓g_fnK_nx, ↓g_seqK_nx, ↓g_seqK_rt, ↓g_seqK_ct, ↓g_seqK_bk, ↓g_loopK_nx, ↓g_loopK_ct, ↓g_loopK_bk, ↓g_loopK_rt, ↓g_gN, ↓g_gSub, ↓g_gsNil, ↓g_gsCons, ↓g_C, ↓g_Op, ↓g_Un, ↓g_Nil, ↓g_Cons, ↓g_Tup, ↓g_Lst, ↓g_Call, ↓g_Dic0, ↓g_And, ↓g_Or, ↓g_andK, ↓g_orK, ↓g_not, ↓g_If, ↓g_T, ↓g_testK, ↓g_NotT, ↓g_AndT, ↓g_OrT, ↓g_All, ↓g_addI, ↓g_subI, ↓g_lt, ↓g_le, ↓g_gt, ↓g_ge, ↓g_neg, ↓g_Chain, ↓g_chainK, ↓g_ok, ↓g_none, ↓g_lenT, ↓g_lenF, ↓g_max, ↓g_min, ↓g_eqS, ↓g_Src, ↓g_srcT, ↓g_Rng1, ↓g_For, ↓g_Lc, ↓g_bind, ↓g_pure, ↓g_newL, entry, mV, List.length_cons, List.length_nil, List.map_cons, List.map_nil, List.cons_append, List.nil_append, List.replicate_succ, List.replicate_zero, List.getElem?_cons_zero, List.getElem?_cons_succ, List.set_cons_zero, List.set_cons_succ, Nat.reduceSub, Nat.reduceAdd])
local macro_rules | `(tactic| walk_at "goa") => `(tactic| simp (disch := omega) only [↓g_mulL, ↓g_mod, ↓g_fdiv, ↓g_rng1, ↓g_Fn, ↓g_Seq, ↓g_Ret, ↓g_sIf, ↓g_Asg, ↓g_Expr, ↓g_Done, ↓g_fnK_rt, ↓g_fnK_nx, ↓g_seqK_nx, ↓g_seqK_rt, ↓g_seqK_ct, ↓g_seqK_bk, ↓g_loopK_nx, ↓g_loopK_ct, ↓g_loopK_bk, ↓g_loopK_rt, ↓g_gN, ↓g_gSub, ↓g_gsNil, ↓g_gsCons, ↓g_C, ↓g_Op, ↓g_Un, ↓g_Nil, ↓g_Cons, ↓g_Tup, ↓g_Lst, ↓g_Call, ↓g_Dic0, ↓g_And, ↓g_Or, ↓g_andK, ↓g_orK, ↓g_not, ↓g_If, ↓g_T, ↓g_testK, ↓g_NotT, ↓g_AndT, ↓g_OrT, ↓g_All, ↓g_addI, ↓g_subI, ↓g_lt, ↓g_le, ↓g_gt, ↓g_ge, ↓g_neg, ↓g_Chain, ↓g_chainK, ↓g_ok, ↓g_none, ↓g_lenT, ↓g_lenF, ↓g_max, ↓g_min, ↓g_eqS, ↓g_Src, ↓g_srcT, ↓g_Rng1, ↓g_For, ↓g_Lc, ↓g_bind, ↓g_pure, ↓g_newL, entry, mV, List.length_cons, List.length_nil, List.map_cons, List.map_nil, List.cons_append, List.nil_append, List.replicate_succ, List.replicate_zero, List.getElem?_cons_zero, List.getElem?_cons_succ, List.set_cons_zero, List.set_cons_succ, Nat.reduceSub, Nat.reduceAdd])
local macro_rules | `(tactic| walk_at "st") => `(tactic| simp (disch := omega) only [↓g_addL, ↓g_Dic1, addL_def, lstAt_off, lstAt_off0, lstAt_z, lstAt_s, Option.bind_some, if_t, ↓g_newL, List.append_assoc, List.cons_append, List.nil_append, List.append_nil, List.length_append, List.length_cons, List.length_nil, Nat.zero_add, Nat.add_assoc, Nat.reduceAdd, ↓g_ok])
def lap2 : SX := (sSeq (sAsg (mCall m__law_pen (mCons (mCall m__law_cell_at (mCons (mV 0) (mCons (mV 2) mNil))) mNil)) (gN 3))
    (sFor (mRng1 (mCons (mC (.int 4)) mNil)) (gN 4) lapB))
def rest2 : SX := (sSeq (sFor (mRng1 (mCons (mCall max2D (mCons (mC (.int 1)) (mCons (mCall min2D (mCons (mCall lenD (mCons (mV 0) mNil)) (mCons (mC (.int 3)) mNil))) mNil))) mNil)) (gN 2) lap2)
    (sRet (mC (.bl true))))
def head1 : SX := sFor (mSrc (mOp addD (mCall m__law_odds mNil) (mLst (mCons (mOp mulD (mTup (mCons (mC (.int 0)) mNil)) (mC (.int 200))) (mCons (mOp mulD (mTup (mCons (mC (.int 999)) mNil)) (mC (.int 201))) (mCons (mOp mulD (mTup (mCons (mC (.int 0)) mNil)) (mC (.int 3000))) (mCons (mTup (mCons (mC (.int 1000)) mNil)) (mCons (mTup (mCons (mC (.int 0)) (mCons (mUn negD (mC (.int 1))) mNil))) (mCons (mC (.str "0")) (mCons (mTup (mCons (mC (.int 0)) (mCons (mC .non) mNil))) (mCons (mTup (mCons (mTup (mCons (mC (.int 0)) mNil)) (mCons (mC (.int 0)) mNil))) mNil))))))))))) (gN 1) (sIf (mNotT (mT (mCall m__law_right (mCons (mV 1) mNil)))) (sRet (mC (.bl false))) sDone)
theorem law_split (ds : List D) : m_law ds = mFn 9 (sSeq head1 rest2) ds := by
  unfold m_law head1 rest2 lap2 lapB
  rfl
theorem head1_ok {F : D} {S : Sto} {P : Out → Sto → Prop} (go : ∀ (o : Option D) (S' : Sto), P (.nx [some F, o, none, none, none, none, none, none, none]) S') : good (head1 [some F, none, none, none, none, none, none, none, none] S) P No := by
  unfold head1
  try walk_at "go"
  refine odds_ok fun G hG hl hd => ?_
  try walk_at "go"
  simp only [g_mul1 (k := 200) (i := 0) (by decide)]
  try walk_at "go"
  simp only [g_mul1 (k := 201) (i := 999) (by decide)]
  try walk_at "go"
  simp only [g_mul1 (k := 3000) (i := 0) (by decide)]
  try walk_at "go"
  have hm : lstAt (S ++ G ++ [O.lst (more S)]) (S ++ G).length = some (more S) := lstAt_last
  refine Eq.mpr (g_addL (lstAt_app hl) hm (show 41 + 8 ≤ sizeLine by rw [sizeLine_eq]; decide)) ?_
  refine Eq.mpr (g_srcL lstAt_last) ?_
  generalize hfull : oddsL S.length ++ more S = full
  have hall : ∀ d ∈ full, RokD 8 (S ++ G) d := by
    intro d h
    rw [← hfull] at h
    rcases List.mem_append.mp h with h | h
    · exact (hd d h).le (by decide)
    · exact more_ok h
  clear hfull
  refine forF_inv (full := full) (fun i dl S2 => (∃ o, dl = [some F, o, none, none, none, none, none, none, none]) ∧ ∃ G2, S2 = S ++ G ++ [O.lst (more S)] ++ [O.lst full] ++ G2) (fun i dl S2 h => ?_) (fun i d dl S2 hi h => ?_) (fun dl S2 h => ?_) full.length 0 _ _ (by omega) ⟨⟨none, rfl⟩, [], by rw [List.append_nil]; rfl⟩
  · obtain ⟨_, G2, rfl⟩ := h
    show (lstAt (S ++ G ++ [O.lst (more S)] ++ [O.lst full] ++ G2) (S ++ G ++ [O.lst (more S)]).length).map (fun ds => ds[i]?) = _
    rw [lstAt_app lstAt_last]
    rfl
  · obtain ⟨⟨o, rfl⟩, G2, rfl⟩ := h
    have hr : RokD 8 (S ++ G ++ [O.lst (more S)] ++ [O.lst full] ++ G2) d := (hall d (List.mem_of_getElem? hi)).app.app.app
    obtain ⟨G3, e3⟩ := rightD hr (by decide)
    rw [g_bind]
    try walk_at "go"
    simp only [g_eq e3]
    try walk_at "go"
    refine ⟨fun z => (by cases z), fun _ => ⟨⟨_, rfl⟩, G2 ++ G3, by simp only [List.append_assoc]⟩⟩
  · obtain ⟨⟨o, rfl⟩, _⟩ := h
    exact go o S2
end Tx

namespace Tx
open PySem PySem.Spec PyProof.Rows L2 Qm
local macro_rules | `(tactic| walk_at "go") => `(tactic| simp only [↓g_Fn, ↓g_Seq, ↓g_Ret, ↓g_sIf, ↓g_Asg, ↓g_Expr, ↓g_Done, ↓g_fnK_rt, ↓g_fnK_nx, ↓g_seqK_nx, ↓g_seqK_rt, ↓g_seqK_ct, ↓g_seqK_bk, ↓g_loopK_nx, ↓g_loopK_ct, ↓g_loopK_bk, ↓g_loopK_rt, ↓g_gN, ↓g_gSub, ↓g_gsNil, ↓g_gsCons, ↓g_C, ↓g_Op, ↓g_Un, ↓g_Nil, ↓g_Cons, ↓g_Tup, ↓g_Lst, ↓g_Call, ↓g_Dic0, ↓g_And, ↓g_Or, ↓g_andK, ↓g_orK, ↓g_not, ↓g_If, ↓g_T, ↓g_testK, ↓g_NotT, ↓g_AndT, ↓g_OrT, ↓g_All, ↓g_addI, ↓g_subI, ↓g_lt, ↓g_le, ↓g_gt, ↓g_ge, ↓g_neg, ↓g_Chain, ↓g_chainK, ↓g_ok, ↓g_none, ↓g_lenT, ↓g_lenF, ↓g_max, ↓g_min, ↓g_eqS, ↓g_Src, ↓g_srcT, ↓g_Rng1, ↓g_For, ↓g_Lc, ↓g_bind, ↓g_pure, ↓g_newL, entry, mV, List.length_cons, List.length_nil, List.map_cons, List.map_nil, List.cons_append, List.nil_append, List.replicate_succ, List.replicate_zero, List.getElem?_cons_zero, List.getElem?_cons_succ, List.set_cons_zero, List.set_cons_succ, Nat.reduceSub, Nat.reduceAdd])
local macro_rules | `(tactic| walk_at "goa") => `(tactic| simp (disch := omega) only [↓g_mulL, ↓g_mod, ↓g_fdiv, ↓g_rng1, ↓g_Fn, ↓g_Seq, ↓g_Ret, ↓g_sIf, ↓g_Asg, ↓g_Expr, ↓g_Done, ↓g_fnK_rt, ↓g_fnK_nx, ↓g_seqK_nx, ↓g_seqK_rt, ↓g_seqK_ct, ↓g_seqK_bk, ↓g_loopK_nx, ↓g_loopK_ct, ↓g_loopK_bk, ↓g_loopK_rt, ↓g_gN, ↓g_gSub, ↓g_gsNil, ↓g_gsCons, ↓g_C, ↓g_Op, ↓g_Un, ↓g_Nil, ↓g_Cons, ↓g_Tup, ↓g_Lst, ↓g_Call, ↓g_Dic0, ↓g_And, ↓g_Or, ↓g_andK, ↓g_orK, ↓g_not, ↓g_If, ↓g_T, ↓g_testK, ↓g_NotT, ↓g_AndT, ↓g_OrT, ↓g_All, ↓g_addI, ↓g_subI, ↓g_lt, ↓g_le, ↓g_gt, ↓g_ge, ↓g_neg, ↓g_Chain, ↓g_chainK, ↓g_ok, ↓g_none, ↓g_lenT, ↓g_lenF, ↓g_max, ↓g_min, ↓g_eqS, ↓g_Src, ↓g_srcT, ↓g_Rng1, ↓g_For, ↓g_Lc, ↓g_bind, ↓g_pure, ↓g_newL, entry, mV, List.length_cons, List.length_nil, List.map_cons, List.map_nil, List.cons_append, List.nil_append, List.replicate_succ, List.replicate_zero, List.getElem?_cons_zero, List.getElem?_cons_succ, List.set_cons_zero, List.set_cons_succ, Nat.reduceSub, Nat.reduceAdd])
local macro_rules | `(tactic| walk_at "st") => `(tactic| simp (disch := omega) only [↓g_addL, ↓g_Dic1, addL_def, lstAt_off, lstAt_off0, lstAt_z, lstAt_s, Option.bind_some, if_t, ↓g_newL, List.append_assoc, List.cons_append, List.nil_append, List.append_nil, List.length_append, List.length_cons, List.length_nil, Nat.zero_add, Nat.add_assoc, Nat.reduceAdd, ↓g_ok])
theorem lap2_ok {ns : List Int} {S : Sto} {P : Out → Sto → Prop} {a c d e f g h : Option D} {k : Int} (hk : 0 ≤ k) (go : ∀ (a b c d e f g h : Option D) (S' : Sto), P (.nx [some (.fro (ns.map .int)), a, b, c, d, e, f, g, h]) S') : good (lap2 [some (.fro (ns.map .int)), a, some (.int k), c, d, e, f, g, h] S) P No := by
  unfold lap2
  try walk_at "go"
  refine cell_ok hk fun c => ?_
  try walk_at "go"
  refine pen_ok fun S1 _ hl hp => ?_
  try walk_at "go"
  simp only [g_rng1 (show -(2 ^ 62) ≤ (4 : Int) ∧ (4 : Int) < 2 ^ 62 by decide)]
  refine forF_inv (full := intsD 0 (Int.toNat 4)) (fun i dl S2 => (∃ d e f g, dl = [some (.fro (ns.map .int)), a, some (.int k), some (.ref S.length), d, e, f, g, h]) ∧ PenOk S2 S.length (1000 - 30 * i)) (fun i dl S2 h => rangeF_eq) (fun i d dl S2 hi h => ?_) (fun dl S2 h => ?_) _ 0 _ _ (by rw [intsD_len]; omega) ⟨⟨_, _, _, _, rfl⟩, pen_le hp (by omega)⟩
  · have hlt : i < 4 := by have := (List.getElem?_eq_some_iff.mp hi).1; rwa [intsD_len] at this
    obtain ⟨⟨_, _, _, _, rfl⟩, hp2⟩ := h
    rw [g_bind]
    try walk_at "go"
    refine lap_ok (B := 1000 - 30 * (i + 1)) (pen_le hp2 (by omega)) fun _ _ _ S' hp3 => ?_
    exact ⟨⟨_, _, _, _, rfl⟩, hp3⟩
  · obtain ⟨⟨_, _, _, _, rfl⟩, hp2⟩ := h
    exact go _ _ _ _ _ _ _ _ _
theorem rest2_ok {ns : List Int} (hn : ns.length ≤ 63) {S : Sto} {PD : D → Sto → Prop} {o : Option D} (go : ∀ S', PD (.bl true) S') : good (rest2 [some (.fro (ns.map .int)), o, none, none, none, none, none, none, none] S) (fnK PD) No := by
  unfold rest2
  try walk_at "go"
  have hl : (ns.map D.int).length ≤ 63 := by rw [List.length_map]; exact hn
  generalize hJ : (if _ > (1 : Int) then _ else (1 : Int)) = J
  have hb : -(2 ^ 62) ≤ J ∧ J < 2 ^ 62 := by
    rw [← hJ]
    split <;> first | (split <;> omega) | omega
  clear hJ
  simp only [g_rng1 hb]
  refine forF_inv (full := intsD 0 J.toNat) (fun i dl S2 => ∃ a b c d e f g h, dl = [some (.fro (ns.map .int)), a, b, c, d, e, f, g, h]) (fun i dl S2 h => rangeF_eq) (fun i d dl S2 hi h => ?_) (fun dl S2 h => ?_) _ 0 _ _ (by rw [intsD_len]; omega) ⟨_, _, _, _, _, _, _, _, rfl⟩
  · obtain ⟨_, _, _, _, _, _, _, _, rfl⟩ := h
    have hd : ∃ k : Int, 0 ≤ k ∧ d = .int k := by
      have hlt := (List.getElem?_eq_some_iff.mp hi).1
      rw [intsD_len] at hlt
      rw [intsD, List.getElem?_map, List.getElem?_range hlt] at hi
      cases hi
      exact ⟨_, by omega, rfl⟩
    obtain ⟨k, hk, rfl⟩ := hd
    rw [g_bind]
    try walk_at "go"
    exact lap2_ok hk fun a b c d e f g h S' => ⟨a, b, c, d, e, f, g, h, rfl⟩
  · obtain ⟨_, _, _, _, _, _, _, _, rfl⟩ := h
    try walk_at "go"
    exact go _
theorem law_true (ns : List Int) (h : ns.length ≤ 63) : good (m_law [.fro (ns.map .int)] []) (fun d _ => d = .bl true) No := by
  rw [law_split]
  simp only [↓g_Fn, ↓g_Seq, entry, List.length_cons, List.length_nil, List.map_cons, List.map_nil, List.cons_append, List.nil_append, List.replicate_succ, List.replicate_zero, Nat.reduceSub, Nat.reduceAdd]
  refine head1_ok fun o S' => ?_
  exact rest2_ok h fun _ => rfl
end Tx

namespace Tx
open PySem PySem.Spec PyProof.Rows L2 Qm
def topS (i : Nat) : Stmt := PySem.Challenge.pw_comesback_k07_rows_known.main.body.getD i (.Pass ⟨0, 0, 0, 0⟩)
abbrev st__law_cell_at : Stmt := topS 8
theorem sc__law_cell_at : FnScope ["_law_script", "_law_k"] ["_law_script", "_law_k"] (defScope st__law_cell_at) := ⟨rfl, rfl, rfl, by decide +kernel, rfl, by decide +kernel, by decide +kernel⟩
abbrev st__law_draw : Stmt := topS 10
theorem sc__law_draw : FnScope ["_law_pen_here", "_law_many", "_law_stir", "_law_digit"] ["_law_pen_here", "_law_many"] (defScope st__law_draw) := ⟨rfl, rfl, rfl, by decide +kernel, rfl, by decide +kernel, by decide +kernel⟩
abbrev st__law_odds : Stmt := topS 15
theorem sc__law_odds : FnScope ["_law_found"] [] (defScope st__law_odds) := ⟨rfl, rfl, rfl, by decide +kernel, rfl, by decide +kernel, by decide +kernel⟩
abbrev st__law_pen : Stmt := topS 9
theorem sc__law_pen : FnScope ["_law_cell"] ["_law_cell"] (defScope st__law_pen) := ⟨rfl, rfl, rfl, by decide +kernel, rfl, by decide +kernel, by decide +kernel⟩
abbrev st__law_pick : Stmt := topS 11
theorem sc__law_pick : FnScope ["_law_pen_here", "_law_things"] ["_law_pen_here", "_law_things"] (defScope st__law_pick) := ⟨rfl, rfl, rfl, by decide +kernel, rfl, by decide +kernel, by decide +kernel⟩
abbrev st__law_same : Stmt := topS 12
theorem sc__law_same : FnScope ["_law_found", "_law_due"] ["_law_found", "_law_due"] (defScope st__law_same) := ⟨rfl, rfl, rfl, by decide +kernel, rfl, by decide +kernel, by decide +kernel⟩
abbrev st__law_whole : Stmt := topS 13
theorem sc__law_whole : FnScope ["_law_thing", "_law_low", "_law_high"] ["_law_thing", "_law_low", "_law_high"] (defScope st__law_whole) := ⟨rfl, rfl, rfl, by decide +kernel, rfl, by decide +kernel, by decide +kernel⟩
abbrev st_is_number : Stmt := topS 1
theorem sc_is_number : FnScope ["thing"] ["thing"] (defScope st_is_number) := ⟨rfl, rfl, rfl, by decide +kernel, rfl, by decide +kernel, by decide +kernel⟩
abbrev st_is_within : Stmt := topS 2
theorem sc_is_within : FnScope ["thing", "low", "high"] ["thing", "low", "high"] (defScope st_is_within) := ⟨rfl, rfl, rfl, by decide +kernel, rfl, by decide +kernel, by decide +kernel⟩
abbrev st_are_within : Stmt := topS 3
theorem sc_are_within : FnScope ["thing", "low", "high", "one"] ["thing", "low", "high"] (defScope st_are_within) := ⟨rfl, rfl, rfl, by decide +kernel, rfl, by decide +kernel, by decide +kernel⟩
abbrev st_is_row : Stmt := topS 6
theorem sc_is_row : FnScope ["thing"] ["thing"] (defScope st_is_row) := ⟨rfl, rfl, rfl, by decide +kernel, rfl, by decide +kernel, by decide +kernel⟩
abbrev st__law_right : Stmt := topS 16
theorem sc__law_right : FnScope ["_law_thing", "_law_kept", "_law_due", "_law_one"] ["_law_thing"] (defScope st__law_right) := ⟨rfl, rfl, rfl, by decide +kernel, rfl, by decide +kernel, by decide +kernel⟩
abbrev st__law_row_of : Stmt := topS 14
theorem sc__law_row_of : FnScope ["_law_pen_here", "_law_longest", "_law_most_here", "_law_turn"] ["_law_pen_here", "_law_longest", "_law_most_here"] (defScope st__law_row_of) := ⟨rfl, rfl, rfl, by decide +kernel, rfl, by decide +kernel, by decide +kernel⟩
abbrev st_law : Stmt := topS 17
theorem sc_law : FnScope ["_law_script", "_law_thing", "_law_k", "_law_pen_here", "_law_lap", "_law_row", "_law_at", "_law_things", "_law_bad"] ["_law_script"] (defScope st_law) := ⟨rfl, rfl, rfl, by decide +kernel, rfl, by decide +kernel, by decide +kernel⟩
theorem p__law_cell_at {P : Program} {w : World} {K : PySem.W.Frag} {mg : Str → Option Value} {base : Heap} {f : Addr} {fd : FuncData} (F : Fun K "_law_cell_at" "_law_cell_at" st__law_cell_at f fd) (hm : mg "_law_cell_at" = some (.ref f)) (hb : Binds K fd ["_law_script", "_law_k"] []) (z_len : mg "len" = none) : Cal P w K mg base 1 "_law_cell_at" 2 m__law_cell_at := by
  unfold m__law_cell_at
  refine calM (N := ["_law_script", "_law_k"]) F hm hb sc__law_cell_at rfl fun cd A outer s H E hg hr => ?_
  exact (sx_seq (sx_if (tx_cmp op_ltD (ex_var 1) (ex_callB call_lenDD (by rfl) z_len (by decide +kernel) (ax_cons (ex_var 0) ax_nil)) (nomark _)) (sx_one (sx_ret (ex_ix ix_D (ex_var 0) (ex_var 1)))) sx_done)
      (sx_one (sx_ret ex_int)))
theorem p__law_draw {P : Program} {w : World} {K : PySem.W.Frag} {mg : Str → Option Value} {base : Heap} {f : Addr} {fd : FuncData} (F : Fun K "_law_draw" "_law_draw" st__law_draw f fd) (hm : mg "_law_draw" = some (.ref f)) (hb : Binds K fd ["_law_pen_here", "_law_many"] []) : Cal P w K mg base 1 "_law_draw" 2 m__law_draw := by
  unfold m__law_draw
  refine calM (N := ["_law_pen_here", "_law_many", "_law_stir", "_law_digit"]) F hm hb sc__law_draw rfl fun cd A outer s H E hg hr => ?_
  exact (sx_seq (sx_if (tx_cmp op_gtD (ex_ix ix_D (ex_var 0) ex_int) ex_int (nomark _)) (sx_seq (sx_set (i := 3) sc__law_draw.nd (ex_op op_modD (ex_ix ix_D (ex_var 0) ex_int) (ex_var 1)))
      (sx_seq (sx_asg (ex_op op_fdivD (ex_ix ix_D (ex_var 0) ex_int) (ex_var 1)) (gx_sub (ex_var 0) ex_int))
      (sx_one (sx_ret (ex_var 3))))) sx_done)
      (sx_seq (sx_asg (ex_op op_addD (ex_ix ix_D (ex_var 0) ex_int) ex_int) (gx_sub (ex_var 0) ex_int))
      (sx_seq (sx_set (i := 2) sc__law_draw.nd (ex_op op_modD (ex_op op_mulD (ex_op op_addD (ex_ix ix_D (ex_var 0) ex_int) (ex_op op_mulD ex_int (ex_ix ix_D (ex_var 0) ex_int))) (ex_op op_addD ex_int (ex_op op_mulD ex_int (ex_ix ix_D (ex_var 0) ex_int)))) ex_int))
      (sx_seq (sx_set (i := 2) sc__law_draw.nd (ex_op op_modD (ex_op op_addD (ex_op op_addD (ex_op op_mulD (ex_var 2) (ex_var 2)) (ex_op op_mulD ex_int (ex_ix ix_D (ex_var 0) ex_int))) ex_int) ex_int))
      (sx_one (sx_ret (ex_op op_modD (ex_op op_fdivD (ex_op op_modD (ex_op op_mulD (ex_var 2) ex_int) ex_int) ex_int) (ex_var 1))))))))
theorem p__law_odds {P : Program} {w : World} {K : PySem.W.Frag} {mg : Str → Option Value} {base : Heap} {f : Addr} {fd : FuncData} (F : Fun K "_law_odds" "_law_odds" st__law_odds f fd) (hm : mg "_law_odds" = some (.ref f)) (hb : Binds K fd [] []) : Cal P w K mg base 1 "_law_odds" 0 m__law_odds := by
  unfold m__law_odds
  refine calM (N := ["_law_found"]) F hm hb sc__law_odds rfl fun cd A outer s H E hg hr => ?_
  exact (sx_seq (sx_set (i := 0) sc__law_odds.nd (ex_lst (ax_cons ex_non (ax_cons ex_bl (ax_cons ex_bl (ax_cons ex_int (ax_cons ex_int (ax_cons (ex_un un_negD ex_int) (ax_cons ex_int (ax_cons ex_int (ax_cons ex_int (ax_cons ex_int (ax_cons ex_int (ax_cons (ex_op op_powD ex_int ex_int) (ax_cons (ex_un un_negD (ex_op op_powD ex_int ex_int)) (ax_cons ex_str (ax_cons ex_str (ax_cons ex_str (ax_cons ex_str ax_nil)))))))))))))))))))
      (sx_seq (sx_set (i := 0) sc__law_odds.nd (ex_op op_addD (ex_var 0) (ex_lst (ax_cons ex_str (ax_cons ex_str (ax_cons (ex_tup ax_nil) (ax_cons (ex_lst ax_nil) (ax_cons ex_dic0 (ax_cons (ex_tup (ax_cons ex_int ax_nil)) (ax_cons (ex_tup (ax_cons ex_int (ax_cons ex_int ax_nil))) (ax_cons (ex_tup (ax_cons ex_int (ax_cons ex_int ax_nil))) (ax_cons (ex_tup (ax_cons ex_int (ax_cons ex_int ax_nil))) (ax_cons (ex_tup (ax_cons ex_int (ax_cons ex_int ax_nil))) (ax_cons (ex_tup (ax_cons ex_int (ax_cons ex_int ax_nil))) (ax_cons (ex_tup (ax_cons ex_int (ax_cons ex_int ax_nil))) (ax_cons (ex_tup (ax_cons ex_int (ax_cons ex_int (ax_cons ex_int ax_nil)))) ax_nil))))))))))))))))
      (sx_seq (sx_set (i := 0) sc__law_odds.nd (ex_op op_addD (ex_var 0) (ex_lst (ax_cons (ex_lst (ax_cons ex_int (ax_cons ex_int ax_nil))) (ax_cons (ex_tup (ax_cons ex_bl (ax_cons ex_int ax_nil))) (ax_cons (ex_tup (ax_cons ex_int (ax_cons ex_bl ax_nil))) (ax_cons (ex_tup (ax_cons ex_non (ax_cons ex_int ax_nil))) (ax_cons (ex_tup (ax_cons ex_str (ax_cons ex_int ax_nil))) (ax_cons (ex_tup (ax_cons (ex_tup (ax_cons ex_int (ax_cons ex_int ax_nil))) ax_nil)) (ax_cons (ex_lst (ax_cons (ex_tup (ax_cons ex_int (ax_cons ex_int ax_nil))) ax_nil)) (ax_cons (ex_dic1 ex_int ex_int) ax_nil)))))))))))
      (sx_one (sx_ret (ex_op op_addD (ex_var 0) (ex_lst (ax_cons (ex_tup (ax_cons ex_int ax_nil)) (ax_cons (ex_tup (ax_cons (ex_tup ax_nil) ax_nil)) (ax_cons (ex_tup (ax_cons (ex_tup (ax_cons ex_int ax_nil)) ax_nil)) ax_nil))))))))))
theorem p__law_pen {P : Program} {w : World} {K : PySem.W.Frag} {mg : Str → Option Value} {base : Heap} {f : Addr} {fd : FuncData} (F : Fun K "_law_pen" "_law_pen" st__law_pen f fd) (hm : mg "_law_pen" = some (.ref f)) (hb : Binds K fd ["_law_cell"] []) (z_max : mg "max" = none) : Cal P w K mg base 1 "_law_pen" 1 m__law_pen := by
  unfold m__law_pen
  refine calM (N := ["_law_cell"]) F hm hb sc__law_pen rfl fun cd A outer s H E hg hr => ?_
  exact (sx_one (sx_ret (ex_lst (ax_cons (ex_callB (call_max2D rfl) (by rfl) z_max (by decide +kernel) (ax_cons ex_int (ax_cons (ex_op op_subD (ex_var 0) (ex_op op_powD ex_int ex_int)) ax_nil))) (ax_cons (ex_op op_modD (ex_var 0) ex_int) (ax_cons ex_int ax_nil))))))
theorem p__law_pick {P : Program} {w : World} {K : PySem.W.Frag} {mg : Str → Option Value} {base : Heap} {f : Addr} {fd : FuncData} (F : Fun K "_law_pick" "_law_pick" st__law_pick f fd) (hm : mg "_law_pick" = some (.ref f)) (hb : Binds K fd ["_law_pen_here", "_law_things"] []) (c__law_draw : Cal P w K mg base 1 "_law_draw" 2 m__law_draw) (z_len : mg "len" = none) : Cal P w K mg base 2 "_law_pick" 2 m__law_pick := by
  unfold m__law_pick
  refine calM (N := ["_law_pen_here", "_law_things"]) F hm hb sc__law_pick rfl fun cd A outer s H E hg hr => ?_
  exact (sx_one (sx_ret (ex_ix ix_D (ex_var 1) (ex_call c__law_draw hg hr (by decide) rfl (ax_cons (ex_var 0) (ax_cons (ex_callB call_lenDD (by rfl) z_len (by decide +kernel) (ax_cons (ex_var 1) ax_nil)) ax_nil))))))
theorem p__law_same {P : Program} {w : World} {K : PySem.W.Frag} {mg : Str → Option Value} {base : Heap} {f : Addr} {fd : FuncData} (F : Fun K "_law_same" "_law_same" st__law_same f fd) (hm : mg "_law_same" = some (.ref f)) (hb : Binds K fd ["_law_found", "_law_due"] []) (z_repr : mg "repr" = none) : Cal P w K mg base 1 "_law_same" 2 m__law_same := by
  unfold m__law_same
  refine calM (N := ["_law_found", "_law_due"]) F hm hb sc__law_same rfl fun cd A outer s H E hg hr => ?_
  exact (sx_one (sx_ret (ex_cmp (op_eqDD hr) (ex_callB (call_reprDD hg hr) (by rfl) z_repr (by decide +kernel) (ax_cons (ex_var 0) ax_nil)) (ex_callB (call_reprDD hg hr) (by rfl) z_repr (by decide +kernel) (ax_cons (ex_var 1) ax_nil)) (nomark _))))
theorem p__law_whole {P : Program} {w : World} {K : PySem.W.Frag} {mg : Str → Option Value} {base : Heap} {f : Addr} {fd : FuncData} (F : Fun K "_law_whole" "_law_whole" st__law_whole f fd) (hm : mg "_law_whole" = some (.ref f)) (hb : Binds K fd ["_law_thing", "_law_low", "_law_high"] []) (z_bool : mg "bool" = none) (z_int : mg "int" = none) (z_isinstance : mg "isinstance" = none) : Cal P w K mg base 1 "_law_whole" 3 m__law_whole := by
  unfold m__law_whole
  refine calM (N := ["_law_thing", "_law_low", "_law_high"]) F hm hb sc__law_whole rfl fun cd A outer s H E hg hr => ?_
  exact (sx_one (sx_ret (ex_and (ex_callB call_isiDD (by rfl) z_isinstance (by decide +kernel) (ax_cons (ex_var 0) (ax_cons (ex_bty "int" (by rfl) z_int (by decide +kernel)) ax_nil))) (ex_and (ex_not (ex_callB call_isiDD (by rfl) z_isinstance (by decide +kernel) (ax_cons (ex_var 0) (ax_cons (ex_bty "bool" (by rfl) z_bool (by decide +kernel)) ax_nil)))) (ex_one (ex_chain op_leD op_leD (ex_var 1) (ex_var 0) (ex_var 2)))))))
theorem p_is_number {P : Program} {w : World} {K : PySem.W.Frag} {mg : Str → Option Value} {base : Heap} {f : Addr} {fd : FuncData} (F : Fun K "is_number" "is_number" st_is_number f fd) (hm : mg "is_number" = some (.ref f)) (hb : Binds K fd ["thing"] []) (z_bool : mg "bool" = none) (z_int : mg "int" = none) (z_isinstance : mg "isinstance" = none) : Cal P w K mg base 1 "is_number" 1 m_is_number := by
  unfold m_is_number
  refine calM (N := ["thing"]) F hm hb sc_is_number rfl fun cd A outer s H E hg hr => ?_
  exact (sx_one (sx_ret (ex_and (ex_callB call_isiDD (by rfl) z_isinstance (by decide +kernel) (ax_cons (ex_var 0) (ax_cons (ex_bty "int" (by rfl) z_int (by decide +kernel)) ax_nil))) (ex_one (ex_not (ex_callB call_isiDD (by rfl) z_isinstance (by decide +kernel) (ax_cons (ex_var 0) (ax_cons (ex_bty "bool" (by rfl) z_bool (by decide +kernel)) ax_nil))))))))
theorem p_is_within {P : Program} {w : World} {K : PySem.W.Frag} {mg : Str → Option Value} {base : Heap} {f : Addr} {fd : FuncData} (F : Fun K "is_within" "is_within" st_is_within f fd) (hm : mg "is_within" = some (.ref f)) (hb : Binds K fd ["thing", "low", "high"] []) (c_is_number : Cal P w K mg base 1 "is_number" 1 m_is_number) : Cal P w K mg base 2 "is_within" 3 m_is_within := by
  unfold m_is_within
  refine calM (N := ["thing", "low", "high"]) F hm hb sc_is_within rfl fun cd A outer s H E hg hr => ?_
  exact (sx_one (sx_ret (ex_and (ex_call c_is_number hg hr (by decide) rfl (ax_cons (ex_var 0) ax_nil)) (ex_one (ex_chain op_leD op_leD (ex_var 1) (ex_var 0) (ex_var 2))))))
theorem p_are_within {P : Program} {w : World} {K : PySem.W.Frag} {mg : Str → Option Value} {base : Heap} {f : Addr} {fd : FuncData} (F : Fun K "are_within" "are_within" st_are_within f fd) (hm : mg "are_within" = some (.ref f)) (hb : Binds K fd ["thing", "low", "high"] []) (c_is_within : Cal P w K mg base 2 "is_within" 3 m_is_within) (z_all : mg "all" = none) (z_isinstance : mg "isinstance" = none) (z_tuple : mg "tuple" = none) : Cal P w K mg base 3 "are_within" 3 m_are_within := by
  unfold m_are_within
  refine calM (N := ["thing", "low", "high", "one"]) F hm hb sc_are_within rfl fun cd A outer s H E hg hr => ?_
  exact (sx_one (sx_ret (ex_and (ex_callB call_isiDD (by rfl) z_isinstance (by decide +kernel) (ax_cons (ex_var 0) (ax_cons (ex_bty "tuple" (by rfl) z_tuple (by decide +kernel)) ax_nil))) (ex_one (ex_callB (call_allD rfl) (by rfl) z_all (by decide +kernel) (ax_cons (ex_lc rfl sc_are_within.nd (ix_seq' (ex_var 0)) (own := [("one", 3)]) (blkOk_by (by rfl)) (cg_name (i := 3) (by decide)) (fun _ _ _ _ _ => pg_name (i := 3) sc_are_within.nd rfl (by first | exact .inl rfl | exact .inr rfl) (by first | exact .inl rfl | exact .inr rfl)) (fun _ _ _ _ _ => (ex_call c_is_within hg hr (by decide) rfl (ax_cons (ex_var 3) (ax_cons (ex_var 1) (ax_cons (ex_var 2) ax_nil)))))) ax_nil))))))
theorem p_is_row {P : Program} {w : World} {K : PySem.W.Frag} {mg : Str → Option Value} {base : Heap} {f : Addr} {fd : FuncData} (F : Fun K "is_row" "is_row" st_is_row f fd) (hm : mg "is_row" = some (.ref f)) (hb : Binds K fd ["thing"] []) (c_are_within : Cal P w K mg base 3 "are_within" 3 m_are_within) (y_MOST_FRESH : ∃ u v, mg "MOST_FRESH" = some u ∧ RelV v u ∧ ∀ W, Rp K W v_MOST_FRESH v) : Cal P w K mg base 4 "is_row" 1 m_is_row := by
  obtain ⟨u_MOST_FRESH, w_MOST_FRESH, e_MOST_FRESH, r_MOST_FRESH, q_MOST_FRESH⟩ := y_MOST_FRESH
  unfold m_is_row
  refine calM (N := ["thing"]) F hm hb sc_is_row rfl fun cd A outer s H E hg hr => ?_
  exact (sx_one (sx_ret (ex_call c_are_within hg hr (by decide) rfl (ax_cons (ex_var 0) (ax_cons ex_int (ax_cons (ex_glob (by rfl) e_MOST_FRESH r_MOST_FRESH q_MOST_FRESH) ax_nil))))))
theorem p__law_right {P : Program} {w : World} {K : PySem.W.Frag} {mg : Str → Option Value} {base : Heap} {f : Addr} {fd : FuncData} (F : Fun K "_law_right" "_law_right" st__law_right f fd) (hm : mg "_law_right" = some (.ref f)) (hb : Binds K fd ["_law_thing"] []) (c__law_same : Cal P w K mg base 1 "_law_same" 2 m__law_same) (c__law_whole : Cal P w K mg base 1 "_law_whole" 3 m__law_whole) (c_is_row : Cal P w K mg base 4 "is_row" 1 m_is_row) (z_isinstance : mg "isinstance" = none) (z_repr : mg "repr" = none) (z_tuple : mg "tuple" = none) : Cal P w K mg base 5 "_law_right" 1 m__law_right := by
  unfold m__law_right
  refine calM (N := ["_law_thing", "_law_kept", "_law_due", "_law_one"]) F hm hb sc__law_right rfl fun cd A outer s H E hg hr => ?_
  exact (sx_seq (sx_set (i := 1) sc__law_right.nd (ex_callB (call_reprDD hg hr) (by rfl) z_repr (by decide +kernel) (ax_cons (ex_var 0) ax_nil)))
      (sx_seq (sx_set (i := 2) sc__law_right.nd (ex_and (ex_callB call_isiDD (by rfl) z_isinstance (by decide +kernel) (ax_cons (ex_var 0) (ax_cons (ex_bty "tuple" (by rfl) z_tuple (by decide +kernel)) ax_nil))) (ex_one (ex_cmp (op_eqDD hr) (ex_lcIf rfl sc__law_right.nd (ix_seq' (ex_var 0)) (own := [("_law_one", 3)]) (blkOk_by (by rfl)) (cg_name (i := 3) (by decide)) (fun _ _ _ _ _ => pg_name (i := 3) sc__law_right.nd rfl (by first | exact .inl rfl | exact .inr rfl) (by first | exact .inl rfl | exact .inr rfl)) (fun _ _ _ _ _ => (tx_not (tx_val (ex_call c__law_whole hg hr (by decide) rfl (ax_cons (ex_var 3) (ax_cons ex_int (ax_cons ex_int ax_nil))))))) (fun _ _ _ _ _ => ex_int)) (ex_lst ax_nil) (nomark _)))))
      (sx_one (sx_ret (ex_and (ex_call c__law_same hg hr (by decide) rfl (ax_cons (ex_lst (ax_cons (ex_call c_is_row hg hr (by decide) rfl (ax_cons (ex_var 0) ax_nil)) (ax_cons (ex_call c_is_row hg hr (by decide) rfl (ax_cons (ex_var 0) ax_nil)) ax_nil))) (ax_cons (ex_lst (ax_cons (ex_var 2) (ax_cons (ex_var 2) ax_nil))) ax_nil))) (ex_one (ex_cmp (op_eqDD hr) (ex_callB (call_reprDD hg hr) (by rfl) z_repr (by decide +kernel) (ax_cons (ex_var 0) ax_nil)) (ex_var 1) (nomark _))))))))
theorem p__law_row_of {P : Program} {w : World} {K : PySem.W.Frag} {mg : Str → Option Value} {base : Heap} {f : Addr} {fd : FuncData} (F : Fun K "_law_row_of" "_law_row_of" st__law_row_of f fd) (hm : mg "_law_row_of" = some (.ref f)) (hb : Binds K fd ["_law_pen_here", "_law_longest", "_law_most_here"] []) (c__law_draw : Cal P w K mg base 1 "_law_draw" 2 m__law_draw) (z_range : mg "range" = none) (z_tuple : mg "tuple" = none) : Cal P w K mg base 2 "_law_row_of" 3 m__law_row_of := by
  unfold m__law_row_of
  refine calM (N := ["_law_pen_here", "_law_longest", "_law_most_here", "_law_turn"]) F hm hb sc__law_row_of rfl fun cd A outer s H E hg hr => ?_
  exact (sx_one (sx_ret (ex_callTy call_tupleDD (by rfl) z_tuple (by decide +kernel) (ax_cons (ex_lc rfl sc__law_row_of.nd (ix_range1 (by rfl) z_range (ax_cons (ex_call c__law_draw hg hr (by decide) rfl (ax_cons (ex_var 0) (ax_cons (ex_op op_addD (ex_var 1) ex_int) ax_nil))) ax_nil)) (own := [("_law_turn", 3)]) (blkOk_by (by rfl)) (cg_name (i := 3) (by decide)) (fun _ _ _ _ _ => pg_name (i := 3) sc__law_row_of.nd rfl (by first | exact .inl rfl | exact .inr rfl) (by first | exact .inl rfl | exact .inr rfl)) (fun _ _ _ _ _ => (ex_call c__law_draw hg hr (by decide) rfl (ax_cons (ex_var 0) (ax_cons (ex_op op_addD (ex_var 2) ex_int) ax_nil))))) ax_nil))))
theorem p_law {P : Program} {w : World} {K : PySem.W.Frag} {mg : Str → Option Value} {base : Heap} {f : Addr} {fd : FuncData} (F : Fun K "law" "law" st_law f fd) (c__law_cell_at : Cal P w K mg base 1 "_law_cell_at" 2 m__law_cell_at) (c__law_draw : Cal P w K mg base 1 "_law_draw" 2 m__law_draw) (c__law_odds : Cal P w K mg base 1 "_law_odds" 0 m__law_odds) (c__law_pen : Cal P w K mg base 1 "_law_pen" 1 m__law_pen) (c__law_pick : Cal P w K mg base 2 "_law_pick" 2 m__law_pick) (c__law_right : Cal P w K mg base 5 "_law_right" 1 m__law_right) (c__law_row_of : Cal P w K mg base 2 "_law_row_of" 3 m__law_row_of) (z_len : mg "len" = none) (z_list : mg "list" = none) (z_max : mg "max" = none) (z_min : mg "min" = none) (z_range : mg "range" = none) : FnG P w K mg base CX0 6 f fd ["_law_script"] (spM K 1 m_law) := by
  unfold m_law
  refine fnM (N := ["_law_script", "_law_thing", "_law_k", "_law_pen_here", "_law_lap", "_law_row", "_law_at", "_law_things", "_law_bad"]) F sc_law fun cd A outer s H E hg hr => ?_
  exact (sx_seq (sx_for PassesOwn.never rfl (ix_seq' (ex_op op_addD (ex_call0 c__law_odds hg hr (by decide) rfl) (ex_lst (ax_cons (ex_op op_mulD (ex_tup (ax_cons ex_int ax_nil)) ex_int) (ax_cons (ex_op op_mulD (ex_tup (ax_cons ex_int ax_nil)) ex_int) (ax_cons (ex_op op_mulD (ex_tup (ax_cons ex_int ax_nil)) ex_int) (ax_cons (ex_tup (ax_cons ex_int ax_nil)) (ax_cons (ex_tup (ax_cons ex_int (ax_cons (ex_un un_negD ex_int) ax_nil))) (ax_cons ex_str (ax_cons (ex_tup (ax_cons ex_int (ax_cons ex_non ax_nil))) (ax_cons (ex_tup (ax_cons (ex_tup (ax_cons ex_int ax_nil)) (ax_cons ex_int ax_nil))) ax_nil))))))))))) (gx_name (i := 1) sc_law.nd) (sx_one (sx_if (tx_not (tx_val (ex_call c__law_right hg hr (by decide) rfl (ax_cons (ex_var 1) ax_nil)))) (sx_one (sx_ret ex_bl)) sx_done)))
      (sx_seq (sx_for PassesOwn.never rfl (ix_range1 (by rfl) z_range (ax_cons (ex_callB (call_max2D rfl) (by rfl) z_max (by decide +kernel) (ax_cons ex_int (ax_cons (ex_callB (call_min2D rfl) (by rfl) z_min (by decide +kernel) (ax_cons (ex_callB call_lenDD (by rfl) z_len (by decide +kernel) (ax_cons (ex_var 0) ax_nil)) (ax_cons ex_int ax_nil))) ax_nil))) ax_nil)) (gx_name (i := 2) sc_law.nd) (sx_seq (sx_set (i := 3) sc_law.nd (ex_call c__law_pen hg hr (by decide) rfl (ax_cons (ex_call c__law_cell_at hg hr (by decide) rfl (ax_cons (ex_var 0) (ax_cons (ex_var 2) ax_nil))) ax_nil)))
      (sx_one (sx_for PassesOwn.never rfl (ix_range1 (by rfl) z_range (ax_cons ex_int ax_nil)) (gx_name (i := 4) sc_law.nd) (sx_seq (sx_set (i := 5) sc_law.nd (ex_call c__law_row_of hg hr (by decide) rfl (ax_cons (ex_var 3) (ax_cons ex_int (ax_cons (ex_call c__law_pick hg hr (by decide) rfl (ax_cons (ex_var 3) (ax_cons (ex_lst (ax_cons ex_int (ax_cons ex_int (ax_cons ex_int ax_nil)))) ax_nil))) ax_nil)))))
      (sx_seq (sx_set (i := 6) sc_law.nd (ex_call c__law_draw hg hr (by decide) rfl (ax_cons (ex_var 3) (ax_cons (ex_op op_addD (ex_callB call_lenDD (by rfl) z_len (by decide +kernel) (ax_cons (ex_var 5) ax_nil)) ex_int) ax_nil))))
      (sx_seq (sx_set (i := 7) sc_law.nd (ex_lst (ax_cons (ex_var 5) (ax_cons (ex_callTy call_listDD (by rfl) z_list (by decide +kernel) (ax_cons (ex_var 5) ax_nil)) (ax_cons (ex_tup (ax_cons (ex_var 5) ax_nil)) (ax_cons (ex_op op_addD (ex_var 5) (ex_tup (ax_cons ex_int ax_nil))) (ax_cons (ex_op op_addD (ex_tup (ax_cons (ex_un un_negD ex_int) ax_nil)) (ex_var 5)) (ax_cons (ex_op op_mulD (ex_var 5) ex_int) ax_nil))))))))
      (sx_seq (sx_set (i := 7) sc_law.nd (ex_op op_addD (ex_var 7) (ex_lc rfl sc_law.nd (ix_seq' (ex_op op_addD (ex_call0 c__law_odds hg hr (by decide) rfl) (ex_lst (ax_cons ex_int (ax_cons ex_int (ax_cons (ex_un un_negD ex_int) (ax_cons ex_str ax_nil))))))) (own := [("_law_bad", 8)]) (blkOk_by (by rfl)) (cg_name (i := 8) (by decide)) (fun _ _ _ _ _ => pg_name (i := 8) sc_law.nd rfl (by first | exact .inl rfl | exact .inr rfl) (by first | exact .inl rfl | exact .inr rfl)) (fun _ _ _ _ _ => (ex_op op_addD (ex_op op_addD (ex_slice sl_D (ex_var 5) ox_none (ox_some (ex_var 6))) (ex_tup (ax_cons (ex_var 8) ax_nil))) (ex_slice sl_D (ex_var 5) (ox_some (ex_var 6)) ox_none))))))
      (sx_one (sx_if (tx_cmp (op_neDD hr) (ex_lcIf rfl sc_law.nd (ix_seq' (ex_var 7)) (own := [("_law_thing", 1)]) (blkOk_by (by rfl)) (cg_name (i := 1) (by decide)) (fun _ _ _ _ _ => pg_name (i := 1) sc_law.nd rfl (by first | exact .inl rfl | exact .inr rfl) (by first | exact .inl rfl | exact .inr rfl)) (fun _ _ _ _ _ => (tx_not (tx_val (ex_call c__law_right hg hr (by decide) rfl (ax_cons (ex_var 1) ax_nil))))) (fun _ _ _ _ _ => ex_int)) (ex_lst ax_nil) (nomark _)) (sx_one (sx_ret ex_bl)) sx_done))))))))))
      (sx_one (sx_ret ex_bl))))
theorem all_mk {l : PySem.W.OpenLaw} {w : World} {K : PySem.W.Frag} {h : Heap} {mg : Str → Option Value} {fa : Addr} (X : K.In h) (G : h.Ns mainGlobals mg) (hfa : mg "law" = some (.ref fa))
    {f0 : Addr} {od0 an0 : Option Addr} {sl0 : Array (Option Value)} {oc0 kV0 dc0 pm0 cd0 ct0 : Value}
    (a0 : PySem.W.nsIn K mainGlobals "_law_cell_at" = some (some (.ref f0))) (l0 : K.lookup f0 = some ⟨oc0, od0, .func (PySem.W.fnOf "_law_cell_at" "_law_cell_at" (defArgs st__law_cell_at) (defBody st__law_cell_at) (defScope st__law_cell_at) .none kV0 dc0 pm0 an0 cd0 ct0), sl0⟩) (i0 : PySem.W.codeIn K cd0 "_law_cell_at" = true) (k0 : PySem.W.keepIn K (.ref f0) = true)
    {f1 : Addr} {od1 an1 : Option Addr} {sl1 : Array (Option Value)} {oc1 kV1 dc1 pm1 cd1 ct1 : Value}
    (a1 : PySem.W.nsIn K mainGlobals "_law_draw" = some (some (.ref f1))) (l1 : K.lookup f1 = some ⟨oc1, od1, .func (PySem.W.fnOf "_law_draw" "_law_draw" (defArgs st__law_draw) (defBody st__law_draw) (defScope st__law_draw) .none kV1 dc1 pm1 an1 cd1 ct1), sl1⟩) (i1 : PySem.W.codeIn K cd1 "_law_draw" = true) (k1 : PySem.W.keepIn K (.ref f1) = true)
    {f2 : Addr} {od2 an2 : Option Addr} {sl2 : Array (Option Value)} {oc2 kV2 dc2 pm2 cd2 ct2 : Value}
    (a2 : PySem.W.nsIn K mainGlobals "_law_odds" = some (some (.ref f2))) (l2 : K.lookup f2 = some ⟨oc2, od2, .func (PySem.W.fnOf "_law_odds" "_law_odds" (defArgs st__law_odds) (defBody st__law_odds) (defScope st__law_odds) .none kV2 dc2 pm2 an2 cd2 ct2), sl2⟩) (i2 : PySem.W.codeIn K cd2 "_law_odds" = true) (k2 : PySem.W.keepIn K (.ref f2) = true)
    {f3 : Addr} {od3 an3 : Option Addr} {sl3 : Array (Option Value)} {oc3 kV3 dc3 pm3 cd3 ct3 : Value}
    (a3 : PySem.W.nsIn K mainGlobals "_law_pen" = some (some (.ref f3))) (l3 : K.lookup f3 = some ⟨oc3, od3, .func (PySem.W.fnOf "_law_pen" "_law_pen" (defArgs st__law_pen) (defBody st__law_pen) (defScope st__law_pen) .none kV3 dc3 pm3 an3 cd3 ct3), sl3⟩) (i3 : PySem.W.codeIn K cd3 "_law_pen" = true) (k3 : PySem.W.keepIn K (.ref f3) = true)
    {f4 : Addr} {od4 an4 : Option Addr} {sl4 : Array (Option Value)} {oc4 kV4 dc4 pm4 cd4 ct4 : Value}
    (a4 : PySem.W.nsIn K mainGlobals "_law_pick" = some (some (.ref f4))) (l4 : K.lookup f4 = some ⟨oc4, od4, .func (PySem.W.fnOf "_law_pick" "_law_pick" (defArgs st__law_pick) (defBody st__law_pick) (defScope st__law_pick) .none kV4 dc4 pm4 an4 cd4 ct4), sl4⟩) (i4 : PySem.W.codeIn K cd4 "_law_pick" = true) (k4 : PySem.W.keepIn K (.ref f4) = true)
    {f5 : Addr} {od5 an5 : Option Addr} {sl5 : Array (Option Value)} {oc5 kV5 dc5 pm5 cd5 ct5 : Value}
    (a5 : PySem.W.nsIn K mainGlobals "_law_same" = some (some (.ref f5))) (l5 : K.lookup f5 = some ⟨oc5, od5, .func (PySem.W.fnOf "_law_same" "_law_same" (defArgs st__law_same) (defBody st__law_same) (defScope st__law_same) .none kV5 dc5 pm5 an5 cd5 ct5), sl5⟩) (i5 : PySem.W.codeIn K cd5 "_law_same" = true) (k5 : PySem.W.keepIn K (.ref f5) = true)
    {f6 : Addr} {od6 an6 : Option Addr} {sl6 : Array (Option Value)} {oc6 kV6 dc6 pm6 cd6 ct6 : Value}
    (a6 : PySem.W.nsIn K mainGlobals "_law_whole" = some (some (.ref f6))) (l6 : K.lookup f6 = some ⟨oc6, od6, .func (PySem.W.fnOf "_law_whole" "_law_whole" (defArgs st__law_whole) (defBody st__law_whole) (defScope st__law_whole) .none kV6 dc6 pm6 an6 cd6 ct6), sl6⟩) (i6 : PySem.W.codeIn K cd6 "_law_whole" = true) (k6 : PySem.W.keepIn K (.ref f6) = true)
    {f7 : Addr} {od7 an7 : Option Addr} {sl7 : Array (Option Value)} {oc7 kV7 dc7 pm7 cd7 ct7 : Value}
    (a7 : PySem.W.nsIn K mainGlobals "is_number" = some (some (.ref f7))) (l7 : K.lookup f7 = some ⟨oc7, od7, .func (PySem.W.fnOf "is_number" "is_number" (defArgs st_is_number) (defBody st_is_number) (defScope st_is_number) .none kV7 dc7 pm7 an7 cd7 ct7), sl7⟩) (i7 : PySem.W.codeIn K cd7 "is_number" = true) (k7 : PySem.W.keepIn K (.ref f7) = true)
    {f8 : Addr} {od8 an8 : Option Addr} {sl8 : Array (Option Value)} {oc8 kV8 dc8 pm8 cd8 ct8 : Value}
    (a8 : PySem.W.nsIn K mainGlobals "is_within" = some (some (.ref f8))) (l8 : K.lookup f8 = some ⟨oc8, od8, .func (PySem.W.fnOf "is_within" "is_within" (defArgs st_is_within) (defBody st_is_within) (defScope st_is_within) .none kV8 dc8 pm8 an8 cd8 ct8), sl8⟩) (i8 : PySem.W.codeIn K cd8 "is_within" = true) (k8 : PySem.W.keepIn K (.ref f8) = true)
    {f9 : Addr} {od9 an9 : Option Addr} {sl9 : Array (Option Value)} {oc9 kV9 dc9 pm9 cd9 ct9 : Value}
    (a9 : PySem.W.nsIn K mainGlobals "are_within" = some (some (.ref f9))) (l9 : K.lookup f9 = some ⟨oc9, od9, .func (PySem.W.fnOf "are_within" "are_within" (defArgs st_are_within) (defBody st_are_within) (defScope st_are_within) .none kV9 dc9 pm9 an9 cd9 ct9), sl9⟩) (i9 : PySem.W.codeIn K cd9 "are_within" = true) (k9 : PySem.W.keepIn K (.ref f9) = true)
    {f10 : Addr} {od10 an10 : Option Addr} {sl10 : Array (Option Value)} {oc10 kV10 dc10 pm10 cd10 ct10 : Value}
    (a10 : PySem.W.nsIn K mainGlobals "is_row" = some (some (.ref f10))) (l10 : K.lookup f10 = some ⟨oc10, od10, .func (PySem.W.fnOf "is_row" "is_row" (defArgs st_is_row) (defBody st_is_row) (defScope st_is_row) .none kV10 dc10 pm10 an10 cd10 ct10), sl10⟩) (i10 : PySem.W.codeIn K cd10 "is_row" = true) (k10 : PySem.W.keepIn K (.ref f10) = true)
    {f11 : Addr} {od11 an11 : Option Addr} {sl11 : Array (Option Value)} {oc11 kV11 dc11 pm11 cd11 ct11 : Value}
    (a11 : PySem.W.nsIn K mainGlobals "_law_right" = some (some (.ref f11))) (l11 : K.lookup f11 = some ⟨oc11, od11, .func (PySem.W.fnOf "_law_right" "_law_right" (defArgs st__law_right) (defBody st__law_right) (defScope st__law_right) .none kV11 dc11 pm11 an11 cd11 ct11), sl11⟩) (i11 : PySem.W.codeIn K cd11 "_law_right" = true) (k11 : PySem.W.keepIn K (.ref f11) = true)
    {f12 : Addr} {od12 an12 : Option Addr} {sl12 : Array (Option Value)} {oc12 kV12 dc12 pm12 cd12 ct12 : Value}
    (a12 : PySem.W.nsIn K mainGlobals "_law_row_of" = some (some (.ref f12))) (l12 : K.lookup f12 = some ⟨oc12, od12, .func (PySem.W.fnOf "_law_row_of" "_law_row_of" (defArgs st__law_row_of) (defBody st__law_row_of) (defScope st__law_row_of) .none kV12 dc12 pm12 an12 cd12 ct12), sl12⟩) (i12 : PySem.W.codeIn K cd12 "_law_row_of" = true) (k12 : PySem.W.keepIn K (.ref f12) = true)
    {f13 : Addr} {od13 an13 : Option Addr} {sl13 : Array (Option Value)} {oc13 kV13 dc13 pm13 cd13 ct13 : Value}
    (a13 : PySem.W.nsIn K mainGlobals "law" = some (some (.ref f13))) (l13 : K.lookup f13 = some ⟨oc13, od13, .func (PySem.W.fnOf "law" "law" (defArgs st_law) (defBody st_law) (defScope st_law) .none kV13 dc13 pm13 an13 cd13 ct13), sl13⟩) (i13 : PySem.W.codeIn K cd13 "law" = true) (k13 : PySem.W.keepIn K (.ref f13) = true)
    (z_all : PySem.W.nsIn K mainGlobals "all" = some none)
    (z_bool : PySem.W.nsIn K mainGlobals "bool" = some none)
    (z_int : PySem.W.nsIn K mainGlobals "int" = some none)
    (z_isinstance : PySem.W.nsIn K mainGlobals "isinstance" = some none)
    (z_len : PySem.W.nsIn K mainGlobals "len" = some none)
    (z_list : PySem.W.nsIn K mainGlobals "list" = some none)
    (z_max : PySem.W.nsIn K mainGlobals "max" = some none)
    (z_min : PySem.W.nsIn K mainGlobals "min" = some none)
    (z_range : PySem.W.nsIn K mainGlobals "range" = some none)
    (z_repr : PySem.W.nsIn K mainGlobals "repr" = some none)
    (z_tuple : PySem.W.nsIn K mainGlobals "tuple" = some none)
    {gu_MOST_FRESH : Value} (ya_MOST_FRESH : PySem.W.nsIn K mainGlobals "MOST_FRESH" = some (some gu_MOST_FRESH)) (yb_MOST_FRESH : valOk v_MOST_FRESH gu_MOST_FRESH = true)
    : ∃ fd : FuncData, (∀ (s : Shared) (v : Value), BindsTo s fd ⟨[v], []⟩ [("_law_script", v)]) ∧ ∀ base : Heap, K.In base → base.Ns mainGlobals mg → FnG l.prog w K mg base CX0 6 fa fd ["_law_script"] (spM K 1 m_law) := by
  have F0 := fun_mk (st := st__law_cell_at) l0 i0 k0
  have B0 := F0.binds (ps := ["_law_script", "_law_k"]) fun _ _ _ _ _ _ us hl => match us, hl with | [_, _], _ => rfl
  have F1 := fun_mk (st := st__law_draw) l1 i1 k1
  have B1 := F1.binds (ps := ["_law_pen_here", "_law_many"]) fun _ _ _ _ _ _ us hl => match us, hl with | [_, _], _ => rfl
  have F2 := fun_mk (st := st__law_odds) l2 i2 k2
  have B2 := F2.binds (ps := []) fun _ _ _ _ _ _ us hl => match us, hl with | [], _ => rfl
  have F3 := fun_mk (st := st__law_pen) l3 i3 k3
  have B3 := F3.binds (ps := ["_law_cell"]) fun _ _ _ _ _ _ us hl => match us, hl with | [_], _ => rfl
  have F4 := fun_mk (st := st__law_pick) l4 i4 k4
  have B4 := F4.binds (ps := ["_law_pen_here", "_law_things"]) fun _ _ _ _ _ _ us hl => match us, hl with | [_, _], _ => rfl
  have F5 := fun_mk (st := st__law_same) l5 i5 k5
  have B5 := F5.binds (ps := ["_law_found", "_law_due"]) fun _ _ _ _ _ _ us hl => match us, hl with | [_, _], _ => rfl
  have F6 := fun_mk (st := st__law_whole) l6 i6 k6
  have B6 := F6.binds (ps := ["_law_thing", "_law_low", "_law_high"]) fun _ _ _ _ _ _ us hl => match us, hl with | [_, _, _], _ => rfl
  have F7 := fun_mk (st := st_is_number) l7 i7 k7
  have B7 := F7.binds (ps := ["thing"]) fun _ _ _ _ _ _ us hl => match us, hl with | [_], _ => rfl
  have F8 := fun_mk (st := st_is_within) l8 i8 k8
  have B8 := F8.binds (ps := ["thing", "low", "high"]) fun _ _ _ _ _ _ us hl => match us, hl with | [_, _, _], _ => rfl
  have F9 := fun_mk (st := st_are_within) l9 i9 k9
  have B9 := F9.binds (ps := ["thing", "low", "high"]) fun _ _ _ _ _ _ us hl => match us, hl with | [_, _, _], _ => rfl
  have F10 := fun_mk (st := st_is_row) l10 i10 k10
  have B10 := F10.binds (ps := ["thing"]) fun _ _ _ _ _ _ us hl => match us, hl with | [_], _ => rfl
  have F11 := fun_mk (st := st__law_right) l11 i11 k11
  have B11 := F11.binds (ps := ["_law_thing"]) fun _ _ _ _ _ _ us hl => match us, hl with | [_], _ => rfl
  have F12 := fun_mk (st := st__law_row_of) l12 i12 k12
  have B12 := F12.binds (ps := ["_law_pen_here", "_law_longest", "_law_most_here"]) fun _ _ _ _ _ _ us hl => match us, hl with | [_, _, _], _ => rfl
  have F13 := fun_mk (st := st_law) l13 i13 k13
  have B13 := F13.binds (ps := ["_law_script"]) fun _ _ _ _ _ _ us hl => match us, hl with | [_], _ => rfl
  have Z_all := PySem.W.mg_none_of X G z_all
  have Z_bool := PySem.W.mg_none_of X G z_bool
  have Z_int := PySem.W.mg_none_of X G z_int
  have Z_isinstance := PySem.W.mg_none_of X G z_isinstance
  have Z_len := PySem.W.mg_none_of X G z_len
  have Z_list := PySem.W.mg_none_of X G z_list
  have Z_max := PySem.W.mg_none_of X G z_max
  have Z_min := PySem.W.mg_none_of X G z_min
  have Z_range := PySem.W.mg_none_of X G z_range
  have Z_repr := PySem.W.mg_none_of X G z_repr
  have Z_tuple := PySem.W.mg_none_of X G z_tuple
  have Y_MOST_FRESH := glob_val (K := K) (d := v_MOST_FRESH) (PySem.W.mg_of X G ya_MOST_FRESH) yb_MOST_FRESH
  have ef := hfa.symm.trans (PySem.W.mg_of X G a13)
  cases ef
  refine ⟨PySem.W.fnOf "law" "law" (defArgs st_law) (defBody st_law) (defScope st_law) .none kV13 dc13 pm13 an13 cd13 ct13, fun s v => .of_eq rfl, fun base _ _ => ?_⟩
  have c__law_cell_at := p__law_cell_at (P := l.prog) (w := w) (base := base) F0 (PySem.W.mg_of X G a0) B0 Z_len
  have c__law_draw := p__law_draw (P := l.prog) (w := w) (base := base) F1 (PySem.W.mg_of X G a1) B1
  have c__law_odds := p__law_odds (P := l.prog) (w := w) (base := base) F2 (PySem.W.mg_of X G a2) B2
  have c__law_pen := p__law_pen (P := l.prog) (w := w) (base := base) F3 (PySem.W.mg_of X G a3) B3 Z_max
  have c__law_pick := p__law_pick (P := l.prog) (w := w) (base := base) F4 (PySem.W.mg_of X G a4) B4 c__law_draw Z_len
  have c__law_same := p__law_same (P := l.prog) (w := w) (base := base) F5 (PySem.W.mg_of X G a5) B5 Z_repr
  have c__law_whole := p__law_whole (P := l.prog) (w := w) (base := base) F6 (PySem.W.mg_of X G a6) B6 Z_bool Z_int Z_isinstance
  have c_is_number := p_is_number (P := l.prog) (w := w) (base := base) F7 (PySem.W.mg_of X G a7) B7 Z_bool Z_int Z_isinstance
  have c_is_within := p_is_within (P := l.prog) (w := w) (base := base) F8 (PySem.W.mg_of X G a8) B8 c_is_number
  have c_are_within := p_are_within (P := l.prog) (w := w) (base := base) F9 (PySem.W.mg_of X G a9) B9 c_is_within Z_all Z_isinstance Z_tuple
  have c_is_row := p_is_row (P := l.prog) (w := w) (base := base) F10 (PySem.W.mg_of X G a10) B10 c_are_within Y_MOST_FRESH
  have c__law_right := p__law_right (P := l.prog) (w := w) (base := base) F11 (PySem.W.mg_of X G a11) B11 c__law_same c__law_whole c_is_row Z_isinstance Z_repr Z_tuple
  have c__law_row_of := p__law_row_of (P := l.prog) (w := w) (base := base) F12 (PySem.W.mg_of X G a12) B12 c__law_draw Z_range Z_tuple
  exact p_law (P := l.prog) (w := w) (base := base) F13 c__law_cell_at c__law_draw c__law_odds c__law_pen c__law_pick c__law_right c__law_row_of Z_len Z_list Z_max Z_min Z_range
end Tx

open PySem PySem.W PyProof.Rows
set_option maxHeartbeats 0 in
theorem PySem.Challenge.cw_comesback_k07_rows_known_holds : PySem.Challenge.rw_comesback_k07_rows_known.Holds := by
  w_on; o_law; k_head; (case hw => w_witness2)
  k_fill
  refine Qm.endM (l := PySem.Challenge.rw_comesback_k07_rows_known) (n := 63) (k := 6) (x := "_law_script") (m := Tx.m_law) rfl (by decide) rfl ⟨rfl, by decide, by decide⟩ (fun w h Y => PySem.W.kIn_of Y) ?F ?lawtrue
  case lawtrue => exact Tx.law_true
  case F =>
    intro w mg fa h KX G hmg
    refine' Tx.all_mk KX G hmg ?a0 ?l0 ?i0 ?k0 ?a1 ?l1 ?i1 ?k1 ?a2 ?l2 ?i2 ?k2 ?a3 ?l3 ?i3 ?k3 ?a4 ?l4 ?i4 ?k4 ?a5 ?l5 ?i5 ?k5 ?a6 ?l6 ?i6 ?k6 ?a7 ?l7 ?i7 ?k7 ?a8 ?l8 ?i8 ?k8 ?a9 ?l9 ?i9 ?k9 ?a10 ?l10 ?i10 ?k10 ?a11 ?l11 ?i11 ?k11 ?a12 ?l12 ?i12 ?k12 ?a13 ?l13 ?i13 ?k13 ?z_all ?z_bool ?z_int ?z_isinstance ?z_len ?z_list ?z_max ?z_min ?z_range ?z_repr ?z_tuple ?ya_MOST_FRESH ?yb_MOST_FRESH
    (case a0 => k_is); (case l0 => k_is); (case i0 => k_is); (case k0 => k_is); (case a1 => k_is); (case l1 => k_is); (case i1 => k_is); (case k1 => k_is); (case a2 => k_is); (case l2 => k_is); (case i2 => k_is); (case k2 => k_is); (case a3 => k_is); (case l3 => k_is); (case i3 => k_is); (case k3 => k_is); (case a4 => k_is); (case l4 => k_is); (case i4 => k_is); (case k4 => k_is); (case a5 => k_is); (case l5 => k_is); (case i5 => k_is); (case k5 => k_is); (case a6 => k_is); (case l6 => k_is); (case i6 => k_is); (case k6 => k_is); (case a7 => k_is); (case l7 => k_is); (case i7 => k_is); (case k7 => k_is); (case a8 => k_is); (case l8 => k_is); (case i8 => k_is); (case k8 => k_is); (case a9 => k_is); (case l9 => k_is); (case i9 => k_is); (case k9 => k_is); (case a10 => k_is); (case l10 => k_is); (case i10 => k_is); (case k10 => k_is); (case a11 => k_is); (case l11 => k_is); (case i11 => k_is); (case k11 => k_is); (case a12 => k_is); (case l12 => k_is); (case i12 => k_is); (case k12 => k_is); (case a13 => k_is); (case l13 => k_is); (case i13 => k_is); (case k13 => k_is); (case z_all => k_is); (case z_bool => k_is); (case z_int => k_is); (case z_isinstance => k_is); (case z_len => k_is); (case z_list => k_is); (case z_max => k_is); (case z_min => k_is); (case z_range => k_is); (case z_repr => k_is); (case z_tuple => k_is); (case ya_MOST_FRESH => k_is); (case yb_MOST_FRESH => exact rfl)

