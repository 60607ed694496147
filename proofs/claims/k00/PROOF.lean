import PyProof.Rows.All
import Wide.All
import OpenK.AllK
import Wide.FinOn
import PyProof.EqAt
import PyProof.EqKinds
import PyProof.TupleCall
import HandS.ForMost
import HandS.ForExc
import HandS.Evl
import HandS.Deep
import HandS.IsInst
import HandS.CallSlots
import HandS.Property
import HandS.ExcInit
import HandS.ExcField
import HandS.ExcIs
import HandS.OwnEq
import HandS.TupAny
import HandS.Defaults
import HandS.ExcCtx
import HandS.HotCalls
import HandS.ExcInitHot
import HandS.Head0
import HandS.Head1
import HandS.Head2
import HandS.HeadEnd
import HandS.HeadHook1
import HandS.HeadHook2
import KE.KExcInit
import PySem.Challenge.RW_pagesonce_k00_errors
set_option Elab.async false
set_option linter.all false
set_option maxRecDepth 100000
set_option maxHeartbeats 4000000
namespace DI
open PySem PySem.Spec PyProof.Rows L2

/-- plain data: what a value stands for, without addresses -/
inductive D where
  | non
  | bl (b : Bool)
  | int (i : Int)
  | str (s : Str)
  | lst (xs : List D)
  | fls (xs : List D)
  | tup (xs : List D)
  | obj (C : Str) (fs : List (Str × D))

/-- the written part, and where the own classes stand -/
structure Kc where
  K : PySem.W.Frag
  cl : Str → Option Addr

mutual
/-- v stands for d in the heap H -/
inductive Rp (K : Kc) (H : Hp) : V → D → Prop
  | non : Rp K H .non .non
  | bl (b : Bool) : Rp K H (.bl b) (.bl b)
  | int (i : Int) : Rp K H (.int i) (.int i)
  | str (x : Str) : Rp K H (.str x) (.str x)
  | lst {a : Addr} {xs : List V} {ds : List D} : H a = some (.lst xs) → RpA K H xs ds → Rp K H (.ref a) (.lst ds)
  | fls {a : Addr} {xs : List V} {ds : List D} : SqL K.K H a xs → RpA K H xs ds → Rp K H (.ref a) (.fls ds)
  | tup {a : Addr} {xs : List V} {ds : List D} : SqT K.K H a xs → RpA K H xs ds → Rp K H (.ref a) (.tup ds)
  | obj {a C dx : Addr} {c : Str} {fs : List (Str × V)} {gs : List (Str × D)} : K.cl c = some C → H a = some (.ins C dx fs) → RpF K H fs gs → Rp K H (.ref a) (.obj c gs)
inductive RpA (K : Kc) (H : Hp) : List V → List D → Prop
  | nil : RpA K H [] []
  | cons {v : V} {vs : List V} {d : D} {ds : List D} : Rp K H v d → RpA K H vs ds → RpA K H (v :: vs) (d :: ds)
inductive RpF (K : Kc) (H : Hp) : List (Str × V) → List (Str × D) → Prop
  | nil : RpF K H [] []
  | cons {x : Str} {v : V} {fs : List (Str × V)} {d : D} {gs : List (Str × D)} : Rp K H v d → RpF K H fs gs → RpF K H ((x, v) :: fs) ((x, d) :: gs)
end

abbrev Ex := Evl.Ex

section
variable {K : Kc} {H H' : Hp}
mutual
theorem Rp.mono (e : Ex H H') : ∀ {d : D} {v : V}, Rp K H v d → Rp K H' v d
  | .non, _, h => by cases h; exact .non
  | .bl b, _, h => by cases h; exact .bl b
  | .int i, _, h => by cases h; exact .int i
  | .str x, _, h => by cases h; exact .str x
  | .lst ds, _, h => by cases h with | lst a b => exact .lst (e _ _ a) (RpA.mono e b)
  | .fls ds, _, h => by cases h with | fls a b => exact .fls (Evl.ex_l e a) (RpA.mono e b)
  | .tup ds, _, h => by cases h with | tup a b => exact .tup (Evl.ex_t e a) (RpA.mono e b)
  | .obj C gs, _, h => by cases h with | obj z a b => exact .obj z (e _ _ a) (RpF.mono e b)
theorem RpA.mono (e : Ex H H') : ∀ {ds : List D} {vs : List V}, RpA K H vs ds → RpA K H' vs ds
  | [], _, h => by cases h; exact .nil
  | d :: ds, _, h => by cases h with | cons a b => exact .cons (Rp.mono e a) (RpA.mono e b)
theorem RpF.mono (e : Ex H H') : ∀ {gs : List (Str × D)} {fs : List (Str × V)}, RpF K H fs gs → RpF K H' fs gs
  | [], _, h => by cases h; exact .nil
  | (x, d) :: gs, _, h => by cases h with | cons a b => exact .cons (Rp.mono e a) (RpF.mono e b)
end
theorem RpA.length : ∀ {ds : List D} {vs : List V}, RpA K H vs ds → vs.length = ds.length
  | [], _, h => by cases h; rfl
  | d :: ds, _, h => by cases h with | cons a b => simp [RpA.length b]
theorem RpA.get : ∀ {ds : List D} {vs : List V} {i : Nat} {d : D}, RpA K H vs ds → ds[i]? = some d → ∃ v, vs[i]? = some v ∧ Rp K H v d
  | [], _, _, _, _, e => by simp at e
  | d :: ds, _, 0, _, h, e => by
    cases h with | cons a b => simp at e; subst e; exact ⟨_, rfl, a⟩
  | d :: ds, _, i + 1, _, h, e => by
    cases h with | cons a b =>
      obtain ⟨v, h1, h2⟩ := RpA.get (i := i) b (by simpa using e)
      exact ⟨v, by simpa using h1, h2⟩
theorem RpA.get' : ∀ {ds : List D} {vs : List V} {i : Nat} {v : V}, RpA K H vs ds → vs[i]? = some v → ∃ d, ds[i]? = some d ∧ Rp K H v d
  | [], _, _, _, h, e => by cases h; simp at e
  | d :: ds, _, 0, _, h, e => by
    cases h with | cons a b => simp at e; subst e; exact ⟨_, rfl, a⟩
  | d :: ds, _, i + 1, _, h, e => by
    cases h with | cons a b =>
      obtain ⟨v, h1, h2⟩ := RpA.get' (i := i) b (by simpa using e)
      exact ⟨v, by simpa using h1, h2⟩
theorem RpA.append : ∀ {ds es : List D} {vs ws : List V}, RpA K H vs ds → RpA K H ws es → RpA K H (vs ++ ws) (ds ++ es)
  | [], _, _, _, h, g => by cases h; exact g
  | d :: ds, _, _, _, h, g => by cases h with | cons a b => exact .cons a (RpA.append b g)
theorem RpA.take : ∀ {ds : List D} {vs : List V} (n : Nat), RpA K H vs ds → RpA K H (vs.take n) (ds.take n)
  | _, _, 0, _ => by simpa using .nil
  | [], _, n + 1, h => by cases h; exact .nil
  | d :: ds, _, n + 1, h => by cases h with | cons a b => exact .cons a (RpA.take n b)
theorem RpA.drop : ∀ {ds : List D} {vs : List V} (n : Nat), RpA K H vs ds → RpA K H (vs.drop n) (ds.drop n)
  | _, _, 0, h => by simpa using h
  | [], _, n + 1, h => by cases h; exact .nil
  | d :: ds, _, n + 1, h => by cases h with | cons a b => exact RpA.drop n b
theorem RpA.set {d : D} {v : V} (r : Rp K H v d) : ∀ {ds : List D} {vs : List V} (n : Nat), RpA K H vs ds → RpA K H (vs.set n v) (ds.set n d)
  | [], _, _, h => by cases h; exact .nil
  | e :: ds, _, 0, h => by cases h with | cons a b => exact .cons r b
  | e :: ds, _, n + 1, h => by cases h with | cons a b => exact .cons a (RpA.set r n b)
theorem RpF.lookup {x : Str} {d : D} : ∀ {gs : List (Str × D)} {fs : List (Str × V)}, RpF K H fs gs → gs.lookup x = some d → ∃ v, fs.lookup x = some v ∧ Rp K H v d
  | [], _, _, e => by simp at e
  | (y, e) :: gs, _, h, q => by
    cases h with | cons a b =>
      simp only [List.lookup_cons] at q ⊢
      cases z : x == y with
      | true => rw [z] at q; simp only [Option.some.injEq] at q; subst q; exact ⟨_, rfl, a⟩
      | false => rw [z] at q; exact RpF.lookup b q
theorem RpF.none {x : Str} : ∀ {gs : List (Str × D)} {fs : List (Str × V)}, RpF K H fs gs → gs.lookup x = .none → fs.lookup x = .none
  | [], _, h, e => by cases h; rfl
  | (y, e) :: gs, _, h, q => by
    cases h with | cons a b =>
      simp only [List.lookup_cons] at q ⊢
      cases z : x == y with
      | true => rw [z] at q; simp at q
      | false => rw [z] at q; exact RpF.none b q
theorem RpF.length : ∀ {gs : List (Str × D)} {fs : List (Str × V)}, RpF K H fs gs → fs.length = gs.length
  | [], _, h => by cases h; rfl
  | (x, d) :: ds, _, h => by cases h with | cons a b => simp [RpF.length b]
end

/-! ### plain data as the library has it (for ==, in) -/
mutual
def toPy : D → Option PyData
  | .non => some .none
  | .bl b => some (.bool b)
  | .int i => some (.int i)
  | .str x => some (.str x)
  | .lst xs => (toPyA xs).map .list
  | .fls _ => none
  | .tup xs => (toPyA xs).map .tuple
  | .obj _ _ => none
def toPyA : List D → Option (List PyData)
  | [] => some []
  | d :: ds => match toPy d, toPyA ds with
    | some p, some ps => some (p :: ps)
    | _, _ => none
end
section
variable {K : Kc} {H : Hp}
mutual
theorem Rp.dp : ∀ {d : D} {v : V} {p : PyData}, Rp K H v d → toPy d = some p → Dp K.K H v p
  | .non, _, _, h, e => by cases h; simp only [toPy, Option.some.injEq] at e; subst e; exact .non
  | .bl b, _, _, h, e => by cases h; simp only [toPy, Option.some.injEq] at e; subst e; exact .bl b
  | .int i, _, _, h, e => by cases h; simp only [toPy, Option.some.injEq] at e; subst e; exact .int i
  | .str x, _, _, h, e => by cases h; simp only [toPy, Option.some.injEq] at e; subst e; exact .str x
  | .lst ds, _, _, h, e => by
    cases h with | lst a b =>
      simp only [toPy, Option.map_eq_some_iff] at e
      obtain ⟨ps, e, rfl⟩ := e
      exact .lst (.inl (.inl a)) (RpA.dp b e)
  | .fls ds, _, _, h, e => by simp [toPy] at e
  | .tup ds, _, _, h, e => by
    cases h with | tup a b =>
      simp only [toPy, Option.map_eq_some_iff] at e
      obtain ⟨ps, e, rfl⟩ := e
      exact .tup a (RpA.dp b e)
  | .obj C gs, _, _, h, e => by simp [toPy] at e
theorem RpA.dp : ∀ {ds : List D} {vs : List V} {ps : List PyData}, RpA K H vs ds → toPyA ds = some ps → DpAll K.K H vs ps
  | [], _, _, h, e => by cases h; simp only [toPyA, Option.some.injEq] at e; subst e; exact .nil
  | d :: ds, _, _, h, e => by
    cases h with | cons a b =>
      simp only [toPyA] at e
      cases h1 : toPy d with
      | none => rw [h1] at e; simp at e
      | some p =>
        cases h2 : toPyA ds with
        | none => rw [h1, h2] at e; simp at e
        | some ps =>
          rw [h1, h2] at e; simp only [Option.some.injEq] at e; subst e
          exact .cons (Rp.dp a h1) (RpA.dp b h2)
end
end
end DI
set_option maxRecDepth 100000
set_option maxHeartbeats 4000000
namespace DI
open PySem PySem.Spec PyProof.Rows L2

/-- what a name alone holds and may change -/
inductive M where
  | lst (ds : List D)
  | ins (C : Str) (fs : List (Str × D))
def M.frz : M → D
  | .lst ds => .lst ds
  | .ins C gs => .obj C gs
inductive MOk (K : Kc) (Hf H : Hp) : Addr → M → Prop
  | lst {p : Addr} {xs : List V} {ds : List D} : Hf p = none → H p = some (.lst xs) → RpA K Hf xs ds → MOk K Hf H p (.lst ds)
  | ins {p C dx : Addr} {c : Str} {fs : List (Str × V)} {gs : List (Str × D)} : K.cl c = some C → Hf p = none → H p = some (.ins C dx fs) → RpF K Hf fs gs → MOk K Hf H p (.ins c gs)
theorem MOk.no {K : Kc} {Hf H : Hp} {p : Addr} {m : M} (h : MOk K Hf H p m) : Hf p = none := by cases h <;> assumption
theorem MOk.there {K : Kc} {Hf H : Hp} {p : Addr} {m : M} (h : MOk K Hf H p m) : ∃ o, H p = some o := by cases h with | lst _ e _ => exact ⟨_, e⟩ | ins _ _ e _ => exact ⟨_, e⟩
theorem MOk.mono {K : Kc} {Hf H Hf' H' : Hp} {p : Addr} {m : M} (h : MOk K Hf H p m) (e : Ex Hf Hf') (n : Hf' p = none) (k : ∀ o, H p = some o → H' p = some o) : MOk K Hf' H' p m := by
  cases h with
  | lst a b c => exact .lst n (k _ b) (c.mono e)
  | ins z a b c => exact .ins z n (k _ b) (c.mono e)
/-- frozen: it is plain data from then on -/
theorem MOk.frz {K : Kc} {Hf H : Hp} {p : Addr} {m : M} (h : MOk K Hf H p m) : ∃ o, H p = some o ∧ Rp K (upd Hf p o) (.ref p) m.frz := by
  cases h with
  | lst a b c => exact ⟨_, b, .lst upd_same (c.mono (Evl.Ex.new a))⟩
  | ins z a b c => exact ⟨_, b, .obj z upd_same (c.mono (Evl.Ex.new a))⟩
/-- as it stands now -/
theorem MOk.now {K : Kc} {Hf H : Hp} {p : Addr} {m : M} (h : MOk K Hf H p m) (e : Ex Hf H) : Rp K H (.ref p) m.frz := by
  cases h with
  | lst a b c => exact .lst b (c.mono e)
  | ins z a b c => exact .obj z b (c.mono e)

inductive Sl where
  | no
  | val (d : D)
  | own (m : M)
  | ref (m : M)
abbrev Rho := List Sl

/-- the entry: the heap, its plain part, the slots that are handed by reference -/
structure Wd where
  K : Kc
  H0 : Hp
  Hf0 : Hp
  rf : Nat → Option Addr

structure Stt (W : Wd) (Hf H : Hp) (σ : L2.St) (ρ : Rho) : Prop where
  ex : Ex Hf H
  grow : Ex W.Hf0 Hf
  frozen : ∀ a o, Hf a = some o → W.Hf0 a = some o ∨ W.H0 a = none
  keep : ∀ a o, W.H0 a = some o → (∀ i, W.rf i ≠ some a) → H a = some o
  live : ∀ a o, W.H0 a = some o → ∃ o', H a = some o'
  len : σ.length = ρ.length
  val : ∀ (i : Nat) (d : D), ρ[i]? = some (Sl.val d) → ∃ v, σ[i]? = some (some v) ∧ Rp W.K Hf v d
  own : ∀ (i : Nat) (m : M), ρ[i]? = some (Sl.own m) → ∃ p : Addr, σ[i]? = some (some (V.ref p)) ∧ W.H0 p = none ∧ MOk W.K Hf H p m
  ref : ∀ (i : Nat) (m : M), ρ[i]? = some (Sl.ref m) → ∃ p : Addr, σ[i]? = some (some (V.ref p)) ∧ W.rf i = some p ∧ MOk W.K Hf H p m
  sep : ∀ (i j : Nat) (m m' : M) (p : Addr), i ≠ j → ρ[i]? = some (Sl.own m) → ρ[j]? = some (Sl.own m') → σ[i]? = some (some (V.ref p)) → σ[j]? ≠ some (some (V.ref p))
  inj : ∀ i j p, W.rf i = some p → W.rf j = some p → i = j
  rfH : ∀ i p, W.rf i = some p → ∃ o, W.H0 p = some o

/-- an address that no name holds for itself -/
def Apart (σ : L2.St) (ρ : Rho) (p : Addr) : Prop := ∀ (i : Nat) (m : M), ρ[i]? = some (Sl.own m) → σ[i]? ≠ some (some (V.ref p))

section
variable {W : Wd} {Hf H Hf' H' : Hp} {σ : L2.St} {ρ : Rho} {p : Addr} {o : HO} {i : Nat} {m : M} {d : D} {v : V}

/-- the plain part grows, nothing that is tracked is lost -/
theorem Stt.step (S : Stt W Hf H σ ρ) (e1 : Ex Hf Hf') (e2 : Ex Hf' H') (k : Ex H H') (fr : ∀ a o, Hf' a = some o → Hf a = some o ∨ H a = none) : Stt W Hf' H' σ ρ := by
  have no : ∀ {q : Addr} {n : M}, MOk W.K Hf H q n → Hf' q = none := fun {q n} h => by
    cases z : Hf' q with
    | none => rfl
    | some u =>
      rcases fr q u z with y | y
      · rw [h.no] at y; cases y
      · obtain ⟨o, e⟩ := h.there; rw [e] at y; cases y
  refine ⟨e2, S.grow.trans e1, fun a o h => ?_, fun a o h n => k _ _ (S.keep a o h n), fun a o h => ?_, S.len, fun i d h => ?_, fun i m h => ?_, fun i m h => ?_, S.sep, S.inj, S.rfH⟩
  · rcases fr a o h with z | z
    · exact S.frozen a o z
    · refine .inr ?_
      cases y : W.H0 a with
      | none => rfl
      | some u => obtain ⟨o', e⟩ := S.live a u y; rw [e] at z; cases z
  · obtain ⟨o', e⟩ := S.live a o h; exact ⟨o', k _ _ e⟩
  · obtain ⟨v, a, b⟩ := S.val i d h; exact ⟨v, a, b.mono e1⟩
  · obtain ⟨p, a, b, c⟩ := S.own i m h; exact ⟨p, a, b, c.mono e1 (no c) (k _)⟩
  · obtain ⟨p, a, b, c⟩ := S.ref i m h; exact ⟨p, a, b, c.mono e1 (no c) (k _)⟩
/-- a new plain object -/
theorem Stt.laid (S : Stt W Hf H σ ρ) (n : H p = none) : Stt W (upd Hf p o) (upd H p o) σ ρ ∧ Ex Hf (upd Hf p o) ∧ Ex H (upd H p o) := by
  have nf : Hf p = none := Evl.fresh_back S.ex n
  have e1 : Ex Hf (upd Hf p o) := Evl.Ex.new nf
  refine ⟨S.step e1 (fun a u h => ?_) (Evl.Ex.new n) (fun a u h => ?_), e1, Evl.Ex.new n⟩
  · by_cases z : a = p
    · subst z; rw [upd_same] at h ⊢; exact h
    · rw [upd_ne z] at h ⊢; exact S.ex _ _ h
  · by_cases z : a = p
    · subst z; exact .inr n
    · rw [upd_ne z] at h; exact .inl h
/-- a new object that may change -/
theorem Stt.made (S : Stt W Hf H σ ρ) (n : H p = none) : Stt W Hf (upd H p o) σ ρ :=
  S.step (Evl.Ex.refl _) (S.ex.trans (Evl.Ex.new n)) (Evl.Ex.new n) fun a u h => .inl h
theorem Stt.apart (S : Stt W Hf H σ ρ) (n : H p = none) : Apart σ ρ p := fun i m h e => by
  obtain ⟨q, a, b, c⟩ := S.own i m h
  rw [e] at a; cases a
  obtain ⟨o, z⟩ := c.there; rw [n] at z; cases z
theorem Stt.H0none (S : Stt W Hf H σ ρ) (n : H p = none) : W.H0 p = none := by
  cases y : W.H0 p with
  | none => rfl
  | some u => obtain ⟨o', e⟩ := S.live p u y; rw [n] at e; cases e
theorem Stt.notRef (S : Stt W Hf H σ ρ) (n : W.H0 p = none) : W.rf i ≠ some p := fun h => by
  obtain ⟨o, e⟩ := S.rfH i p h; rw [n] at e; cases e

/-- what is at p, held by no name, becomes plain -/
theorem Stt.frzNew (S : Stt W Hf H σ ρ) (n0 : W.H0 p = none) (mo : MOk W.K Hf H p m) (ap : Apart σ ρ p) : ∃ Hf', Stt W Hf' H σ ρ ∧ Ex Hf Hf' ∧ Rp W.K Hf' (.ref p) m.frz := by
  obtain ⟨o, ho, r⟩ := mo.frz
  have e1 : Ex Hf (upd Hf p o) := Evl.Ex.new mo.no
  refine ⟨upd Hf p o, ?_, e1, r⟩
  refine ⟨fun a u h => ?_, S.grow.trans e1, fun a u h => ?_, S.keep, S.live, S.len, fun i d h => ?_, fun i m' h => ?_, fun i m' h => ?_, S.sep, S.inj, S.rfH⟩
  · by_cases z : a = p
    · subst z; rw [upd_same] at h; cases h; exact ho
    · rw [upd_ne z] at h; exact S.ex _ _ h
  · by_cases z : a = p
    · subst z; exact .inr n0
    · rw [upd_ne z] at h; exact S.frozen _ _ h
  · obtain ⟨v, a, b⟩ := S.val i d h; exact ⟨v, a, b.mono e1⟩
  · obtain ⟨q, a, b, c⟩ := S.own i m' h
    have ne : q ≠ p := fun z => ap i m' h (z ▸ a)
    exact ⟨q, a, b, c.mono e1 (by rw [upd_ne ne]; exact c.no) fun _ z => z⟩
  · obtain ⟨q, a, b, c⟩ := S.ref i m' h
    have ne : q ≠ p := fun z => S.notRef n0 (z ▸ b)
    exact ⟨q, a, b, c.mono e1 (by rw [upd_ne ne]; exact c.no) fun _ z => z⟩
theorem getset {α : Type} {l : List α} {i j : Nat} {x y : α} (h : (l.set i x)[j]? = some y) : (j = i ∧ x = y) ∨ (j ≠ i ∧ l[j]? = some y) := by
  by_cases z : i = j
  · subst z
    by_cases k : i < l.length
    · rw [List.getElem?_set_self k] at h; exact .inl ⟨rfl, Option.some.inj h⟩
    · rw [List.getElem?_eq_none (by simpa using k)] at h; cases h
  · rw [List.getElem?_set_ne z] at h; exact .inr ⟨fun e => z e.symm, h⟩
/-- a name's list becomes plain -/
theorem Stt.frzSlot (S : Stt W Hf H σ ρ) (h : ρ[i]? = some (Sl.own m)) : ∃ (Hf' : Hp) (p : Addr), σ[i]? = some (some (V.ref p)) ∧ Stt W Hf' H σ (ρ.set i (.val m.frz)) ∧ Ex Hf Hf' ∧ Rp W.K Hf' (.ref p) m.frz := by
  obtain ⟨p, hp, n0, mo⟩ := S.own i m h
  obtain ⟨o, ho, r⟩ := mo.frz
  have e1 : Ex Hf (upd Hf p o) := Evl.Ex.new mo.no
  refine ⟨upd Hf p o, p, hp, ?_, e1, r⟩
  refine ⟨fun a u h => ?_, S.grow.trans e1, fun a u h => ?_, S.keep, S.live, by simpa using S.len, fun j d g => ?_, fun j m' g => ?_, fun j m' g => ?_, fun j k m1 m2 q ne g1 g2 => ?_, S.inj, S.rfH⟩
  · by_cases z : a = p
    · subst z; rw [upd_same] at h; cases h; exact ho
    · rw [upd_ne z] at h; exact S.ex _ _ h
  · by_cases z : a = p
    · subst z; exact .inr n0
    · rw [upd_ne z] at h; exact S.frozen _ _ h
  · rcases getset g with ⟨rfl, z⟩ | ⟨ne, g⟩
    · cases z; exact ⟨_, hp, r⟩
    · obtain ⟨v, a, b⟩ := S.val j d g; exact ⟨v, a, b.mono e1⟩
  · rcases getset g with ⟨rfl, z⟩ | ⟨ne, g⟩
    · cases z
    · obtain ⟨q, a, b, c⟩ := S.own j m' g
      have nq : q ≠ p := fun z => S.sep i j m m' p (fun z => ne z.symm) h g hp (z ▸ a)
      exact ⟨q, a, b, c.mono e1 (by rw [upd_ne nq]; exact c.no) fun _ z => z⟩
  · rcases getset g with ⟨rfl, z⟩ | ⟨ne, g⟩
    · cases z
    · obtain ⟨q, a, b, c⟩ := S.ref j m' g
      have nq : q ≠ p := fun z => S.notRef n0 (z ▸ b)
      exact ⟨q, a, b, c.mono e1 (by rw [upd_ne nq]; exact c.no) fun _ z => z⟩
  · rcases getset g1 with ⟨rfl, z⟩ | ⟨_, g1⟩
    · cases z
    · rcases getset g2 with ⟨rfl, z⟩ | ⟨_, g2⟩
      · cases z
      · exact S.sep j k m1 m2 q ne g1 g2

/-- what a name holds is written: own or by reference -/
theorem Stt.write (S : Stt W Hf H σ ρ) (m' : M) (s s' : Sl) (hs : (s = .own m ∧ s' = .own m') ∨ (s = .ref m ∧ s' = .ref m')) (h : ρ[i]? = some s) (hp : σ[i]? = some (some (V.ref p)))
    (mo : MOk W.K Hf (upd H p o) p m') : Stt W Hf (upd H p o) σ (ρ.set i s') := by
  have key : (W.H0 p = none ∧ s = .own m ∧ s' = .own m') ∨ (W.rf i = some p ∧ s = .ref m ∧ s' = .ref m') := by
    rcases hs with ⟨rfl, rfl⟩ | ⟨rfl, rfl⟩
    · obtain ⟨q, a, b, c⟩ := S.own i m h
      rw [hp] at a; cases a; exact .inl ⟨b, rfl, rfl⟩
    · obtain ⟨q, a, b, c⟩ := S.ref i m h
      rw [hp] at a; cases a; exact .inr ⟨b, rfl, rfl⟩
  have nf := mo.no
  have other : ∀ {j q n}, j ≠ i → ρ[j]? = some (.own n) → σ[j]? = some (some (.ref q)) → q ≠ p := fun {j q n} ne g a z => by
    subst z
    rcases key with ⟨k, rfl, _⟩ | ⟨k, _, _⟩
    · exact S.sep j i _ _ _ ne g h a hp
    · obtain ⟨q', a', b, c⟩ := S.own j n g
      rw [a] at a'; cases a'
      exact S.notRef b k
  have otherR : ∀ {j q n}, j ≠ i → ρ[j]? = some (.ref n) → W.rf j = some q → q ≠ p := fun {j q n} ne g a z => by
    subst z
    rcases key with ⟨k, rfl, _⟩ | ⟨k, _, _⟩
    · exact S.notRef k a
    · exact ne (S.inj _ _ _ a k)
  refine ⟨fun a u g => ?_, S.grow, S.frozen, fun a u g n => ?_, fun a u g => ?_, by simpa using S.len, fun j d g => ?_, fun j n g => ?_, fun j n g => ?_, fun j k m1 m2 q ne g1 g2 => ?_, S.inj, S.rfH⟩
  · by_cases z : a = p
    · subst z; rw [nf] at g; cases g
    · rw [upd_ne z]; exact S.ex _ _ g
  · by_cases z : a = p
    · subst z
      rcases key with ⟨k, _, _⟩ | ⟨k, _, _⟩
      · rw [k] at g; cases g
      · exact absurd k (n i)
    · rw [upd_ne z]; exact S.keep _ _ g n
  · by_cases z : a = p
    · subst z; exact ⟨_, upd_same⟩
    · obtain ⟨o', e⟩ := S.live a u g; exact ⟨o', by rw [upd_ne z]; exact e⟩
  · rcases getset g with ⟨rfl, z⟩ | ⟨ne, g⟩
    · rcases key with ⟨_, _, rfl⟩ | ⟨_, _, rfl⟩ <;> cases z
    · exact S.val j d g
  · rcases getset g with ⟨rfl, z⟩ | ⟨ne, g⟩
    · rcases key with ⟨k, _, rfl⟩ | ⟨_, _, rfl⟩
      · cases z; exact ⟨p, hp, k, mo⟩
      · cases z
    · obtain ⟨q, a, b, c⟩ := S.own j n g
      exact ⟨q, a, b, c.mono (Evl.Ex.refl _) c.no fun u z => by rw [upd_ne (other ne g a)]; exact z⟩
  · rcases getset g with ⟨rfl, z⟩ | ⟨ne, g⟩
    · rcases key with ⟨k, _, rfl⟩ | ⟨k, _, rfl⟩
      · cases z
      · cases z; exact ⟨p, hp, k, mo⟩
    · obtain ⟨q, a, b, c⟩ := S.ref j n g
      exact ⟨q, a, b, c.mono (Evl.Ex.refl _) c.no fun u z => by rw [upd_ne (otherR ne g b)]; exact z⟩
  · rcases getset g1 with ⟨y1, z1⟩ | ⟨n1, k1⟩ <;> rcases getset g2 with ⟨y2, z2⟩ | ⟨n2, k2⟩
    · exact absurd (y1.trans y2.symm) ne
    · rcases key with ⟨_, rfl, rfl⟩ | ⟨_, _, rfl⟩
      · subst y1; exact S.sep _ _ _ _ _ ne h k2
      · cases z1
    · rcases key with ⟨_, rfl, rfl⟩ | ⟨_, _, rfl⟩
      · subst y2; exact S.sep _ _ _ _ _ ne k1 h
      · cases z2
    · exact S.sep _ _ _ _ _ ne k1 k2
/-- a name is stored: plain -/
theorem Stt.setVal (S : Stt W Hf H σ ρ) (r : Rp W.K Hf v d) (nr : ∀ n : M, ρ[i]? ≠ some (Sl.ref n)) : Stt W Hf H (σ.set i (some v)) (ρ.set i (.val d)) := by
  refine ⟨S.ex, S.grow, S.frozen, S.keep, S.live, by simpa using S.len, fun j d' g => ?_, fun j n g => ?_, fun j n g => ?_, fun j k m1 m2 q ne g1 g2 e1 e2 => ?_, S.inj, S.rfH⟩
  · rcases getset g with ⟨rfl, z⟩ | ⟨ne, g⟩
    · cases z
      by_cases k : j < σ.length
      · exact ⟨v, List.getElem?_set_self k, r⟩
      · rw [List.getElem?_eq_none (by simpa [← S.len] using k)] at g; cases g
    · obtain ⟨w, a, b⟩ := S.val j d' g
      exact ⟨w, by rw [List.getElem?_set_ne (Ne.symm ne)]; exact a, b⟩
  · rcases getset g with ⟨rfl, z⟩ | ⟨ne, g⟩
    · cases z
    · obtain ⟨w, a, b⟩ := S.own j n g
      exact ⟨w, by rw [List.getElem?_set_ne (Ne.symm ne)]; exact a, b⟩
  · rcases getset g with ⟨rfl, z⟩ | ⟨ne, g⟩
    · cases z
    · obtain ⟨w, a, b⟩ := S.ref j n g
      exact ⟨w, by rw [List.getElem?_set_ne (Ne.symm ne)]; exact a, b⟩
  · rcases getset g1 with ⟨rfl, z⟩ | ⟨n1, g1⟩
    · cases z
    · rcases getset g2 with ⟨rfl, z⟩ | ⟨n2, g2⟩
      · cases z
      · rw [List.getElem?_set_ne (Ne.symm n1)] at e1
        rw [List.getElem?_set_ne (Ne.symm n2)] at e2
        exact S.sep j k m1 m2 q ne g1 g2 e1 e2
/-- a name is stored: what it alone holds -/
theorem Stt.setOwn (S : Stt W Hf H σ ρ) (n0 : W.H0 p = none) (mo : MOk W.K Hf H p m) (ap : Apart σ ρ p) (nr : ∀ n : M, ρ[i]? ≠ some (Sl.ref n)) : Stt W Hf H (σ.set i (some (.ref p))) (ρ.set i (.own m)) := by
  refine ⟨S.ex, S.grow, S.frozen, S.keep, S.live, by simpa using S.len, fun j d' g => ?_, fun j n g => ?_, fun j n g => ?_, fun j k m1 m2 q ne g1 g2 e1 e2 => ?_, S.inj, S.rfH⟩
  · rcases getset g with ⟨rfl, z⟩ | ⟨ne, g⟩
    · cases z
    · obtain ⟨w, a, b⟩ := S.val j d' g
      exact ⟨w, by rw [List.getElem?_set_ne (Ne.symm ne)]; exact a, b⟩
  · rcases getset g with ⟨rfl, z⟩ | ⟨ne, g⟩
    · cases z
      by_cases k : j < σ.length
      · exact ⟨p, List.getElem?_set_self k, n0, mo⟩
      · rw [List.getElem?_eq_none (by simpa [← S.len] using k)] at g; cases g
    · obtain ⟨w, a, b⟩ := S.own j n g
      exact ⟨w, by rw [List.getElem?_set_ne (Ne.symm ne)]; exact a, b⟩
  · rcases getset g with ⟨rfl, z⟩ | ⟨ne, g⟩
    · cases z
    · obtain ⟨w, a, b⟩ := S.ref j n g
      exact ⟨w, by rw [List.getElem?_set_ne (Ne.symm ne)]; exact a, b⟩
  · rcases getset g1 with ⟨y1, z1⟩ | ⟨n1, k1⟩ <;> rcases getset g2 with ⟨y2, z2⟩ | ⟨n2, k2⟩
    · exact absurd (y1.trans y2.symm) ne
    · subst y1
      rw [List.getElem?_set_ne (Ne.symm n2)] at e2
      by_cases l : j < σ.length
      · rw [List.getElem?_set_self l] at e1
        simp only [Option.some.injEq, V.ref.injEq] at e1
        subst e1
        exact ap _ _ k2 e2
      · rw [List.getElem?_eq_none (by simpa using l)] at e1; cases e1
    · subst y2
      rw [List.getElem?_set_ne (Ne.symm n1)] at e1
      by_cases l : k < σ.length
      · rw [List.getElem?_set_self l] at e2
        simp only [Option.some.injEq, V.ref.injEq] at e2
        subst e2
        exact ap _ _ k1 e1
      · rw [List.getElem?_eq_none (by simpa using l)] at e2; cases e2
    · rw [List.getElem?_set_ne (Ne.symm n1)] at e1
      rw [List.getElem?_set_ne (Ne.symm n2)] at e2
      exact S.sep j k m1 m2 q ne k1 k2 e1 e2
/-- a name is forgotten -/
theorem Stt.setNo {ov : Option V} (S : Stt W Hf H σ ρ) (nr : ∀ n : M, ρ[i]? ≠ some (Sl.ref n)) : Stt W Hf H (σ.set i ov) (ρ.set i .no) := by
  refine ⟨S.ex, S.grow, S.frozen, S.keep, S.live, by simpa using S.len, fun j d' g => ?_, fun j n g => ?_, fun j n g => ?_, fun j k m1 m2 q ne g1 g2 e1 e2 => ?_, S.inj, S.rfH⟩
  · rcases getset g with ⟨rfl, z⟩ | ⟨ne, g⟩
    · cases z
    · obtain ⟨w, a, b⟩ := S.val j d' g
      exact ⟨w, by rw [List.getElem?_set_ne (Ne.symm ne)]; exact a, b⟩
  · rcases getset g with ⟨rfl, z⟩ | ⟨ne, g⟩
    · cases z
    · obtain ⟨w, a, b⟩ := S.own j n g
      exact ⟨w, by rw [List.getElem?_set_ne (Ne.symm ne)]; exact a, b⟩
  · rcases getset g with ⟨rfl, z⟩ | ⟨ne, g⟩
    · cases z
    · obtain ⟨w, a, b⟩ := S.ref j n g
      exact ⟨w, by rw [List.getElem?_set_ne (Ne.symm ne)]; exact a, b⟩
  · rcases getset g1 with ⟨rfl, z⟩ | ⟨n1, g1⟩
    · cases z
    · rcases getset g2 with ⟨rfl, z⟩ | ⟨n2, g2⟩
      · cases z
      · rw [List.getElem?_set_ne (Ne.symm n1)] at e1
        rw [List.getElem?_set_ne (Ne.symm n2)] at e2
        exact S.sep j k m1 m2 q ne g1 g2 e1 e2
end
end DI
set_option maxRecDepth 100000
set_option maxHeartbeats 4000000
namespace DI
open PySem PySem.Spec PyProof.Rows L2

/-- how a piece of text ends: with a thing, or an error of the class c whose only field is d -/
inductive Out (α : Type) where
  | ok (a : α) (ρ : Rho)
  | exc (c : Str) (d : D) (ρ : Rho)
abbrev Den (α : Type) := Rho → Option (Out α)
/-- a value: plain, or new and held by nobody -/
inductive RV where
  | val (d : D)
  | new (m : M)
def RV.frz : RV → D
  | .val d => d
  | .new m => m.frz
def ret {α : Type} (a : α) : Den α := fun ρ => some (.ok a ρ)
def stuck {α : Type} : Den α := fun _ => none
def bnd {α β : Type} (x : Den α) (k : α → Den β) : Den β := fun ρ => match x ρ with
  | none => none
  | some (.exc c d ρ') => some (.exc c d ρ')
  | some (.ok a ρ') => k a ρ'
/-- what a reading needs besides: the wish for errors, the classes' addresses -/
structure Ck where
  W : Wd
  Wx : WX
  ca : Str → Option Addr
def RvOk (W : Wd) (Hf H : Hp) (σ : L2.St) (ρ : Rho) : RV → V → Prop
  | .val d, v => Rp W.K Hf v d
  | .new m, v => ∃ p, v = .ref p ∧ W.H0 p = none ∧ MOk W.K Hf H p m ∧ Apart σ ρ p
/-- how the thing lies: (world, plain heap, heap, slots, slots' meaning) -/
abbrev Lie (α β : Type) := Wd → Hp → Hp → L2.St → Rho → α → β → Prop
def lV : Lie RV V := RvOk
def lD : Lie D V := fun W Hf _ _ _ d v => Rp W.K Hf v d
def lA : Lie (List D) (List V) := fun W Hf _ _ _ ds vs => RpA W.K Hf vs ds
def lB : Lie Bool Bool := fun _ _ _ _ _ b b' => b' = b
def Fin {α β : Type} (C : Ck) (P : Lie α β) (σ : L2.St) (Hf : Hp) (o : Out α) (Q : β → Hp → Prop) : Prop := match o with
  | .ok a ρ' => ∀ b Hf' H', Stt C.W Hf' H' σ ρ' → Ex Hf Hf' → P C.W Hf' H' σ ρ' a b → Q b H'
  | .exc c d ρ' => ∀ Hf' H' A dd v, Stt C.W Hf' H' σ ρ' → Ex Hf Hf' → C.ca c = some A → H' dd = some (.xd [(("at" : Str), v)]) → C.W.H0 dd = none → Rp C.W.K Hf' v d → C.Wx (.ref A) (some dd) σ H'
def tG {α β : Type} (C : Ck) (P : Lie α β) (x : Den α) : L2.St → Hp → (β → Hp → Prop) → Prop := fun σ H Q =>
  ∃ Hf ρ o, Stt C.W Hf H σ ρ ∧ x ρ = some o ∧ Fin C P σ Hf o Q

section
variable {X : Cx} {e : Expr} {t t' : TE}
theorem _root_.L2.PE.imp (h : PE X e t) (k : ∀ σ H Q, t' σ H Q → t σ H Q) : PE X e t' := ⟨fun pins s σ H Q I hq => h.run pins s σ H Q I (k σ H Q hq)⟩
theorem _root_.L2.PT.imp {t t' : TT} (h : PT X e t) (k : ∀ σ H Q, t' σ H Q → t σ H Q) : PT X e t' := ⟨fun pins s σ H Q I hq => h.run pins s σ H Q I (k σ H Q hq)⟩
theorem _root_.L2.PA.imp {es : List Expr} {t t' : TA} (h : PA X es t) (k : ∀ σ H Q, t' σ H Q → t σ H Q) : PA X es t' := ⟨fun pos pins s σ H Q I hq => h.run pos pins s σ H Q I (k σ H Q hq)⟩
theorem _root_.L2.PW.imp {t t' : TT} (h : PW X e t) (k : ∀ σ H Q, t' σ H Q → t σ H Q) : PW X e t' := ⟨fun w pins s σ H Q I hq => h.run w pins s σ H Q I (k σ H Q hq)⟩
theorem _root_.L2.PS.imp {st : Stmt} {t t' : TS} (h : PS X st t) (k : ∀ D σ H, t' D σ H → t D σ H) : PS X st t' := ⟨fun pins s σ H D I hq => h.run pins s σ H D I (k D σ H hq)⟩
theorem _root_.L2.PSs.imp {st : List Stmt} {t t' : TS} (h : PSs X st t) (k : ∀ D σ H, t' D σ H → t D σ H) : PSs X st t' := ⟨fun pins s σ H D I hq => h.run pins s σ H D I (k D σ H hq)⟩
theorem pe_none : PE X e (fun _ _ _ => False) := ⟨fun _ _ _ _ _ _ h => h.elim⟩
end
section
variable {C : Ck} {α β γ δ : Type} {P : Lie α β} {R : Lie γ δ} {x : Den α} {k : α → Den γ} {σ : L2.St} {H Hf Hf' : Hp} {ρ : Rho}
theorem Fin.weak {o : Out α} {Q : β → Hp → Prop} (h : Fin C P σ Hf o Q) (e : Ex Hf Hf') : Fin C P σ Hf' o Q := by
  cases o with
  | ok a ρ' => exact fun b Hf1 H1 s e1 p => h b Hf1 H1 s (e.trans e1) p
  | exc c d ρ' => exact fun Hf1 H1 A dd v s e1 a b c' r => h Hf1 H1 A dd v s (e.trans e1) a b c' r
/-- one after another -/
theorem tG_bnd {o : Out γ} {Q : δ → Hp → Prop} (S : Stt C.W Hf H σ ρ) (e : bnd x k ρ = some o) (f : Fin C R σ Hf o Q) :
    tG C P x σ H fun b H1 => ∃ Hf1 ρ1 a, Stt C.W Hf1 H1 σ ρ1 ∧ Ex Hf Hf1 ∧ P C.W Hf1 H1 σ ρ1 a b ∧ k a ρ1 = some o ∧ Fin C R σ Hf1 o Q := by
  unfold bnd at e
  cases h : x ρ with
  | none => rw [h] at e; cases e
  | some y =>
    rw [h] at e
    cases y with
    | ok a ρ' => exact ⟨Hf, ρ, _, S, h, fun b Hf' H' S' ex p => ⟨Hf', ρ', a, S', ex, p, e, f.weak ex⟩⟩
    | exc c d ρ' =>
      cases e
      exact ⟨Hf, ρ, _, S, h, fun Hf' H' A dd v S' ex a b n r => f Hf' H' A dd v S' ex a b n r⟩
theorem tG_bnd' {o : Out γ} {Q : δ → Hp → Prop} (S : Stt C.W Hf H σ ρ) (e : bnd x k ρ = some o) (f : Fin C R σ Hf o Q) {Q' : β → Hp → Prop}
    (g : ∀ b H1 Hf1 ρ1 a, Stt C.W Hf1 H1 σ ρ1 → Ex Hf Hf1 → P C.W Hf1 H1 σ ρ1 a b → k a ρ1 = some o → Fin C R σ Hf1 o Q → Q' b H1) : tG C P x σ H Q' := by
  obtain ⟨Hf0, ρ0, o0, S0, e0, f0⟩ := tG_bnd (P := P) S e f
  refine ⟨Hf0, ρ0, o0, S0, e0, ?_⟩
  cases o0 with
  | ok a ρ' =>
    intro b Hf' H' S' ex p
    obtain ⟨Hf1, ρ1, a1, h1, h2, h3, h4, h5⟩ := f0 b Hf' H' S' ex p
    exact g b H' Hf1 ρ1 a1 h1 h2 h3 h4 h5
  | exc c d ρ' => exact f0
theorem tG_mono {Q Q' : β → Hp → Prop} (k : ∀ b H1, Q b H1 → Q' b H1) (h : tG C P x σ H Q) : tG C P x σ H Q' := by
  obtain ⟨Hf, ρ, o, S, e, f⟩ := h
  refine ⟨Hf, ρ, o, S, e, ?_⟩
  cases o with
  | ok a ρ' => exact fun b Hf1 H1 s e1 p => k _ _ (f b Hf1 H1 s e1 p)
  | exc c d ρ' => exact f
/-- the end of a plain piece -/
theorem Fin.ret {a : α} {b : β} {Q : β → Hp → Prop} {o : Out α} (f : Fin C P σ Hf o Q) (e : DI.ret a ρ = some o) (S : Stt C.W Hf' H σ ρ) (ex : Ex Hf Hf') (p : P C.W Hf' H σ ρ a b) : Q b H := by
  cases e
  exact f b Hf' H S ex p
end
/-- a value as plain data -/
def frzD (x : Den RV) : Den D := bnd x fun r => ret r.frz
theorem frzD_ok {C : Ck} {X : Cx} {e : Expr} {x : Den RV} (h : PE X e (tG C lV x)) : PE X e (tG C lD (frzD x)) := by
  refine h.imp fun σ H Q hq => ?_
  obtain ⟨Hf, ρ, o, S, e, f⟩ := hq
  refine tG_bnd' S e f fun v H1 Hf1 ρ1 a S1 ex r e1 f1 => ?_
  cases a with
  | val d => exact f1.ret e1 S1 (Evl.Ex.refl _) r
  | new m =>
    obtain ⟨p, rfl, n0, mo, ap⟩ := r
    obtain ⟨Hf2, S2, e2, r2⟩ := S1.frzNew n0 mo ap
    exact f1.ret e1 S2 e2 r2
def valD (x : Den D) : Den RV := bnd x fun d => ret (.val d)
end DI
set_option maxRecDepth 100000
set_option maxHeartbeats 4000000
namespace DI
open PySem PySem.Spec PyProof.Rows L2

section
variable {C : Ck} {X : Cx}

/-! ### constants, names -/
theorem pe_ret {e : Expr} {v : V} {d : D} (h : PE X e (tC v)) (r : ∀ H, Rp C.W.K H v d) : PE X e (tG C lV (ret (.val d))) := by
  refine h.imp fun σ H Q hq => ?_
  obtain ⟨Hf, ρ, o, S, e, f⟩ := hq
  exact f.ret e S (Evl.Ex.refl _) (r Hf)
def constD : Const → Option D
  | .none => some .non
  | .bool b => some (.bl b)
  | .int i => some (.int i)
  | .str x => some (.str x)
  | _ => none
theorem pe_const {c : Const} {k : Nat} {pos : Pos} {d : D} (h : constD c = some d) : PE X (.Constant c k pos) (tG C lV (ret (.val d))) := by
  cases c <;> simp only [constD, Option.some.injEq, reduceCtorEq] at h <;> subst h
  · exact pe_ret pe_non fun _ => .non
  · exact pe_ret pe_bl fun _ => .bl _
  · exact pe_ret pe_int fun _ => .int _
  · exact pe_ret pe_str fun _ => .str _
/-- the name in slot i, as a value -/
def slotV (i : Nat) : Den RV := fun ρ => match ρ[i]? with
  | some (.val d) => some (.ok (.val d) ρ)
  | some (.own m) => some (.ok (.val m.frz) (ρ.set i (.val m.frz)))
  | _ => none
theorem pe_slotV {x : Str} {i : Nat} {pos : Pos} (hN : X.N[i]? = some x) (hv : Vis X.env.scope x) (hd : (x == ("__debug__" : Str)) = false) (hcd : (x == ("__classdict__" : Str)) = false) : PE X (.Name x pos) (tG C lV (slotV i)) := by
  refine (pe_var (i := i) hN hv hd hcd).imp fun σ H Q hq => ?_
  obtain ⟨Hf, ρ, o, S, e, f⟩ := hq
  unfold slotV at e
  split at e
  · rename_i d h
    cases e
    obtain ⟨v, a, b⟩ := S.val i d h
    exact ⟨v, a, f v Hf H S (Evl.Ex.refl _) b⟩
  · rename_i m h
    cases e
    obtain ⟨Hf', p, a, S', ex, r⟩ := S.frzSlot h
    exact ⟨_, a, f _ Hf' H S' ex r⟩
  · cases e

/-! ### what is only looked into: a name's list stays the name's -/
inductive CO where
  | slot (i : Nat)
  | val (d : D)
def lC : Lie CO V := fun W Hf _ σ _ c v => match c with
  | .slot i => σ[i]? = some (some v)
  | .val d => Rp W.K Hf v d
def coGet (ρ : Rho) : CO → Option D
  | .slot i => match ρ[i]? with
    | some (.val d) => some d
    | some (.own m) => some m.frz
    | some (.ref m) => some m.frz
    | _ => none
  | .val d => some d
def slotC (i : Nat) : Den CO := fun ρ => match ρ[i]? with
  | some (.val _) => some (.ok (.slot i) ρ)
  | some (.own _) => some (.ok (.slot i) ρ)
  | some (.ref _) => some (.ok (.slot i) ρ)
  | _ => none
theorem pe_slotC {x : Str} {i : Nat} {pos : Pos} (hN : X.N[i]? = some x) (hv : Vis X.env.scope x) (hd : (x == ("__debug__" : Str)) = false) (hcd : (x == ("__classdict__" : Str)) = false) : PE X (.Name x pos) (tG C lC (slotC i)) := by
  refine (pe_var (i := i) hN hv hd hcd).imp fun σ H Q hq => ?_
  obtain ⟨Hf, ρ, o, S, e, f⟩ := hq
  unfold slotC at e
  split at e
  · rename_i d h
    cases e
    obtain ⟨v, a, _⟩ := S.val i _ h; exact ⟨v, a, f v Hf H S (Evl.Ex.refl _) a⟩
  · rename_i m h
    cases e
    obtain ⟨p, a, _⟩ := S.own i _ h; exact ⟨_, a, f _ Hf H S (Evl.Ex.refl _) a⟩
  · rename_i m h
    cases e
    obtain ⟨p, a, _⟩ := S.ref i _ h; exact ⟨_, a, f _ Hf H S (Evl.Ex.refl _) a⟩
  · cases e
def coD (x : Den D) : Den CO := bnd x fun d => ret (.val d)
theorem pe_coD {e : Expr} {x : Den D} (h : PE X e (tG C lD x)) : PE X e (tG C lC (coD x)) := by
  refine h.imp fun σ H Q hq => ?_
  obtain ⟨Hf, ρ, o, S, e, f⟩ := hq
  refine tG_bnd' S e f fun v H1 Hf1 ρ1 a S1 ex r e1 f1 => ?_
  exact f1.ret e1 S1 (Evl.Ex.refl _) r
/-- read now: plain, or what a name holds -/
inductive RpC (K : Kc) (Hf H : Hp) : V → D → Prop
  | pl {v : V} {d : D} : Rp K Hf v d → RpC K Hf H v d
  | ow {p : Addr} {m : M} : MOk K Hf H p m → RpC K Hf H (.ref p) m.frz
theorem lC.get {W : Wd} {Hf H Hf0 H0 : Hp} {σ : L2.St} {ρ ρ0 : Rho} {c : CO} {v : V} {d : D} (l : lC W Hf0 H0 σ ρ0 c v) (S : Stt W Hf H σ ρ) (ex : Ex Hf0 Hf) (g : coGet ρ c = some d) : RpC W.K Hf H v d := by
  cases c with
  | val d' => simp only [coGet, Option.some.injEq] at g; subst g; exact .pl (Rp.mono ex l)
  | slot i =>
    have l' : σ[i]? = some (some v) := l
    simp only [coGet] at g
    split at g
    · rename_i d' h
      cases g
      obtain ⟨v', a, b⟩ := S.val i _ h
      rw [l'] at a; cases a; exact .pl b
    · rename_i m h
      cases g
      obtain ⟨p, a, _, c⟩ := S.own i _ h
      rw [l'] at a; cases a; exact .ow c
    · rename_i m h
      cases g
      obtain ⟨p, a, _, c⟩ := S.ref i _ h
      rw [l'] at a; cases a; exact .ow c
    · cases g
section
variable {K : Kc} {Hf H : Hp} {v : V}
theorem RpC.now {d : D} (h : RpC K Hf H v d) (e : Ex Hf H) : Rp K H v d := by
  cases h with
  | pl r => exact r.mono e
  | ow m => exact m.now e
theorem RpC.lst {ds : List D} (h : RpC K Hf H v (.lst ds)) (e : Ex Hf H) : ∃ a xs, v = .ref a ∧ H a = some (.lst xs) ∧ RpA K Hf xs ds := by
  generalize hd : D.lst ds = d at h
  cases h with
  | pl r => subst hd; cases r with | lst a b => exact ⟨_, _, rfl, e _ _ a, b⟩
  | ow m =>
    cases m with
    | lst a b c => cases hd; exact ⟨_, _, rfl, b, c⟩
    | ins z a b c => cases hd
theorem RpC.tup {ds : List D} (h : RpC K Hf H v (.tup ds)) (e : Ex Hf H) : ∃ a xs, v = .ref a ∧ SqT K.K H a xs ∧ RpA K Hf xs ds ∧ Rp K Hf v (.tup ds) := by
  generalize hd : D.tup ds = d at h
  cases h with
  | pl r => subst hd; cases id r with | tup a b => exact ⟨_, _, rfl, Evl.ex_t e a, b, r⟩
  | ow m => cases m <;> cases hd
theorem RpC.fls {ds : List D} (h : RpC K Hf H v (.fls ds)) (e : Ex Hf H) : ∃ a xs, v = .ref a ∧ SqL K.K H a xs ∧ RpA K Hf xs ds := by
  generalize hd : D.fls ds = d at h
  cases h with
  | pl r => subst hd; cases r with | fls a b => exact ⟨_, _, rfl, Evl.ex_l e a, b⟩
  | ow m => cases m <;> cases hd
theorem RpC.int {i : Int} (h : RpC K Hf H v (.int i)) : v = .int i := by
  generalize hd : D.int i = d at h
  cases h with
  | pl r => subst hd; cases r; rfl
  | ow m => cases m <;> cases hd
theorem RpC.str {i : Str} (h : RpC K Hf H v (.str i)) : v = .str i := by
  generalize hd : D.str i = d at h
  cases h with
  | pl r => subst hd; cases r; rfl
  | ow m => cases m <;> cases hd
theorem RpC.bl {i : Bool} (h : RpC K Hf H v (.bl i)) : v = .bl i := by
  generalize hd : D.bl i = d at h
  cases h with
  | pl r => subst hd; cases r; rfl
  | ow m => cases m <;> cases hd
theorem Rp.int_inv {i : Int} (h : Rp K H v (.int i)) : v = .int i := by cases h; rfl
theorem Rp.bl_inv {i : Bool} (h : Rp K H v (.bl i)) : v = .bl i := by cases h; rfl
theorem Rp.str_inv {i : Str} (h : Rp K H v (.str i)) : v = .str i := by cases h; rfl
theorem Rp.non_inv (h : Rp K H v .non) : v = .non := by cases h; rfl
end

/-! ### lists of arguments, displays -/
def consA (x : Den D) (y : Den (List D)) : Den (List D) := bnd x fun d => bnd y fun ds => ret (d :: ds)
theorem pa_nilD : PA X [] (tG C lA (ret [])) := by
  refine pa_nil.imp fun σ H Q hq => ?_
  obtain ⟨Hf, ρ, o, S, e, f⟩ := hq
  exact f.ret e S (Evl.Ex.refl _) .nil
theorem pa_consD {e : Expr} {es : List Expr} {x : Den D} {y : Den (List D)} (h : PE X e (tG C lD x)) (hs : PA X es (tG C lA y)) (st : starEach (e :: es) X.env = (false, eval e X.env) :: starEach es X.env) : PA X (e :: es) (tG C lA (consA x y)) := by
  refine (pa_cons h hs st).imp fun σ H Q hq => ?_
  obtain ⟨Hf, ρ, o, S, e, f⟩ := hq
  refine tG_bnd' S e f fun v H1 Hf1 ρ1 d S1 ex r e1 f1 => ?_
  refine tG_bnd' S1 e1 f1 fun vs H2 Hf2 ρ2 ds S2 ex2 r2 e2 f2 => ?_
  exact f2.ret e2 S2 (Evl.Ex.refl _) (.cons (Rp.mono ex2 r) r2)
def tupV (x : Den (List D)) : Den RV := bnd x fun ds => if ds.length ≤ 100000 then ret (.val (.tup ds)) else stuck
theorem sz {n : Nat} (h : n ≤ 100000) : n ≤ sizeLine := Evl.sz_of h
theorem pe_tupD {es : List Expr} {k : Nat} {pos : Pos} {x : Den (List D)} (h : PA X es (tG C lA x)) : PE X (.Tuple es k pos) (tG C lV (tupV x)) := by
  refine (pe_tup h).imp fun σ H Q hq => ?_
  obtain ⟨Hf, ρ, o, S, e, f⟩ := hq
  refine tG_bnd' S e f fun vs H1 Hf1 ρ1 ds S1 ex r e1 f1 => ?_
  split at e1
  · rename_i hz
    refine ⟨by rw [r.length]; exact sz hz, fun p np => ?_⟩
    obtain ⟨S2, ex2, _⟩ := S1.laid (o := .tup vs) np
    exact f1.ret e1 S2 ex2 (.tup (SqT.of upd_same) (r.mono ex2))
  · cases e1
def lstV (x : Den (List D)) : Den RV := bnd x fun ds => if ds.length ≤ 100000 then ret (.new (.lst ds)) else stuck
theorem pe_lstD {es : List Expr} {pos : Pos} {x : Den (List D)} (h : PA X es (tG C lA x)) : PE X (.List es pos) (tG C lV (lstV x)) := by
  refine (pe_lst h).imp fun σ H Q hq => ?_
  obtain ⟨Hf, ρ, o, S, e, f⟩ := hq
  refine tG_bnd' S e f fun vs H1 Hf1 ρ1 ds S1 ex r e1 f1 => ?_
  split at e1
  · rename_i hz
    refine ⟨by rw [r.length]; exact sz hz, fun p np => ?_⟩
    have S2 := S1.made (o := .lst vs) np
    exact f1.ret e1 S2 (Evl.Ex.refl _) ⟨p, rfl, S1.H0none np, .lst (Evl.fresh_back S1.ex np) upd_same r, S1.apart np⟩
  · cases e1

/-! ### two-place operations -/
def binD : Operator → D → D → Option RV
  | .Add, .int i, .int j => some (.val (.int (i + j)))
  | .Add, .tup xs, .tup ys => if xs.length + ys.length ≤ 100000 then some (.val (.tup (xs ++ ys))) else none
  | .Add, .lst xs, .lst ys => if xs.length + ys.length ≤ 100000 then some (.new (.lst (xs ++ ys))) else none
  | .Add, .str x, .str y => if x.length + y.length ≤ 100000 then some (.val (.str (x ++ y))) else none
  | .Sub, .int i, .int j => some (.val (.int (i - j)))
  | .Mult, .int i, .int j => if (-(2 ^ 64) < i ∧ i < 2 ^ 64) ∨ (-(2 ^ 64) < j ∧ j < 2 ^ 64) then some (.val (.int (i * j))) else none
  | .Mod, .int i, .int j => if 0 < j then some (.val (.int (i % j))) else none
  | .FloorDiv, .int i, .int j => if 0 < j ∧ j < 1073741824 then some (.val (.int (i / j))) else none
  | .Pow, .int i, .int j => if 0 ≤ j ∧ j ≤ 1000000 ∧ i.natAbs < 2 ^ 64 then some (.val (.int (i ^ j.toNat))) else none
  | _, _, _ => none
def optV (o : Option RV) : Den RV := fun ρ => o.map fun r => .ok r ρ
def supOp : Operator → Bool
  | .Add | .Sub | .Mult | .Mod | .FloorDiv | .Pow => true
  | _ => false
def binV (op : Operator) (x y : Den CO) : Den RV := if supOp op then bnd x fun a => bnd y fun b => fun ρ => match coGet ρ a, coGet ρ b with
  | some d1, some d2 => optV (binD op d1 d2) ρ
  | _, _ => none
  else stuck
theorem sl_cases {ds : List D} : ds = [] ∨ ds ≠ [] := by cases ds <;> simp
theorem RpA.nil_iff {K : Kc} {H : Hp} {vs : List V} {ds : List D} (r : RpA K H vs ds) : vs = [] ↔ ds = [] := by
  cases r <;> simp
theorem pe_binD (hK : X.K = C.W.K.K) {a b : Expr} {op : Operator} {pos : Pos} {x y : Den CO} (ha : PE X a (tG C lC x)) (hb : PE X b (tG C lC y)) : PE X (.BinOp a op b pos) (tG C lV (binV op x y)) := by
  by_cases sup : supOp op = true
  case neg =>
    refine ⟨fun pins s σ H Q I hq => ?_⟩
    obtain ⟨Hf, ρ, o, S, e, f⟩ := hq
    unfold binV at e
    rw [if_neg sup] at e
    cases e
  have core : ∀ {r : R2}, OpR X (binaryOp op) r → (∀ d1 d2 rv v w Hf H Q (σ : L2.St) ρ, Stt C.W Hf H σ ρ → RpC C.W.K Hf H v d1 → RpC C.W.K Hf H w d2 → binD op d1 d2 = some rv →
      (∀ u Hf' H', Stt C.W Hf' H' σ ρ → Ex Hf Hf' → RvOk C.W Hf' H' σ ρ rv u → Q u H') → r v w H Q) → PE X (.BinOp a op b pos) (tG C lV (binV op x y)) := by
    intro r hr k
    refine (pe_op hr ha hb).imp fun σ H Q hq => ?_
    obtain ⟨Hf, ρ, o, S, e, f⟩ := hq
    unfold binV at e
    rw [if_pos sup] at e
    refine tG_bnd' S e f fun v H1 Hf1 ρ1 c1 S1 ex1 l1 e1 f1 => ?_
    refine tG_bnd' S1 e1 f1 fun w H2 Hf2 ρ2 c2 S2 ex2 l2 e2 f2 => ?_
    split at e2
    · rename_i d1 d2 g1 g2
      unfold optV at e2
      rw [Option.map_eq_some_iff] at e2
      obtain ⟨rv, hb, rfl⟩ := e2
      have l1' := lC.get l1 S2 ex2 g1
      exact k d1 d2 rv v w Hf2 H2 Q σ ρ2 S2 l1' (lC.get l2 S2 (Evl.Ex.refl _) g2) hb fun u Hf' H' S' ex' p => f2 u Hf' H' S' ex' p
    · cases e2
  have intOnly : ∀ {g : Int → Int → Int} {Cn : Int → Int → Prop}, OpR X (binaryOp op) (rI Cn fun i j => .int (g i j)) → (∀ d1 d2 rv, binD op d1 d2 = some rv → ∃ i j, d1 = .int i ∧ d2 = .int j ∧ Cn i j ∧ rv = .val (.int (g i j))) → PE X (.BinOp a op b pos) (tG C lV (binV op x y)) := by
    intro g Cn ho hi
    refine core ho fun d1 d2 rv v w Hf H Q σ ρ S r1 r2 e k => ?_
    obtain ⟨i, j, rfl, rfl, hc, rfl⟩ := hi d1 d2 rv e
    exact ⟨i, j, r1.int, r2.int, hc, k _ Hf H S (Evl.Ex.refl _) (.int _)⟩
  cases op with
  | Add =>
    refine core (r := fun v w H Q => (rI0 fun i j => .int (i + j)) v w H Q ∨ (rCatA X.K v w H Q ∨ (rCat v w H Q ∨ (∃ i j, v = .str i ∧ w = .str j ∧ i.length + j.length ≤ sizeLine ∧ Q (.str (i ++ j)) H)))) (op_add.or (op_catA.or (op_cat.or op_add_str))) fun d1 d2 rv v w Hf H Q σ ρ S r1 r2 e k => ?_
    unfold binD at e
    split at e
    · cases e; exact .inl ⟨_, _, r1.int, r2.int, k _ Hf H S (Evl.Ex.refl _) (.int _)⟩
    · rename_i xs ys _
      split at e
      · rename_i hz
        cases e
        obtain ⟨a, vs, rfl, h1, p1, q1⟩ := r1.tup S.ex
        obtain ⟨b, ws, rfl, h2, p2, q2⟩ := r2.tup S.ex
        refine .inr (.inl ⟨a, b, vs, ws, rfl, rfl, hK ▸ h1, hK ▸ h2, by rw [p1.length, p2.length]; exact sz hz, fun z => ?_, fun z z2 => ?_, fun z z2 p np => ?_⟩)
        · refine k _ Hf H S (Evl.Ex.refl _) ?_
          rw [p1.nil_iff.mp z]; exact q2
        · refine k _ Hf H S (Evl.Ex.refl _) ?_
          show Rp _ _ _ (.tup (xs ++ ys))
          rw [p2.nil_iff.mp z2, List.append_nil]; exact q1
        · obtain ⟨S2, ex2, _⟩ := S.laid (o := .tup (vs ++ ws)) np
          exact k _ _ _ S2 ex2 (.tup (SqT.of upd_same) ((p1.append p2).mono ex2))
      · cases e
    · rename_i xs ys _
      split at e
      · rename_i hz
        cases e
        obtain ⟨a, vs, rfl, h1, p1⟩ := r1.lst S.ex
        obtain ⟨b, ws, rfl, h2, p2⟩ := r2.lst S.ex
        refine .inr (.inr (.inl ⟨a, b, vs, ws, rfl, rfl, h1, h2, by rw [p1.length, p2.length]; exact sz hz, fun p np => ?_⟩))
        exact k _ Hf _ (S.made np) (Evl.Ex.refl _) ⟨p, rfl, S.H0none np, .lst (Evl.fresh_back S.ex np) upd_same (p1.append p2), S.apart np⟩
      · cases e
    · split at e
      · rename_i hz
        cases e
        exact .inr (.inr (.inr ⟨_, _, r1.str, r2.str, sz hz, k _ Hf H S (Evl.Ex.refl _) (.str _)⟩))
      · cases e
    all_goals first | (exfalso; simp_all; done) | cases e
  | Sub =>
    refine core op_sub fun d1 d2 rv v w Hf H Q σ ρ S r1 r2 e k => ?_
    unfold binD at e
    split at e
    all_goals first | (exfalso; simp_all; done) | (cases e; exact ⟨_, _, r1.int, r2.int, k _ Hf H S (Evl.Ex.refl _) (.int _)⟩)
  | Mult =>
    refine intOnly (g := fun i j => i * j) op_mul fun d1 d2 rv e => ?_
    unfold binD at e
    split at e
    all_goals first | (exfalso; simp_all; done) | (split at e; (cases e; exact ⟨_, _, rfl, rfl, by assumption, rfl⟩); cases e)
  | Mod =>
    refine intOnly (g := fun i j => i % j) op_mod fun d1 d2 rv e => ?_
    unfold binD at e
    split at e
    all_goals first | (exfalso; simp_all; done) | (split at e; (cases e; exact ⟨_, _, rfl, rfl, by assumption, rfl⟩); cases e)
  | FloorDiv =>
    refine intOnly (g := fun i j => i / j) op_fdiv fun d1 d2 rv e => ?_
    unfold binD at e
    split at e
    all_goals first | (exfalso; simp_all; done) | (split at e; (cases e; exact ⟨_, _, rfl, rfl, by assumption, rfl⟩); cases e)
  | Pow =>
    refine intOnly (g := fun i j => i ^ j.toNat) op_pow fun d1 d2 rv e => ?_
    unfold binD at e
    split at e
    all_goals first | (exfalso; simp_all; done) | (split at e; (cases e; exact ⟨_, _, rfl, rfl, by assumption, rfl⟩); cases e)
  | _ => exact absurd sup (by simp [supOp])
end
end DI
set_option maxRecDepth 100000
set_option maxHeartbeats 4000000
namespace DI
open PySem PySem.Spec PyProof.Rows L2

/-! ### == and in, on plain data -/
def okD (d : D) : Bool := match toPy d with
  | some p => SeqAt.shaped p
  | none => false
def eqvD (x y : D) : Bool := match toPy x, toPy y with
  | some p, some q => PyData.eqv p q
  | _, _ => false
def eqD (x y : D) : Option Bool := if okD x && okD y then some (eqvD x y) else none
def inD (x : D) : D → Option Bool
  | .lst ds => if okD x && okD (.lst ds) then some (ds.any fun z => eqvD z x) else none
  | .tup ds => if okD x && okD (.tup ds) then some (ds.any fun z => eqvD z x) else none
  | _ => none
def cmpD : CmpOp → D → D → Option Bool
  | .Eq, x, y => eqD x y
  | .NotEq, x, y => (eqD x y).map (!·)
  | .Lt, .int i, .int j => some (decide (i < j))
  | .LtE, .int i, .int j => some (decide (i ≤ j))
  | .Gt, .int i, .int j => some (decide (j < i))
  | .GtE, .int i, .int j => some (decide (j ≤ i))
  | .Is, x, .non => some (match x with | .non => true | _ => false)
  | .IsNot, x, .non => some (match x with | .non => false | _ => true)
  | .In, x, y => inD x y
  | .NotIn, x, y => (inD x y).map (!·)
  | _, _, _ => none

section
variable {K : Kc} {H : Hp}
theorem toPyA_any {d : D} {p : PyData} (hd : toPy d = some p) : ∀ {ds : List D} {ps : List PyData}, toPyA ds = some ps → (ds.any fun z => eqvD z d) = ps.any fun z => PyData.eqv z p
  | [], ps, e => by simp only [toPyA, Option.some.injEq] at e; subst e; rfl
  | x :: xs, ps, e => by
    simp only [toPyA] at e
    cases h1 : toPy x with
    | none => rw [h1] at e; simp at e
    | some q =>
      cases h2 : toPyA xs with
      | none => rw [h1, h2] at e; simp at e
      | some qs =>
        rw [h1, h2] at e; simp only [Option.some.injEq] at e; subst e
        rw [List.any_cons, List.any_cons, toPyA_any hd h2]
        unfold eqvD
        rw [h1, hd]
theorem okD_inv {d : D} (h : okD d = true) : ∃ p, toPy d = some p ∧ SeqAt.shaped p = true := by
  unfold okD at h
  split at h
  · rename_i p e; exact ⟨p, e, h⟩
  · cases h
end
section
variable {X : Cx}
def rInT (K : PySem.W.Frag) : R2 := fun x y H Q => ∃ d ds, Dp K H x d ∧ Dp K H y (.tuple ds) ∧ SeqAt.shaped d = true ∧ SeqAt.shaped (.tuple ds) = true ∧ Q (.bl (ds.any fun z => PyData.eqv z d)) H
def rNotInT (K : PySem.W.Frag) : R2 := fun x y H Q => ∃ d ds, Dp K H x d ∧ Dp K H y (.tuple ds) ∧ SeqAt.shaped d = true ∧ SeqAt.shaped (.tuple ds) = true ∧ Q (.bl (!ds.any fun z => PyData.eqv z d)) H
theorem op_inT (hu : X.A.units + 65 < cLine) : OpR X (compareOp .In) (rInT X.K) := by
  intro pins s σ H x y v u Q I rx ry h
  obtain ⟨d, ds, hd, he, sd, se, q⟩ := h
  obtain ⟨as, r1⟩ := Dp.reads I d x v hd rx
  obtain ⟨bs, r2⟩ := Dp.reads I (.tuple ds) y u he ry
  exact SeqAt.in_tuple_reads r2 r1 (by have := SeqAt.canLay_of_shaped se; simpa [PyData.canLay0] using this) (SeqAt.canLay_of_shaped sd) (room_in_shaped sd hu) ⟨.bl _, H, I, rfl, q⟩
theorem op_notInT (hu : X.A.units + 65 < cLine) : OpR X (compareOp .NotIn) (rNotInT X.K) := by
  intro pins s σ H x y v u Q I rx ry h
  obtain ⟨d, ds, hd, he, sd, se, q⟩ := h
  obtain ⟨as, r1⟩ := Dp.reads I d x v hd rx
  obtain ⟨bs, r2⟩ := Dp.reads I (.tuple ds) y u he ry
  exact SeqAt.notIn_tuple_reads r2 r1 (by have := SeqAt.canLay_of_shaped se; simpa [PyData.canLay0] using this) (SeqAt.canLay_of_shaped sd) (room_in_shaped sd hu) ⟨.bl _, H, I, rfl, q⟩
/-- a comparison's rule, by values -/
def rCmp (K : Kc) (op : CmpOp) : R2 := fun v w H Q => ∃ d1 d2 b, Rp K H v d1 ∧ Rp K H w d2 ∧ cmpD op d1 d2 = some b ∧ Q (.bl b) H
theorem op_cmpD {K : Kc} (hK : X.K = K.K) (hu : X.A.units + 65 < cLine) (op : CmpOp) : OpR X (compareOp op) (rCmp K op) := by
  have eqs : ∀ {d1 d2 : D} {b : Bool}, eqD d1 d2 = some b → ∃ p q, toPy d1 = some p ∧ toPy d2 = some q ∧ SeqAt.shaped p = true ∧ SeqAt.shaped q = true ∧ b = PyData.eqv p q := by
    intro d1 d2 b e
    unfold eqD at e
    split at e
    · rename_i h
      rw [Bool.and_eq_true] at h
      obtain ⟨p, e1, s1⟩ := okD_inv h.1
      obtain ⟨q, e2, s2⟩ := okD_inv h.2
      cases e
      refine ⟨p, q, e1, e2, s1, s2, ?_⟩
      unfold eqvD
      rw [e1, e2]
    · cases e
  have ins : ∀ {d1 d2 : D} {b : Bool}, inD d1 d2 = some b → ∃ p qs, toPy d1 = some p ∧ SeqAt.shaped p = true ∧ b = (qs.any fun z => PyData.eqv z p) ∧ ((toPy d2 = some (.list qs) ∧ SeqAt.shaped (.list qs) = true) ∨ (toPy d2 = some (.tuple qs) ∧ SeqAt.shaped (.tuple qs) = true)) := by
    intro d1 d2 b e
    cases d2 with
    | lst ds =>
      simp only [inD] at e
      split at e
      · rename_i h
        rw [Bool.and_eq_true] at h
        obtain ⟨p, e1, s1⟩ := okD_inv h.1
        obtain ⟨q, e2, s2⟩ := okD_inv h.2
        cases e
        simp only [toPy, Option.map_eq_some_iff] at e2
        obtain ⟨qs, e2, rfl⟩ := e2
        exact ⟨p, qs, e1, s1, toPyA_any e1 e2, .inl ⟨by simp [toPy, e2], s2⟩⟩
      · cases e
    | tup ds =>
      simp only [inD] at e
      split at e
      · rename_i h
        rw [Bool.and_eq_true] at h
        obtain ⟨p, e1, s1⟩ := okD_inv h.1
        obtain ⟨q, e2, s2⟩ := okD_inv h.2
        cases e
        simp only [toPy, Option.map_eq_some_iff] at e2
        obtain ⟨qs, e2, rfl⟩ := e2
        exact ⟨p, qs, e1, s1, toPyA_any e1 e2, .inr ⟨by simp [toPy, e2], s2⟩⟩
      · cases e
    | _ => simp [inD] at e
  intro pins s σ H x y v u Q I rx ry h
  obtain ⟨d1, d2, b, r1, r2, e, q⟩ := h
  cases op with
  | Eq =>
    obtain ⟨p, p', e1, e2, s1, s2, rfl⟩ := eqs e
    exact op_eqD (by omega) pins s σ H x y v u Q I rx ry ⟨p, p', hK ▸ r1.dp e1, hK ▸ r2.dp e2, s1, s2, q⟩
  | NotEq =>
    simp only [cmpD, Option.map_eq_some_iff] at e
    obtain ⟨b', e, rfl⟩ := e
    obtain ⟨p, p', e1, e2, s1, s2, rfl⟩ := eqs e
    exact op_neD (by omega) pins s σ H x y v u Q I rx ry ⟨p, p', hK ▸ r1.dp e1, hK ▸ r2.dp e2, s1, s2, q⟩
  | Lt =>
    cases d1 <;> cases d2 <;> simp only [cmpD, Option.some.injEq, reduceCtorEq] at e
    subst e; cases r1; cases r2
    exact op_lt pins s σ H _ _ v u Q I rx ry ⟨_, _, rfl, rfl, q⟩
  | LtE =>
    cases d1 <;> cases d2 <;> simp only [cmpD, Option.some.injEq, reduceCtorEq] at e
    subst e; cases r1; cases r2
    exact op_le pins s σ H _ _ v u Q I rx ry ⟨_, _, rfl, rfl, q⟩
  | Gt =>
    cases d1 <;> cases d2 <;> simp only [cmpD, Option.some.injEq, reduceCtorEq] at e
    subst e; cases r1; cases r2
    exact op_gt pins s σ H _ _ v u Q I rx ry ⟨_, _, rfl, rfl, q⟩
  | GtE =>
    cases d1 <;> cases d2 <;> simp only [cmpD, Option.some.injEq, reduceCtorEq] at e
    subst e; cases r1; cases r2
    exact op_ge pins s σ H _ _ v u Q I rx ry ⟨_, _, rfl, rfl, q⟩
  | Is =>
    cases d2 <;> simp only [cmpD, Option.some.injEq, reduceCtorEq] at e
    subst e; cases r2
    refine op_isN pins s σ H x _ v u Q I rx ry ⟨rfl, ?_⟩
    cases r1 <;> exact q
  | IsNot =>
    cases d2 <;> simp only [cmpD, Option.some.injEq, reduceCtorEq] at e
    subst e; cases r2
    refine op_notN pins s σ H x _ v u Q I rx ry ⟨rfl, ?_⟩
    cases r1 <;> exact q
  | In =>
    obtain ⟨p, qs, e1, s1, rfl, ⟨e2, s2⟩ | ⟨e2, s2⟩⟩ := ins e
    · exact op_inD hu pins s σ H x y v u Q I rx ry ⟨p, qs, hK ▸ r1.dp e1, hK ▸ r2.dp e2, s1, s2, q⟩
    · exact op_inT hu pins s σ H x y v u Q I rx ry ⟨p, qs, hK ▸ r1.dp e1, hK ▸ r2.dp e2, s1, s2, q⟩
  | NotIn =>
    simp only [cmpD, Option.map_eq_some_iff] at e
    obtain ⟨b', e, rfl⟩ := e
    obtain ⟨p, qs, e1, s1, rfl, ⟨e2, s2⟩ | ⟨e2, s2⟩⟩ := ins e
    · exact op_notInD hu pins s σ H x y v u Q I rx ry ⟨p, qs, hK ▸ r1.dp e1, hK ▸ r2.dp e2, s1, s2, q⟩
    · exact op_notInT hu pins s σ H x y v u Q I rx ry ⟨p, qs, hK ▸ r1.dp e1, hK ▸ r2.dp e2, s1, s2, q⟩
end

section
variable {C : Ck} {X : Cx}
def optB (o : Option Bool) : Den Bool := fun ρ => o.map fun r => .ok r ρ
/-- one comparison -/
def cmpB (op : CmpOp) (x : Den D) (y : Den CO) : Den Bool := bnd x fun d1 => bnd y fun c => fun ρ => match coGet ρ c with
  | some d2 => optB (cmpD op d1 d2) ρ
  | none => none
def blV (x : Den Bool) : Den RV := bnd x fun b => ret (.val (.bl b))
theorem cmp_core {op : CmpOp} {x : Den D} {y : Den CO} {σ : L2.St} {H Hf : Hp} {ρ : Rho} {o : Out Bool} {Q : Bool → Hp → Prop} (S : Stt C.W Hf H σ ρ) (e : cmpB op x y ρ = some o) (f : Fin C lB σ Hf o Q) :
    tOp (rCmp C.W.K op) (tG C lD x) (tG C lC y) σ H fun v H' => ∃ k, v = .bl k ∧ Q k H' := by
  refine tG_bnd' S e f fun v H1 Hf1 ρ1 d1 S1 ex1 r1 e1 f1 => ?_
  refine tG_bnd' S1 e1 f1 fun w H2 Hf2 ρ2 c S2 ex2 l2 e2 f2 => ?_
  split at e2
  · rename_i d2 g2
    unfold optB at e2
    rw [Option.map_eq_some_iff] at e2
    obtain ⟨b, hb, rfl⟩ := e2
    refine ⟨d1, d2, b, ?_, ?_, hb, b, rfl, f2 b Hf2 H2 S2 (Evl.Ex.refl _) rfl⟩
    · exact Rp.mono (ex2.trans S2.ex) r1
    · exact (lC.get l2 S2 (Evl.Ex.refl _) g2).now S2.ex
  · cases e2
theorem pt_cmpD (hK : X.K = C.W.K.K) (hu : X.A.units + 65 < cLine) {a b : Expr} {op : CmpOp} {pos : Pos} {x : Den D} {y : Den CO} (ha : PE X a (tG C lD x)) (hb : PE X b (tG C lC y)) (hm : behindInMarks op b = false) : PT X (.Compare a [op] [b] pos) (tG C lB (cmpB op x y)) := by
  refine (pt_cmpR (op_cmpD hK hu op) ha hb hm).imp fun σ H Q hq => ?_
  obtain ⟨Hf, ρ, o, S, e, f⟩ := hq
  exact cmp_core S e f
theorem Fin.blV {x : Den Bool} {σ : L2.St} {H Hf : Hp} {ρ : Rho} {o : Out RV} {Q : VK} (S : Stt C.W Hf H σ ρ) (e : blV x ρ = some o) (f : Fin C lV σ Hf o Q) : ∃ o', x ρ = some o' ∧ Fin C lB σ Hf o' fun b H' => Q (.bl b) H' := by
  unfold DI.blV bnd at e
  split at e
  · cases e
  · rename_i c d ρ' h
    cases e
    exact ⟨_, h, f⟩
  · rename_i b ρ' h
    cases e
    refine ⟨_, h, fun b' Hf' H' S' ex p => ?_⟩
    have p' : b' = b := p
    subst p'
    exact f _ Hf' H' S' ex (.bl _)
theorem pe_cmpD (hK : X.K = C.W.K.K) (hu : X.A.units + 65 < cLine) {a b : Expr} {op : CmpOp} {pos : Pos} {x : Den D} {y : Den CO} (ha : PE X a (tG C lD x)) (hb : PE X b (tG C lC y)) (hm : behindInMarks op b = false) : PE X (.Compare a [op] [b] pos) (tG C lV (blV (cmpB op x y))) := by
  refine (pe_cmpR (op_cmpD hK hu op) ha hb hm).imp fun σ H Q hq => ?_
  obtain ⟨Hf, ρ, o, S, e, f⟩ := hq
  obtain ⟨o', e', f'⟩ := f.blV S e
  have h := cmp_core S e' f'
  -- the value is the bool
  refine tG_mono (fun v H1 q => tG_mono (fun w H2 q2 => ?_) q) h
  obtain ⟨d1, d2, b, r1, r2, hb, k, hk, q⟩ := q2
  cases hk
  exact ⟨d1, d2, b, r1, r2, hb, q⟩
end
end DI
set_option maxRecDepth 100000
set_option maxHeartbeats 4000000
namespace DI
open PySem PySem.Spec PyProof.Rows L2

/-! ### truth -/
def truthD : D → Option Bool
  | .non => some false
  | .bl b => some b
  | .int i => some (i != 0)
  | .str s => if s.length ≤ 100000 then some ((s.length : Int) != 0) else none
  | .lst xs => some (!xs.isEmpty)
  | .fls xs => some (!xs.isEmpty)
  | .tup xs => some (!xs.isEmpty)
  | .obj _ _ => none
theorem RpA.isEmpty {K : Kc} {H : Hp} {vs : List V} {ds : List D} (r : RpA K H vs ds) : vs.isEmpty = ds.isEmpty := by cases r <;> rfl
theorem truthD_ok {K : Kc} {H : Hp} {v : V} {d : D} {b : Bool} (r : Rp K H v d) (e : truthD d = some b) : TruV K.K v H b := by
  cases d with
  | non => cases r; cases e; rfl
  | bl x => cases r; cases e; rfl
  | int i => cases r; cases e; rfl
  | str s =>
    cases r
    simp only [truthD] at e
    split at e
    · rename_i h; cases e; exact ⟨sz h, rfl⟩
    · cases e
  | lst xs => cases r with | lst a c => cases e; exact .inl ⟨_, .inl (.inl a), by rw [c.isEmpty]⟩
  | fls xs => cases r with | fls a c => cases e; exact .inl ⟨_, a, by rw [c.isEmpty]⟩
  | tup xs => cases r with | tup a c => cases e; exact .inr (.inl ⟨_, a, by rw [c.isEmpty]⟩)
  | obj _ _ => cases e
section
variable {C : Ck} {X : Cx}
def truC (y : Den CO) : Den Bool := bnd y fun c => fun ρ => match coGet ρ c with
  | some d => optB (truthD d) ρ
  | none => none
theorem pt_truD (hK : X.K = C.W.K.K) {e : Expr} {y : Den CO} (h : PE X e (tG C lC y)) (he : ∀ whole, isTrue e X.env whole = (do let v ← whole; standAt e.pos; holding [v] (truthy v))) : PT X e (tG C lB (truC y)) := by
  refine (pt_truth h he).imp fun σ H Q hq => ?_
  obtain ⟨Hf, ρ, o, S, e, f⟩ := hq
  refine tG_bnd' S e f fun v H1 Hf1 ρ1 c S1 ex1 l e1 f1 => ?_
  split at e1
  · rename_i d g
    unfold optB at e1
    rw [Option.map_eq_some_iff] at e1
    obtain ⟨b, hb, rfl⟩ := e1
    exact ⟨b, hK ▸ truthD_ok ((lC.get l S1 (Evl.Ex.refl _) g).now S1.ex) hb, f1 b Hf1 H1 S1 (Evl.Ex.refl _) rfl⟩
  · cases e1
/-! ### and, or, not, a if t else b -/
def andB : List (Den Bool) → Den Bool
  | [] => stuck
  | [x] => x
  | x :: y :: r => bnd x fun b => if b then andB (y :: r) else ret false
def orB : List (Den Bool) → Den Bool
  | [] => stuck
  | [x] => x
  | x :: y :: r => bnd x fun b => if b then ret true else orB (y :: r)
def notB (x : Den Bool) : Den Bool := bnd x fun b => ret (!b)
theorem pw_andD : ∀ {es : List Expr} {xs : List (Den Bool)} {pos : Pos}, Paired (fun e x => PT X e (tG C lB x)) es xs → es ≠ [] → PW X (.BoolOp .And es pos) (tG C lB (andB xs))
  | [], _, _, .nil, h => absurd rfl h
  | [a], [x], _, .cons ha .nil, _ => pw_and1 ha
  | a :: b :: es, x :: y :: xs, pos, .cons ha (.cons hb hr), _ => by
    refine (pw_and ha (pw_andD (.cons hb hr) (by simp))).imp fun σ H Q hq => ?_
    obtain ⟨Hf, ρ, o, S, e, f⟩ := hq
    refine tG_bnd' S e f fun c H1 Hf1 ρ1 b S1 ex1 l e1 f1 => ?_
    have l' : c = b := l
    subst l'
    cases c with
    | true => exact ⟨Hf1, ρ1, o, S1, e1, f1⟩
    | false => exact f1.ret e1 S1 (Evl.Ex.refl _) rfl
theorem pw_orD : ∀ {es : List Expr} {xs : List (Den Bool)} {pos : Pos}, Paired (fun e x => PT X e (tG C lB x)) es xs → es ≠ [] → PW X (.BoolOp .Or es pos) (tG C lB (orB xs))
  | [], _, _, .nil, h => absurd rfl h
  | [a], [x], _, .cons ha .nil, _ => pw_or1 ha
  | a :: b :: es, x :: y :: xs, pos, .cons ha (.cons hb hr), _ => by
    refine (pw_or ha (pw_orD (.cons hb hr) (by simp))).imp fun σ H Q hq => ?_
    obtain ⟨Hf, ρ, o, S, e, f⟩ := hq
    refine tG_bnd' S e f fun c H1 Hf1 ρ1 b S1 ex1 l e1 f1 => ?_
    have l' : c = b := l
    subst l'
    cases c with
    | false => exact ⟨Hf1, ρ1, o, S1, e1, f1⟩
    | true => exact f1.ret e1 S1 (Evl.Ex.refl _) rfl
theorem pt_notD {e : Expr} {pos : Pos} {x : Den Bool} (h : PT X e (tG C lB x)) : PT X (.UnaryOp .Not e pos) (tG C lB (notB x)) := by
  refine (pt_not h).imp fun σ H Q hq => ?_
  obtain ⟨Hf, ρ, o, S, e, f⟩ := hq
  refine tG_bnd' S e f fun c H1 Hf1 ρ1 b S1 ex1 l e1 f1 => ?_
  have l' : c = b := l
  subst l'
  exact f1.ret e1 S1 (Evl.Ex.refl _) rfl
/-- .. as values: all but the last True or False -/
def isBl (x : Den D) (k : Bool → Den RV) : Den RV := bnd x fun d => match d with
  | .bl b => k b
  | _ => stuck
def andV : List (Den RV) → Den RV
  | [] => stuck
  | [x] => x
  | x :: y :: r => isBl (frzD x) fun b => if b then andV (y :: r) else ret (.val (.bl false))
def orV : List (Den RV) → Den RV
  | [] => stuck
  | [x] => x
  | x :: y :: r => isBl (frzD x) fun b => if b then ret (.val (.bl true)) else orV (y :: r)
def notV (x : Den RV) : Den RV := isBl (frzD x) fun b => ret (.val (.bl (!b)))
theorem isBl_inv {x : Den D} {k : Bool → Den RV} {σ : L2.St} {H Hf : Hp} {ρ : Rho} {o : Out RV} {Q : VK} (S : Stt C.W Hf H σ ρ) (e : isBl x k ρ = some o) (f : Fin C lV σ Hf o Q) {Q' : VK}
    (g : ∀ b H1 Hf1 ρ1, Stt C.W Hf1 H1 σ ρ1 → Ex Hf Hf1 → k b ρ1 = some o → Fin C lV σ Hf1 o Q → Q' (.bl b) H1) : tG C lD x σ H Q' := by
  refine tG_bnd' S e f fun v H1 Hf1 ρ1 d S1 ex1 l e1 f1 => ?_
  split at e1
  · rename_i b
    cases (show Rp C.W.K Hf1 v (.bl b) from l)
    exact g b H1 Hf1 ρ1 S1 ex1 e1 f1
  · cases e1
theorem pe_andD : ∀ {es : List Expr} {xs : List (Den RV)} {pos : Pos}, Paired (fun e x => PE X e (tG C lV x)) es xs → es ≠ [] → PE X (.BoolOp .And es pos) (tG C lV (andV xs))
  | [], _, _, .nil, h => absurd rfl h
  | [a], [x], _, .cons ha .nil, _ => pe_one ha
  | a :: b :: es, x :: y :: xs, pos, .cons ha (.cons hb hr), _ => by
    refine (pe_and (frzD_ok ha) (pe_andD (.cons hb hr) (by simp))).imp fun σ H Q hq => ?_
    obtain ⟨Hf, ρ, o, S, e, f⟩ := hq
    refine isBl_inv S e f fun b H1 Hf1 ρ1 S1 ex1 e1 f1 => ⟨b, rfl, ?_⟩
    cases b with
    | true => exact ⟨Hf1, ρ1, o, S1, e1, f1⟩
    | false => exact f1.ret e1 S1 (Evl.Ex.refl _) (.bl _)
theorem pe_orD : ∀ {es : List Expr} {xs : List (Den RV)} {pos : Pos}, Paired (fun e x => PE X e (tG C lV x)) es xs → es ≠ [] → PE X (.BoolOp .Or es pos) (tG C lV (orV xs))
  | [], _, _, .nil, h => absurd rfl h
  | [a], [x], _, .cons ha .nil, _ => pe_one ha
  | a :: b :: es, x :: y :: xs, pos, .cons ha (.cons hb hr), _ => by
    refine (pe_or (frzD_ok ha) (pe_orD (.cons hb hr) (by simp))).imp fun σ H Q hq => ?_
    obtain ⟨Hf, ρ, o, S, e, f⟩ := hq
    refine isBl_inv S e f fun b H1 Hf1 ρ1 S1 ex1 e1 f1 => ⟨b, rfl, ?_⟩
    cases b with
    | false => exact ⟨Hf1, ρ1, o, S1, e1, f1⟩
    | true => exact f1.ret e1 S1 (Evl.Ex.refl _) (.bl _)
theorem pe_notD {e : Expr} {pos : Pos} {x : Den RV} (h : PE X e (tG C lV x)) : PE X (.UnaryOp .Not e pos) (tG C lV (notV x)) := by
  refine (pe_not (frzD_ok h)).imp fun σ H Q hq => ?_
  obtain ⟨Hf, ρ, o, S, e, f⟩ := hq
  exact isBl_inv S e f fun b H1 Hf1 ρ1 S1 ex1 e1 f1 => ⟨b, rfl, f1.ret e1 S1 (Evl.Ex.refl _) (.bl _)⟩
def ifV (t : Den Bool) (x y : Den RV) : Den RV := bnd t fun b => if b then x else y
theorem pe_ifD {c a b : Expr} {pos : Pos} {t : Den Bool} {x y : Den RV} (hc : PT X c (tG C lB t)) (ha : PE X a (tG C lV x)) (hb : PE X b (tG C lV y)) : PE X (.IfExp c a b pos) (tG C lV (ifV t x y)) := by
  refine (pe_ifExp hc ha hb).imp fun σ H Q hq => ?_
  obtain ⟨Hf, ρ, o, S, e, f⟩ := hq
  refine tG_bnd' S e f fun c H1 Hf1 ρ1 b S1 ex1 l e1 f1 => ?_
  have l' : c = b := l
  subst l'
  cases c with
  | true => exact ⟨Hf1, ρ1, o, S1, e1, f1⟩
  | false => exact ⟨Hf1, ρ1, o, S1, e1, f1⟩
/-- -a -/
def negV (x : Den D) : Den RV := bnd x fun d => match d with
  | .int i => ret (.val (.int (-i)))
  | _ => stuck
theorem pe_negD {e : Expr} {pos : Pos} {x : Den D} (h : PE X e (tG C lD x)) : PE X (.UnaryOp .USub e pos) (tG C lV (negV x)) := by
  refine (pe_un un_neg h).imp fun σ H Q hq => ?_
  obtain ⟨Hf, ρ, o, S, e, f⟩ := hq
  refine tG_bnd' S e f fun v H1 Hf1 ρ1 d S1 ex1 l e1 f1 => ?_
  split at e1
  · rename_i i
    cases (show Rp C.W.K Hf1 v (.int i) from l)
    exact ⟨i, rfl, f1.ret e1 S1 (Evl.Ex.refl _) (.int _)⟩
  · cases e1

/-! ### items, slices -/
def ixD : D → D → Option D
  | .lst ds, .int i => atI ds i
  | .fls ds, .int i => atI ds i
  | .tup ds, .int i => atI ds i
  | .str s, .int i => if s.length ≤ 100000 then (atI s.cps.toList i).map fun c => .str ⟨#[c]⟩ else none
  | _, _ => none
def optD (o : Option D) : Den RV := fun ρ => o.map fun r => .ok (.val r) ρ
def ixV (x : Den CO) (y : Den D) : Den RV := bnd x fun c => bnd y fun d2 => fun ρ => match coGet ρ c with
  | some d1 => optD (ixD d1 d2) ρ
  | none => none
theorem RpA.atI {K : Kc} {H : Hp} {vs : List V} {ds : List D} {i : Int} {d : D} (r : RpA K H vs ds) (e : L2.atI ds i = some d) : ∃ v, L2.atI vs i = some v ∧ Rp K H v d := by
  unfold L2.atI at e ⊢
  rw [r.length]
  cases h : ixN ds.length i with
  | none => rw [h] at e; cases e
  | some j => rw [h] at e; exact r.get e
theorem pe_ixD (hK : X.K = C.W.K.K) {a b : Expr} {pos : Pos} {x : Den CO} {y : Den D} (ha : PE X a (tG C lC x)) (hb : PE X b (tG C lD y)) (hs : PlainIx b) : PE X (.Subscript a b pos) (tG C lV (ixV x y)) := by
  refine (pe_ix ix_seq ha hb hs).imp fun σ H Q hq => ?_
  obtain ⟨Hf, ρ, o, S, e, f⟩ := hq
  refine tG_bnd' S e f fun v H1 Hf1 ρ1 c S1 ex1 l e1 f1 => ?_
  refine tG_bnd' S1 e1 f1 fun w H2 Hf2 ρ2 d2 S2 ex2 r2 e2 f2 => ?_
  split at e2
  · rename_i d1 g
    unfold optD at e2
    rw [Option.map_eq_some_iff] at e2
    obtain ⟨d, hd, rfl⟩ := e2
    have l' := lC.get l S2 ex2 g
    have r2' : Rp C.W.K Hf2 w d2 := r2
    unfold ixD at hd
    split at hd
    · obtain ⟨p, xs, rfl, h1, ra⟩ := l'.lst S2.ex
      cases r2'
      obtain ⟨u, hu, ru⟩ := ra.atI hd
      exact .inl ⟨p, xs, _, u, rfl, rfl, .inl (.inl h1), hu, f2 u Hf2 H2 S2 (Evl.Ex.refl _) ru⟩
    · obtain ⟨p, xs, rfl, h1, ra⟩ := l'.fls S2.ex
      cases r2'
      obtain ⟨u, hu, ru⟩ := ra.atI hd
      exact .inl ⟨p, xs, _, u, rfl, rfl, hK ▸ h1, hu, f2 u Hf2 H2 S2 (Evl.Ex.refl _) ru⟩
    · obtain ⟨p, xs, rfl, h1, ra, _⟩ := l'.tup S2.ex
      cases r2'
      obtain ⟨u, hu, ru⟩ := ra.atI hd
      exact .inr (.inl ⟨p, xs, _, u, rfl, rfl, hK ▸ h1, hu, f2 u Hf2 H2 S2 (Evl.Ex.refl _) ru⟩)
    · split at hd
      · rename_i hz
        rw [Option.map_eq_some_iff] at hd
        obtain ⟨c, hc, rfl⟩ := hd
        cases r2'
        exact .inr (.inr ⟨_, _, c, l'.str, rfl, sz hz, hc, f2 _ Hf2 H2 S2 (Evl.Ex.refl _) (.str _)⟩)
      · cases hd
    · cases hd
  · cases e2
/-- a bound of a slice -/
def lO : Lie (Option Int) (Option Int) := fun _ _ _ _ _ a b => b = a
def noPart : Den (Option Int) := ret none
def part (x : Den D) : Den (Option Int) := bnd x fun d => match d with
  | .int i => ret (some i)
  | _ => stuck
theorem po_noneD : PO X none (tG C lO noPart) := by
  refine ⟨fun pins s σ H Q I hq => po_none.run pins s σ H Q I ?_⟩
  obtain ⟨Hf, ρ, o, S, e, f⟩ := hq
  exact f.ret e S (Evl.Ex.refl _) rfl
theorem po_someD {e : Expr} {x : Den D} (h : PE X e (tG C lD x)) : PO X (some e) (tG C lO (part x)) := by
  refine ⟨fun pins s σ H Q I hq => (po_some h).run pins s σ H Q I ?_⟩
  obtain ⟨Hf, ρ, o, S, e, f⟩ := hq
  refine tG_bnd' S e f fun v H1 Hf1 ρ1 d S1 ex1 l e1 f1 => ?_
  split at e1
  · rename_i i
    cases (show Rp C.W.K Hf1 v (.int i) from l)
    exact ⟨i, rfl, f1.ret e1 S1 (Evl.Ex.refl _) rfl⟩
  · cases e1
def cutD (xs : List D) (lo hi : Option Int) : List D := (xs.drop (HT.sIx xs.length 0 lo)).take (HT.sIx xs.length xs.length hi - HT.sIx xs.length 0 lo)
theorem RpA.cut {K : Kc} {H : Hp} {vs : List V} {ds : List D} {lo hi : Option Int} (r : RpA K H vs ds) : RpA K H (cutV vs lo hi) (cutD ds lo hi) := by
  unfold cutV cutD
  rw [r.length]
  exact (r.drop _).take _
def slcD (d : D) (lo hi : Option Int) : Option RV := match d with
  | .lst ds => some (.new (.lst (cutD ds lo hi)))
  | .fls ds => some (.new (.lst (cutD ds lo hi)))
  | .tup ds => some (.val (.tup (cutD ds lo hi)))
  | _ => none
def slcV (x : Den CO) (lo hi : Den (Option Int)) : Den RV := bnd x fun c => bnd lo fun l => bnd hi fun h => fun ρ => match coGet ρ c with
  | some d => optV (slcD d l h) ρ
  | none => none
theorem cut_whole {ds : List D} {lo hi : Option Int} (h : HT.sIx ds.length 0 lo = 0 ∧ HT.sIx ds.length ds.length hi = ds.length) : cutD ds lo hi = ds := by
  unfold cutD
  rw [h.1, h.2]
  simp
theorem pe_slcD (hK : X.K = C.W.K.K) {a : Expr} {lo hi : Option Expr} {p2 pos : Pos} {x : Den CO} {l h : Den (Option Int)} (ha : PE X a (tG C lC x)) (hl : PO X lo (tG C lO l)) (hh : PO X hi (tG C lO h)) :
    PE X (.Subscript a (.Slice lo hi none p2) pos) (tG C lV (slcV x l h)) := by
  refine (pe_slice (SlR.or sl_list sl_tupA) ha hl hh).imp fun σ H Q hq => ?_
  obtain ⟨Hf, ρ, o, S, e, f⟩ := hq
  refine tG_bnd' S e f fun v H1 Hf1 ρ1 c S1 ex1 lc e1 f1 => ?_
  refine tG_bnd' S1 e1 f1 fun lo' H2 Hf2 ρ2 lo'' S2 ex2 r2 e2 f2 => ?_
  have r2' : lo' = lo'' := r2
  subst r2'
  refine tG_bnd' S2 e2 f2 fun hi' H3 Hf3 ρ3 hi'' S3 ex3 r3 e3 f3 => ?_
  have r3' : hi' = hi'' := r3
  subst r3'
  split at e3
  · rename_i d g
    unfold optV at e3
    rw [Option.map_eq_some_iff] at e3
    obtain ⟨rv, hd, rfl⟩ := e3
    have l' := lC.get lc S3 (ex2.trans ex3) g
    unfold slcD at hd
    split at hd
    · cases hd
      obtain ⟨p, xs, rfl, h1, ra⟩ := l'.lst S3.ex
      refine .inl ⟨p, xs, rfl, .inl (.inl h1), fun q nq => ?_⟩
      exact f3 _ Hf3 _ (S3.made nq) (Evl.Ex.refl _) ⟨q, rfl, S3.H0none nq, .lst (Evl.fresh_back S3.ex nq) upd_same ra.cut, S3.apart nq⟩
    · cases hd
      obtain ⟨p, xs, rfl, h1, ra⟩ := l'.fls S3.ex
      refine .inl ⟨p, xs, rfl, hK ▸ h1, fun q nq => ?_⟩
      exact f3 _ Hf3 _ (S3.made nq) (Evl.Ex.refl _) ⟨q, rfl, S3.H0none nq, .lst (Evl.fresh_back S3.ex nq) upd_same ra.cut, S3.apart nq⟩
    · cases hd
      obtain ⟨p, xs, rfl, h1, ra, rr⟩ := l'.tup S3.ex
      refine .inr ⟨p, xs, rfl, hK ▸ h1, fun hw => ?_, fun hw q nq => ?_⟩
      · refine f3 _ Hf3 _ S3 (Evl.Ex.refl _) ?_
        show Rp _ _ _ (.tup (cutD _ _ _))
        rw [cut_whole (by rw [← ra.length]; exact hw)]
        exact rr
      · obtain ⟨S4, ex4, _⟩ := S3.laid (o := .tup (cutV xs lo' hi')) nq
        exact f3 _ _ _ S4 ex4 (.tup (SqT.of upd_same) (ra.cut.mono ex4))
    · cases hd
  · cases e3
end
end DI
set_option maxRecDepth 100000
set_option maxHeartbeats 4000000
namespace DI
open PySem PySem.Spec PyProof.Rows L2

/-! ### what the rules ask of the text's outer shape -/
def notStar : Expr → Bool
  | .Starred .. => false
  | _ => true
theorem star_cons {e : Expr} {es : List Expr} {env : Env} (h : notStar e = true) : starEach (e :: es) env = (false, eval e env) :: starEach es env := by
  cases e <;> first | rfl | cases h
theorem star_any {env : Env} {pos : Pos} : ∀ {es : List Expr}, es.all notStar = true → (backTo pos (starEach es env)).any (·.1) = false
  | [], _ => rfl
  | e :: es, h => by
    rw [List.all_cons, Bool.and_eq_true] at h
    rw [star_cons h.1]
    have ih := star_any (env := env) (pos := pos) h.2
    unfold backTo at ih ⊢
    rw [List.map_cons, List.any_cons, ih]
    rfl
def plainT : Expr → Bool
  | .UnaryOp .. => false
  | .BoolOp .. => false
  | .IfExp .. => false
  | .Compare .. => false
  | _ => true
theorem plainT_ok {e : Expr} {env : Env} (h : plainT e = true) : ∀ whole, isTrue e env whole = (do let v ← whole; standAt e.pos; holding [v] (truthy v)) := by
  cases e <;> first | (intro _; rfl) | cases h
def notSlice : Expr → Bool
  | .Slice .. => false
  | _ => true
theorem notSlice_ok {e : Expr} (h : notSlice e = true) : PlainIx e := by
  cases e <;> first | (intro _ _; rfl) | cases h
def notComp : Expr → Bool
  | .ListComp .. => false
  | .SetComp .. => false
  | .DictComp .. => false
  | _ => true
theorem notComp_ok {e : Expr} {t : Option Expr} {l : Nat} {env : Env} (h : notComp e = true) : swapsWith e t l env = pure false := by
  cases e <;> first | rfl | cases h
def notSet : Expr → Bool
  | .Set .. => false
  | _ => true
theorem notSet_iter {e : Expr} {env : Env} (h : notSet e = true) : ∀ x, foldedSetIterable e env x = pure x := by
  intro x
  cases e <;> first | rfl | cases h
theorem notSet_mark {e : Expr} {op : CmpOp} (h : notSet e = true) : behindInMarks op e = false := by
  cases e <;> first | rfl | cases h

section
variable {C : Ck} {X : Cx}
/-! ### built-in functions -/
def call1C (k : D → Option RV) (x : Den CO) : Den RV := bnd x fun c => fun ρ => match coGet ρ c with
  | some d => optV (k d) ρ
  | none => none
/-- len, tuple, list: one argument, only looked into -/
def lenD : D → Option RV
  | .lst ds => some (.val (.int ds.length))
  | .fls ds => some (.val (.int ds.length))
  | .tup ds => some (.val (.int ds.length))
  | .str s => if s.length ≤ 100000 then some (.val (.int s.length)) else none
  | _ => none
def tupleD : D → Option RV
  | .lst ds => some (.val (.tup ds))
  | .fls ds => some (.val (.tup ds))
  | .tup ds => some (.val (.tup ds))
  | _ => none
def listD : D → Option RV
  | .lst ds => some (.new (.lst ds))
  | .fls ds => some (.new (.lst ds))
  | .tup ds => some (.new (.lst ds))
  | _ => none
theorem call1C_inv {k : D → Option RV} {x : Den CO} {σ : L2.St} {H Hf : Hp} {ρ : Rho} {o : Out RV} {Q : VK} (S : Stt C.W Hf H σ ρ) (e : call1C k x ρ = some o) (f : Fin C lV σ Hf o Q) {Q' : V → Hp → Prop}
    (g : ∀ v H1 Hf1 ρ1 d rv, Stt C.W Hf1 H1 σ ρ1 → RpC C.W.K Hf1 H1 v d → k d = some rv → (∀ u Hf' H', Stt C.W Hf' H' σ ρ1 → Ex Hf1 Hf' → RvOk C.W Hf' H' σ ρ1 rv u → Q u H') → Q' v H1) : tG C lC x σ H Q' := by
  refine tG_bnd' S e f fun v H1 Hf1 ρ1 c S1 ex1 l e1 f1 => ?_
  split at e1
  · rename_i d gd
    unfold optV at e1
    rw [Option.map_eq_some_iff] at e1
    obtain ⟨rv, hd, rfl⟩ := e1
    exact g v H1 Hf1 ρ1 d rv S1 (lC.get l S1 (Evl.Ex.refl _) gd) hd f1
  · cases e1
theorem pe_lenD (hK : X.K = C.W.K.K) {e : Expr} {p pos : Pos} {x : Den CO} (hg : Gl X "len") (hm : X.mg "len" = none) (h : PE X e (tG C lC x)) (hs : notStar e = true) : PE X (.Call (.Name "len" p) [e] [] pos) (tG C lV (call1C lenD x)) := by
  refine (pe_callB (call_len) hg hm PySem.boot_len (pa_cons h pa_nil (star_cons hs)) (he := star_cons hs) (hpl := star_any rfl)).imp fun σ H Q hq => ?_
  obtain ⟨Hf, ρ, o, S, e, f⟩ := hq
  refine call1C_inv S e f fun v H1 Hf1 ρ1 d rv S1 r hd k => ?_
  unfold lenD at hd
  split at hd
  · cases hd
    obtain ⟨a, xs, rfl, h1, ra⟩ := r.lst S1.ex
    exact ⟨_, _, rfl, .inl ⟨xs, .inl (.inl h1), ra.length.symm⟩, k _ Hf1 H1 S1 (Evl.Ex.refl _) (.int _)⟩
  · cases hd
    obtain ⟨a, xs, rfl, h1, ra⟩ := r.fls S1.ex
    exact ⟨_, _, rfl, .inl ⟨xs, hK ▸ h1, ra.length.symm⟩, k _ Hf1 H1 S1 (Evl.Ex.refl _) (.int _)⟩
  · cases hd
    obtain ⟨a, xs, rfl, h1, ra, _⟩ := r.tup S1.ex
    exact ⟨_, _, rfl, .inr ⟨xs, hK ▸ h1, ra.length.symm⟩, k _ Hf1 H1 S1 (Evl.Ex.refl _) (.int _)⟩
  · split at hd
    · rename_i hz
      cases hd
      rw [r.str]
      exact ⟨_, _, rfl, ⟨sz hz, rfl⟩, k _ Hf1 H1 S1 (Evl.Ex.refl _) (.int _)⟩
    · cases hd
  · cases hd
theorem pe_tupleD (hK : X.K = C.W.K.K) {e : Expr} {p pos : Pos} {x : Den CO} (hg : Gl X "tuple") (hm : X.mg "tuple" = none) (h : PE X e (tG C lC x)) (hs : notStar e = true) : PE X (.Call (.Name "tuple" p) [e] [] pos) (tG C lV (call1C tupleD x)) := by
  refine (pe_callTy (call_tuple_of) hg hm PyProof.Rows.boot_tuple (pa_cons h pa_nil (star_cons hs)) (he := star_cons hs) (hpl := star_any rfl)).imp fun σ H Q hq => ?_
  obtain ⟨Hf, ρ, o, S, e, f⟩ := hq
  refine call1C_inv S e f fun v H1 Hf1 ρ1 d rv S1 r hd k => ?_
  unfold tupleD at hd
  split at hd
  · cases hd
    obtain ⟨a, xs, rfl, h1, ra⟩ := r.lst S1.ex
    refine ⟨_, _, rfl, .inl ⟨.inl (.inl h1), fun l nl => ?_⟩⟩
    obtain ⟨S2, ex2, _⟩ := S1.laid (o := .tup xs) nl
    exact k _ _ _ S2 ex2 (.tup (SqT.of upd_same) (ra.mono ex2))
  · cases hd
    obtain ⟨a, xs, rfl, h1, ra⟩ := r.fls S1.ex
    refine ⟨_, _, rfl, .inl ⟨hK ▸ h1, fun l nl => ?_⟩⟩
    obtain ⟨S2, ex2, _⟩ := S1.laid (o := .tup xs) nl
    exact k _ _ _ S2 ex2 (.tup (SqT.of upd_same) (ra.mono ex2))
  · cases hd
    obtain ⟨a, xs, rfl, h1, ra, rr⟩ := r.tup S1.ex
    exact ⟨_, _, rfl, .inr ⟨hK ▸ h1, k _ Hf1 H1 S1 (Evl.Ex.refl _) rr⟩⟩
  · cases hd
theorem pe_listD (hK : X.K = C.W.K.K) {e : Expr} {p pos : Pos} {x : Den CO} (hg : Gl X "list") (hm : X.mg "list" = none) (h : PE X e (tG C lC x)) (hs : notStar e = true) : PE X (.Call (.Name "list" p) [e] [] pos) (tG C lV (call1C listD x)) := by
  refine (pe_callTy (call_list_of) hg hm PyProof.Rows.boot_list (pa_cons h pa_nil (star_cons hs)) (he := star_cons hs) (hpl := star_any rfl)).imp fun σ H Q hq => ?_
  obtain ⟨Hf, ρ, o, S, e, f⟩ := hq
  refine call1C_inv S e f fun v H1 Hf1 ρ1 d rv S1 r hd k => ?_
  have fin : ∀ {a : Addr} {xs : List V} {ds : List D}, rv = .new (.lst ds) → RpA C.W.K Hf1 xs ds → ∀ l, H1 l = none → Q (.ref l) (upd H1 l (.lst xs)) := fun {a xs ds} er ra l nl => by
    subst er
    exact k _ Hf1 _ (S1.made nl) (Evl.Ex.refl _) ⟨l, rfl, S1.H0none nl, .lst (Evl.fresh_back S1.ex nl) upd_same ra, S1.apart nl⟩
  unfold listD at hd
  split at hd
  · cases hd
    obtain ⟨a, xs, rfl, h1, ra⟩ := r.lst S1.ex
    exact ⟨_, _, rfl, .inl (.inl (.inl h1)), fin (a := a) rfl ra⟩
  · cases hd
    obtain ⟨a, xs, rfl, h1, ra⟩ := r.fls S1.ex
    exact ⟨_, _, rfl, .inl (hK ▸ h1), fin (a := a) rfl ra⟩
  · cases hd
    obtain ⟨a, xs, rfl, h1, ra, rr⟩ := r.tup S1.ex
    exact ⟨_, _, rfl, .inr (hK ▸ h1), fin (a := a) rfl ra⟩
  · cases hd
/-- functions of plain data: int, abs, max, min -/
def callA (k : List D → Option D) (x : Den (List D)) : Den RV := bnd x fun ds => optD (k ds)
def intD : List D → Option D
  | [.int i] => some (.int i)
  | [.bl b] => some (.int (if b then 1 else 0))
  | _ => none
def absD : List D → Option D
  | [.int i] => some (.int (if i < 0 then -i else i))
  | _ => none
def maxD : List D → Option D
  | [.int i, .int j] => some (.int (if j > i then j else i))
  | _ => none
def minD : List D → Option D
  | [.int i, .int j] => some (.int (if j < i then j else i))
  | _ => none
theorem callA_inv {k : List D → Option D} {x : Den (List D)} {σ : L2.St} {H Hf : Hp} {ρ : Rho} {o : Out RV} {Q : VK} (S : Stt C.W Hf H σ ρ) (e : callA k x ρ = some o) (f : Fin C lV σ Hf o Q) {Q' : List V → Hp → Prop}
    (g : ∀ vs H1 Hf1 ds d, Ex Hf1 H1 → RpA C.W.K Hf1 vs ds → k ds = some d → (∀ u, Rp C.W.K Hf1 u d → Q u H1) → Q' vs H1) : tG C lA x σ H Q' := by
  refine tG_bnd' S e f fun vs H1 Hf1 ρ1 ds S1 ex1 r e1 f1 => ?_
  unfold optD at e1
  rw [Option.map_eq_some_iff] at e1
  obtain ⟨d, hd, rfl⟩ := e1
  exact g vs H1 Hf1 ds d S1.ex r hd fun u ru => f1 u Hf1 H1 S1 (Evl.Ex.refl _) ru
theorem pe_intD {es : List Expr} {e : Expr} {p pos : Pos} {x : Den (List D)} (hg : Gl X "int") (hm : X.mg "int" = none) (h : PA X (e :: es) (tG C lA x)) (hs : (e :: es).all notStar = true) : PE X (.Call (.Name "int" p) (e :: es) [] pos) (tG C lV (callA intD x)) := by
  rw [List.all_cons, Bool.and_eq_true] at hs
  refine (pe_callTy (call_int1) hg hm PyProof.Rows.boot_int h (he := star_cons hs.1) (hpl := star_any hs.2)).imp fun σ H Q hq => ?_
  obtain ⟨Hf, ρ, o, S, e, f⟩ := hq
  refine callA_inv S e f fun vs H1 Hf1 ds d ex r hd k => ?_
  unfold intD at hd
  split at hd
  · cases hd; cases r with | cons a b => cases b; cases a; exact .inl ⟨_, rfl, k _ (.int _)⟩
  · cases hd; cases r with | cons a b => cases b; cases a; exact .inr ⟨_, rfl, k _ (.int _)⟩
  · cases hd
theorem pe_absD {es : List Expr} {e : Expr} {p pos : Pos} {x : Den (List D)} (hg : Gl X "abs") (hm : X.mg "abs" = none) (h : PA X (e :: es) (tG C lA x)) (hs : (e :: es).all notStar = true) : PE X (.Call (.Name "abs" p) (e :: es) [] pos) (tG C lV (callA absD x)) := by
  rw [List.all_cons, Bool.and_eq_true] at hs
  refine (pe_callB (call_abs) hg hm PyProof.Rows.boot_abs h (he := star_cons hs.1) (hpl := star_any hs.2)).imp fun σ H Q hq => ?_
  obtain ⟨Hf, ρ, o, S, e, f⟩ := hq
  refine callA_inv S e f fun vs H1 Hf1 ds d ex r hd k => ?_
  unfold absD at hd
  split at hd
  · cases hd; cases r with | cons a b => cases b; cases a; exact ⟨_, rfl, k _ (.int _)⟩
  · cases hd
theorem pe_maxD (hc : X.calm = true) {es : List Expr} {e : Expr} {p pos : Pos} {x : Den (List D)} (hg : Gl X "max") (hm : X.mg "max" = none) (h : PA X (e :: es) (tG C lA x)) (hs : (e :: es).all notStar = true) : PE X (.Call (.Name "max" p) (e :: es) [] pos) (tG C lV (callA maxD x)) := by
  rw [List.all_cons, Bool.and_eq_true] at hs
  refine (pe_callB (call_max2 hc) hg hm PyProof.Rows.boot_max h (he := star_cons hs.1) (hpl := star_any hs.2)).imp fun σ H Q hq => ?_
  obtain ⟨Hf, ρ, o, S, e, f⟩ := hq
  refine callA_inv S e f fun vs H1 Hf1 ds d ex r hd k => ?_
  unfold maxD at hd
  split at hd
  · cases hd; cases r with | cons a b => cases b with | cons a' b' => cases b'; cases a; cases a'; exact ⟨_, _, rfl, k _ (.int _)⟩
  · cases hd
theorem pe_minD (hc : X.calm = true) {es : List Expr} {e : Expr} {p pos : Pos} {x : Den (List D)} (hg : Gl X "min") (hm : X.mg "min" = none) (h : PA X (e :: es) (tG C lA x)) (hs : (e :: es).all notStar = true) : PE X (.Call (.Name "min" p) (e :: es) [] pos) (tG C lV (callA minD x)) := by
  rw [List.all_cons, Bool.and_eq_true] at hs
  refine (pe_callB (call_min2 hc) hg hm PyProof.Rows.boot_min h (he := star_cons hs.1) (hpl := star_any hs.2)).imp fun σ H Q hq => ?_
  obtain ⟨Hf, ρ, o, S, e, f⟩ := hq
  refine callA_inv S e f fun vs H1 Hf1 ds d ex r hd k => ?_
  unfold minD at hd
  split at hd
  · cases hd; cases r with | cons a b => cases b with | cons a' b' => cases b'; cases a; cases a'; exact ⟨_, _, rfl, k _ (.int _)⟩
  · cases hd
end

/-! ### isinstance -/
def five : List String := ["int", "bool", "str", "list", "tuple"]
def isTn (T : String) : D → Bool
  | .non => false
  | .bl _ => T == "bool" || T == "int"
  | .int _ => T == "int"
  | .str _ => T == "str"
  | .lst _ => T == "list"
  | .fls _ => T == "list"
  | .tup _ => T == "tuple"
  | .obj _ _ => false
/-- what the written part says of the own classes -/
structure OwnT (K : Kc) : Prop where
  ty : ∀ c C, K.cl c = some C → Cls K.K C ∧ PySem.W.findIn K.K (.ref C) "__class__" = some (some (.builtin "object.__class__")) ∧
    PySem.W.specialIn K.K (.builtin "object.__class__") "__get__" = some (some (.builtin "getset_descriptor.__get__")) ∧ PySem.W.takesIn K.K (.builtin "object.__class__") = some true ∧ PySem.W.mroIn K.K C (.type "object") = some true
  bt : ∀ c C, K.cl c = some C → ∀ T ∈ five, PySem.W.kitOne K.K (.ref C) (.type T) = some false
  tb : ∀ c C, K.cl c = some C → ∀ T ∈ "NoneType" :: five, PySem.W.kitOne K.K (.type T) (.ref C) = some false
  oo : ∀ c C c' C', K.cl c = some C → K.cl c' = some C' → PySem.W.kitOne K.K (.ref C') (.ref C) = some (c' == c)
def tyD (K : Kc) : D → Value
  | .non => .type "NoneType"
  | .bl _ => .type "bool"
  | .int _ => .type "int"
  | .str _ => .type "str"
  | .lst _ => .type "list"
  | .fls _ => .type "list"
  | .tup _ => .type "tuple"
  | .obj c _ => .ref ((K.cl c).getD 0)
theorem tyD_obj {K : Kc} {c : Str} {gs : List (Str × D)} {C : Addr} (z : K.cl c = some C) : tyD K (.obj c gs) = .ref C := by simp [tyD, z]
theorem tyD_ok {K : Kc} (O : OwnT K) {H : Hp} {v : V} {d : D} (r : Rp K H v d) : TyX K.K H v (tyD K d) := by
  cases r with
  | non => exact .base .non
  | bl b => exact .base (.bl b)
  | int i => exact .base (.int i)
  | str x => exact .base (.str x)
  | lst a b => exact .base (.lst a)
  | fls a b =>
    rcases a with (a | ⟨o, a⟩) | ⟨o, its, n, h1, h2, _⟩
    · exact .base (.lst a)
    · exact .base (.frz a)
    · exact .kList h1 h2
  | tup a b =>
    rcases a with (a | ⟨o, a⟩) | ⟨o, its, n, h1, h2, _⟩
    · exact .base (.tup a)
    · exact .fTuple a
    · exact .kTuple h1 h2
  | @obj a C dx c fs gs z h1 b =>
    obtain ⟨q1, q2, q3, q4, q5⟩ := O.ty _ _ z
    rw [tyD_obj z]
    exact .base (.ins h1 q1 q2 q3 q4 q5)
theorem kit_tab : ∀ T ∈ five, ∀ a ∈ "NoneType" :: five, kitB a T = some (a == T || (a == "bool" && T == "int")) := by decide +kernel
theorem isTn_ok {K : Kc} (O : OwnT K) {H : Hp} {v : V} {d : D} {T : String} (r : Rp K H v d) (hT : T ∈ five) : PySem.W.kitOne K.K (tyD K d) (.type T) = some (isTn T d) := by
  have k : ∀ a ∈ "NoneType" :: five, PySem.W.kitOne K.K (.type a) (.type T) = some (a == T || (a == "bool" && T == "int")) := fun a ha => kit_ty (kit_tab T hT a ha)
  have hh : T = "int" ∨ T = "bool" ∨ T = "str" ∨ T = "list" ∨ T = "tuple" := by simpa [five] using hT
  cases d with
  | obj c gs =>
    cases r with
    | obj z h1 b =>
      rw [tyD_obj z]
      exact O.bt _ _ z T hT
  | non => rw [show tyD K .non = .type "NoneType" from rfl, k _ (by decide)]; rcases hh with rfl | rfl | rfl | rfl | rfl <;> decide
  | bl b => rw [show tyD K (.bl b) = .type "bool" from rfl, k _ (by decide)]; rcases hh with rfl | rfl | rfl | rfl | rfl <;> (simp only [isTn]; decide)
  | int b => rw [show tyD K (.int b) = .type "int" from rfl, k _ (by decide)]; rcases hh with rfl | rfl | rfl | rfl | rfl <;> (simp only [isTn]; decide)
  | str b => rw [show tyD K (.str b) = .type "str" from rfl, k _ (by decide)]; rcases hh with rfl | rfl | rfl | rfl | rfl <;> (simp only [isTn]; decide)
  | lst b => rw [show tyD K (.lst b) = .type "list" from rfl, k _ (by decide)]; rcases hh with rfl | rfl | rfl | rfl | rfl <;> (simp only [isTn]; decide)
  | fls b => rw [show tyD K (.fls b) = .type "list" from rfl, k _ (by decide)]; rcases hh with rfl | rfl | rfl | rfl | rfl <;> (simp only [isTn]; decide)
  | tup b => rw [show tyD K (.tup b) = .type "tuple" from rfl, k _ (by decide)]; rcases hh with rfl | rfl | rfl | rfl | rfl <;> (simp only [isTn]; decide)
def isOwn (c : Str) : D → Bool
  | .obj c' _ => c' == c
  | _ => false
theorem isOwn_ok {K : Kc} (O : OwnT K) {H : Hp} {v : V} {d : D} {c : Str} {C : Addr} (r : Rp K H v d) (hc : K.cl c = some C) : PySem.W.kitOne K.K (tyD K d) (.ref C) = some (isOwn c d) := by
  cases d with
  | obj c' gs =>
    cases r with
    | obj z h1 b =>
      rw [tyD_obj z]
      exact O.oo _ _ _ _ hc z
  | non => exact O.tb _ _ hc _ (by decide)
  | bl b => exact O.tb _ _ hc _ (by decide)
  | int b => exact O.tb _ _ hc _ (by decide)
  | str b => exact O.tb _ _ hc _ (by decide)
  | lst b => exact O.tb _ _ hc _ (by decide)
  | fls b => exact O.tb _ _ hc _ (by decide)
  | tup b => exact O.tb _ _ hc _ (by decide)
section
variable {C : Ck} {X : Cx}
/-- a one-place question -/
def askV (k : D → Bool) (x : Den CO) : Den RV := call1C (fun d => some (.val (.bl (k d)))) x
theorem tyName (T : String) (x : Str) (hx : bootBuiltins x = some (.type T)) (hg : Gl X x) (hm : X.mg x = none) (hn : x ≠ "__name__") (hd : (x == ("__debug__" : Str)) = false) {p : Pos} : PE X (.Name x p) (tC (.ty T)) :=
  pe_bltn hg hm hx rfl hn hd
theorem pe_isTy (hK : X.K = C.W.K.K) (O : OwnT C.W.K) {e : Expr} {p p2 pos : Pos} {x : Den CO} {T : String} {y : Str} (hT : T ∈ five) (hg : Gl X "isinstance") (hm : X.mg "isinstance" = none) (hy : bootBuiltins y = some (.type T)) (hg2 : Gl X y) (hm2 : X.mg y = none)
    (hn : y ≠ "__name__") (hd : (y == ("__debug__" : Str)) = false) (h : PE X e (tG C lC x)) (hs : notStar e = true) : PE X (.Call (.Name "isinstance" p) [e, .Name y p2] [] pos) (tG C lV (askV (isTn T) x)) := by
  refine (pe_callB (call_isi) hg hm PyProof.Rows.boot_isinstance (pa_cons h (pa_cons (tyName T y hy hg2 hm2 hn hd) pa_nil) (star_cons hs)) (he := star_cons hs) (hpl := star_any rfl)).imp fun σ H Q hq => ?_
  obtain ⟨Hf, ρ, o, S, e, f⟩ := hq
  refine call1C_inv S e f fun v H1 Hf1 ρ1 d rv S1 r hd k => ?_
  cases hd
  have rn := r.now S1.ex
  exact ⟨v, .ty T, _, _, _, rfl, .ty T, hK ▸ tyD_ok O rn, hK ▸ isTn_ok O rn hT, k _ Hf1 H1 S1 (Evl.Ex.refl _) (.bl _)⟩
theorem pe_isOwn (hK : X.K = C.W.K.K) (O : OwnT C.W.K) {e : Expr} {p p2 pos : Pos} {x : Den CO} {c : Str} {A : Addr} (hc : C.W.K.cl c = some A) (hg : Gl X "isinstance") (hm : X.mg "isinstance" = none) (hg2 : Gl X c) (hm2 : X.mg c = some (.ref A))
    (hd : (c == ("__debug__" : Str)) = false) (h : PE X e (tG C lC x)) (hs : notStar e = true) : PE X (.Call (.Name "isinstance" p) [e, .Name c p2] [] pos) (tG C lV (askV (isOwn c) x)) := by
  refine (pe_callB (call_isi) hg hm PyProof.Rows.boot_isinstance (pa_cons h (pa_cons (pe_glob (v := .ref A) hg2 hm2 rfl hd) pa_nil) (star_cons hs)) (he := star_cons hs) (hpl := star_any rfl)).imp fun σ H Q hq => ?_
  obtain ⟨Hf, ρ, o, S, e, f⟩ := hq
  refine call1C_inv S e f fun v H1 Hf1 ρ1 d rv S1 r hd k => ?_
  cases hd
  have rn := r.now S1.ex
  exact ⟨v, .ref A, _, _, _, rfl, .own A, hK ▸ tyD_ok O rn, hK ▸ isOwn_ok O rn hc, k _ Hf1 H1 S1 (Evl.Ex.refl _) (.bl _)⟩
/-- isinstance(e, (T1, T2)) -/
theorem pe_isTy2 (hK : X.K = C.W.K.K) (O : OwnT C.W.K) {e : Expr} {p p2 p3 pt pos : Pos} {kt : Nat} {x : Den CO} {T1 T2 : String} {y1 y2 : Str} (hT1 : T1 ∈ five) (hT2 : T2 ∈ five) (hg : Gl X "isinstance") (hm : X.mg "isinstance" = none)
    (hy1 : bootBuiltins y1 = some (.type T1)) (hg1 : Gl X y1) (hm1 : X.mg y1 = none) (hn1 : y1 ≠ "__name__") (hd1 : (y1 == ("__debug__" : Str)) = false)
    (hy2 : bootBuiltins y2 = some (.type T2)) (hg2 : Gl X y2) (hm2 : X.mg y2 = none) (hn2 : y2 ≠ "__name__") (hd2 : (y2 == ("__debug__" : Str)) = false) (h : PE X e (tG C lC x)) (hs : notStar e = true) :
    PE X (.Call (.Name "isinstance" p) [e, .Tuple [.Name y1 p2, .Name y2 p3] kt pt] [] pos) (tG C lV (askV (fun d => isTn T1 d || isTn T2 d) x)) := by
  refine (pe_callB (call_isiT) hg hm PyProof.Rows.boot_isinstance (pa_cons h (pa_cons (pe_tup (pa_cons (tyName T1 y1 hy1 hg1 hm1 hn1 hd1) (pa_cons (tyName T2 y2 hy2 hg2 hm2 hn2 hd2) pa_nil))) pa_nil) (star_cons hs)) (he := star_cons hs) (hpl := star_any rfl)).imp fun σ H Q hq => ?_
  obtain ⟨Hf, ρ, o, S, e, f⟩ := hq
  refine call1C_inv S e f fun v H1 Hf1 ρ1 d rv S1 r hd k => ?_
  cases hd
  refine ⟨by show 2 ≤ sizeLine; decide, fun tp ntp => ?_⟩
  obtain ⟨S2, ex2, exH⟩ := S1.laid (o := .tup [.ty T1, .ty T2]) ntp
  have rn := (r.now S1.ex).mono exH
  refine ⟨v, tp, [.ty T1, .ty T2], _, [.type T1, .type T2], isTn T1 d || isTn T2 d, rfl, upd_same, .cons (.ty T1) (.cons (.ty T2) .nil), hK ▸ tyD_ok O rn, ?_, k _ _ _ S2 ex2 (.bl _)⟩
  have a1 : PySem.W.kitOne X.K (tyD C.W.K d) (.type T1) = some (isTn T1 d) := hK ▸ isTn_ok O rn hT1
  have a2 : PySem.W.kitOne X.K (tyD C.W.K d) (.type T2) = some (isTn T2 d) := hK ▸ isTn_ok O rn hT2
  refine kitAny_cons a1 (fun hb => ?_) (fun hb => by rw [hb]; rfl)
  rw [hb, Bool.false_or]
  exact kitAny_cons a2 (fun hb2 => by rw [hb2]; exact kitAny_nil) (fun hb2 => hb2)
end
end DI
set_option maxRecDepth 100000
set_option maxHeartbeats 4000000
namespace DI
open PySem PySem.Spec PyProof.Rows L2

/-! ### statements -/
inductive SOut where
  | next (ρ : Rho)
  | ret (r : RV) (ρ : Rho)
  | brk (ρ : Rho)
  | cont (ρ : Rho)
  | exc (c : Str) (d : D) (ρ : Rho)
abbrev SDen := Rho → Option SOut
def RvR (W : Wd) (Hf H : Hp) : RV → V → Prop
  | .val d, v => Rp W.K Hf v d
  | .new m, v => ∃ p, v = .ref p ∧ W.H0 p = none ∧ MOk W.K Hf H p m
theorem RvOk.r {W : Wd} {Hf H : Hp} {σ : L2.St} {ρ : Rho} {r : RV} {v : V} (h : RvOk W Hf H σ ρ r v) : RvR W Hf H r v := by
  cases r with
  | val d => exact h
  | new m => obtain ⟨p, a, b, c, _⟩ := h; exact ⟨p, a, b, c⟩
def FinS (C : Ck) (E : Ends) (Hf : Hp) : SOut → Prop
  | .next ρ' => ∀ σ' Hf' H', Stt C.W Hf' H' σ' ρ' → Ex Hf Hf' → E.nx σ' H'
  | .ret r ρ' => ∀ v σ' Hf' H', Stt C.W Hf' H' σ' ρ' → Ex Hf Hf' → RvR C.W Hf' H' r v → E.rt v H'
  | .brk ρ' => ∀ σ' Hf' H', Stt C.W Hf' H' σ' ρ' → Ex Hf Hf' → E.bk σ' H'
  | .cont ρ' => ∀ σ' Hf' H', Stt C.W Hf' H' σ' ρ' → Ex Hf Hf' → E.ct σ' H'
  | .exc c d ρ' => ∀ σ' Hf' H' A dd v, Stt C.W Hf' H' σ' ρ' → Ex Hf Hf' → C.ca c = some A → H' dd = some (.xd [(("at" : Str), v)]) → C.W.H0 dd = none → Rp C.W.K Hf' v d → C.Wx (.ref A) (some dd) σ' H'
def tSt (C : Ck) (x : SDen) : TS := fun E σ H => ∃ Hf ρ o, Stt C.W Hf H σ ρ ∧ x ρ = some o ∧ FinS C E Hf o
section
variable {C : Ck} {X : Cx} {E : Ends} {σ : L2.St} {H Hf Hf' : Hp} {ρ : Rho}
theorem FinS.weak {o : SOut} (h : FinS C E Hf o) (e : Ex Hf Hf') : FinS C E Hf' o := by
  cases o with
  | next ρ' => exact fun σ' Hf1 H' S e1 => h σ' Hf1 H' S (e.trans e1)
  | ret r ρ' => exact fun v σ' Hf1 H' S e1 p => h v σ' Hf1 H' S (e.trans e1) p
  | brk ρ' => exact fun σ' Hf1 H' S e1 => h σ' Hf1 H' S (e.trans e1)
  | cont ρ' => exact fun σ' Hf1 H' S e1 => h σ' Hf1 H' S (e.trans e1)
  | exc c d ρ' => exact fun σ' Hf1 H' A dd v S e1 a b c r => h σ' Hf1 H' A dd v S (e.trans e1) a b c r
/-- an expression first, then on -/
def bS {α : Type} (x : Den α) (k : α → SDen) : SDen := fun ρ => match x ρ with
  | none => none
  | some (.exc c d ρ') => some (.exc c d ρ')
  | some (.ok a ρ') => k a ρ'
theorem bS_inv {α β : Type} {P : Lie α β} {x : Den α} {k : α → SDen} {o : SOut} (S : Stt C.W Hf H σ ρ) (e : bS x k ρ = some o) (f : FinS C E Hf o) {Q' : β → Hp → Prop}
    (g : ∀ b H1 Hf1 ρ1 a, Stt C.W Hf1 H1 σ ρ1 → Ex Hf Hf1 → P C.W Hf1 H1 σ ρ1 a b → k a ρ1 = some o → FinS C E Hf1 o → Q' b H1) : tG C P x σ H Q' := by
  unfold bS at e
  split at e
  · cases e
  · rename_i c d ρ' h
    cases e
    exact ⟨Hf, ρ, _, S, h, fun Hf1 H1 A dd v S1 e1 a b c r => f σ Hf1 H1 A dd v S1 e1 a b c r⟩
  · rename_i a ρ' h
    exact ⟨Hf, ρ, _, S, h, fun b Hf1 H1 S1 e1 p => g b H1 Hf1 ρ' a S1 e1 p e (f.weak e1)⟩
def nextS : SDen := fun ρ => some (.next ρ)
def seqS (x y : SDen) : SDen := fun ρ => match x ρ with
  | some (.next ρ') => y ρ'
  | o => o
theorem pss_nilD : PSs X [] (tSt C nextS) := by
  refine pss_nil.imp fun E σ H h => ?_
  obtain ⟨Hf, ρ, o, S, e, f⟩ := h
  cases e
  exact f σ Hf H S (Evl.Ex.refl _)
theorem seq_core {x y : SDen} (h : tSt C (seqS x y) E σ H) : tSeq (tSt C x) (tSt C y) E σ H := by
  obtain ⟨Hf, ρ, o, S, e, f⟩ := h
  unfold seqS at e
  split at e
  · rename_i ρ' h
    exact ⟨Hf, ρ, _, S, h, fun σ' Hf' H' S' ex => ⟨Hf', ρ', o, S', e, f.weak ex⟩⟩
  · rename_i h
    refine ⟨Hf, ρ, o, S, e, ?_⟩
    cases o with
    | next ρ' => exact absurd e (h ρ')
    | ret r ρ' => exact f
    | brk ρ' => exact f
    | cont ρ' => exact f
    | exc c d ρ' => exact f
theorem pss_consD {st : Stmt} {rest : List Stmt} {x y : SDen} (h1 : PS X st (tSt C x)) (h2 : PSs X rest (tSt C y)) : PSs X (st :: rest) (tSt C (seqS x y)) :=
  (pss_cons h1 h2).imp fun _ _ _ h => seq_core h
theorem ps_passD {pos : Pos} : PS X (.Pass pos) (tSt C nextS) := by
  refine ps_pass.imp fun E σ H h => ?_
  obtain ⟨Hf, ρ, o, S, e, f⟩ := h
  cases e
  exact f σ Hf H S (Evl.Ex.refl _)
def brkS : SDen := fun ρ => some (.brk ρ)
def contS : SDen := fun ρ => some (.cont ρ)
theorem ps_brkD {pos : Pos} : PS X (.Break pos) (tSt C brkS) := by
  refine ps_break.imp fun E σ H h => ?_
  obtain ⟨Hf, ρ, o, S, e, f⟩ := h
  cases e
  exact f σ Hf H S (Evl.Ex.refl _)
theorem ps_contD {pos : Pos} : PS X (.Continue pos) (tSt C contS) := by
  refine ps_continue.imp fun E σ H h => ?_
  obtain ⟨Hf, ρ, o, S, e, f⟩ := h
  cases e
  exact f σ Hf H S (Evl.Ex.refl _)
theorem ps_docD {x : Str} {j : Nat} {pos pos' : Pos} : PS X (.Expr (.Constant (.str x) j pos) pos') (tSt C nextS) := by
  refine ps_doc.imp fun E σ H h => ?_
  obtain ⟨Hf, ρ, o, S, e, f⟩ := h
  cases e
  exact f σ Hf H S (Evl.Ex.refl _)
/-- return e -/
def retS (x : Den RV) : SDen := bS x fun r ρ => some (.ret r ρ)
theorem ps_retD {e : Expr} {pos : Pos} {x : Den RV} (h : PE X e (tG C lV x)) : PS X (.Return (some e) pos) (tSt C (retS x)) := by
  refine (ps_ret h).imp fun E σ H h => ?_
  obtain ⟨Hf, ρ, o, S, e, f⟩ := h
  refine bS_inv (P := lV) S e f fun v H1 Hf1 ρ1 r S1 ex l e1 f1 => ?_
  cases e1
  exact f1 v σ Hf1 H1 S1 (Evl.Ex.refl _) (RvOk.r l)
/-- return x, x a name -/
def retN (i : Nat) : SDen := fun ρ => match ρ[i]? with
  | some (.val d) => some (.ret (.val d) ρ)
  | some (.own m) => some (.ret (.new m) ρ)
  | _ => none
theorem ps_retND {x : Str} {i : Nat} {pos pos' : Pos} (hN : X.N[i]? = some x) (hv : Vis X.env.scope x) (hd : (x == ("__debug__" : Str)) = false) (hcd : (x == ("__classdict__" : Str)) = false) : PS X (.Return (some (.Name x pos')) pos) (tSt C (retN i)) := by
  refine (ps_ret (pe_var (i := i) hN hv hd hcd)).imp fun E σ H h => ?_
  obtain ⟨Hf, ρ, o, S, e, f⟩ := h
  unfold retN at e
  split at e
  · rename_i d h
    cases e
    obtain ⟨v, a, b⟩ := S.val i _ h
    exact ⟨v, a, f v σ Hf H S (Evl.Ex.refl _) b⟩
  · rename_i m h
    cases e
    obtain ⟨p, a, n0, b⟩ := S.own i _ h
    exact ⟨_, a, f _ σ Hf H S (Evl.Ex.refl _) ⟨p, rfl, n0, b⟩⟩
  · cases e
def retNone : SDen := fun ρ => some (.ret (.val .non) ρ)
theorem ps_retNoneD {pos : Pos} : PS X (.Return none pos) (tSt C retNone) := by
  refine ps_retN.imp fun E σ H h => ?_
  obtain ⟨Hf, ρ, o, S, e, f⟩ := h
  cases e
  exact f .non σ Hf H S (Evl.Ex.refl _) .non
/-- an expression's value dropped -/
def dropS (x : Den RV) : SDen := bS x fun _ => nextS
theorem ps_exprD {e : Expr} {pos : Pos} {x : Den RV} (h : PE X e (tG C lV x)) (hs : swapsWith e none pos.line X.env = pure false) : PS X (.Expr e pos) (tSt C (dropS x)) := by
  refine (ps_expr h hs).imp fun E σ H h => ?_
  obtain ⟨Hf, ρ, o, S, e, f⟩ := h
  refine bS_inv (P := lV) S e f fun v H1 Hf1 ρ1 r S1 ex l e1 f1 => ?_
  cases e1
  exact f1 σ Hf1 H1 S1 (Evl.Ex.refl _)
/-- if -/
def ifS (t : Den Bool) (x y : SDen) : SDen := bS t fun b => if b then x else y
theorem ps_ifD {c : Expr} {a b : List Stmt} {pos : Pos} {t : Den Bool} {x y : SDen} (hc : PT X c (tG C lB t)) (ha : PSs X a (tSt C x)) (hb : PSs X b (tSt C y)) : PS X (.If c a b pos) (tSt C (ifS t x y)) := by
  refine (ps_if hc ha hb).imp fun E σ H h => ?_
  obtain ⟨Hf, ρ, o, S, e, f⟩ := h
  refine bS_inv (P := lB) S e f fun c H1 Hf1 ρ1 b S1 ex l e1 f1 => ?_
  have l' : c = b := l
  subst l'
  cases c with
  | true => exact ⟨Hf1, ρ1, o, S1, e1, f1⟩
  | false => exact ⟨Hf1, ρ1, o, S1, e1, f1⟩

/-! ### assignments -/
def storeV (i : Nat) (d : D) (ρ : Rho) : Option Rho := match ρ[i]? with
  | some (.ref _) => none
  | _ => some (ρ.set i (.val d))
def storeR (i : Nat) (r : RV) (ρ : Rho) : Option Rho := match ρ[i]? with
  | some (.ref _) => none
  | _ => some (ρ.set i (match r with | .val d => .val d | .new m => .own m))
def asgS (i : Nat) (x : Den RV) : SDen := bS x fun r ρ => (storeR i r ρ).map .next
theorem storeV_ok {i : Nat} {d : D} {v : V} {ρ' : Rho} (S : Stt C.W Hf H σ ρ) (r : Rp C.W.K Hf v d) (e : storeV i d ρ = some ρ') : Stt C.W Hf H (σ.set i (some v)) ρ' := by
  unfold storeV at e
  split at e
  · cases e
  · rename_i h
    cases e
    exact S.setVal r h
theorem storeR_ok {i : Nat} {r : RV} {v : V} {ρ' : Rho} (S : Stt C.W Hf H σ ρ) (l : RvOk C.W Hf H σ ρ r v) (e : storeR i r ρ = some ρ') : Stt C.W Hf H (σ.set i (some v)) ρ' := by
  unfold storeR at e
  split at e
  · cases e
  · rename_i h
    cases e
    cases r with
    | val d => exact S.setVal l h
    | new m => obtain ⟨p, rfl, n0, mo, ap⟩ := l; exact S.setOwn n0 mo ap h
theorem ps_asgD {i : Nat} {x : Str} {e : Expr} {pos pos' : Pos} {y : Den RV} (hN : X.N.Nodup) (hi : X.N[i]? = some x) (hx : Loc X.env.scope x) (hf : X.fn x = true ∨ X.env.scope.names.lookup x = some .local) (h : PE X e (tG C lV y)) (hs : swapsWith e (some (.Name x pos')) pos.line X.env = pure false) :
    PS X (.Assign [.Name x pos'] e pos) (tSt C (asgS i y)) := by
  refine (ps_set hN hi hx h hs hf).imp fun E σ H h => ?_
  obtain ⟨Hf, ρ, o, S, e, f⟩ := h
  refine bS_inv (P := lV) S e f fun v H1 Hf1 ρ1 r S1 ex l e1 f1 => ?_
  rw [Option.map_eq_some_iff] at e1
  obtain ⟨ρ', e1, rfl⟩ := e1
  exact f1 _ Hf1 H1 (storeR_ok S1 l e1) (Evl.Ex.refl _)
/-- targets -/
inductive Tg where
  | name (i : Nat)
  | tup (ts : List Tg)
mutual
def stT : Tg → D → Rho → Option Rho
  | .name i, d, ρ => storeV i d ρ
  | .tup ts, .tup ds, ρ => stTs ts ds ρ
  | .tup _, _, _ => none
def stTs : List Tg → List D → Rho → Option Rho
  | [], [], ρ => some ρ
  | t :: ts, d :: ds, ρ => match stT t d ρ with
    | some ρ' => stTs ts ds ρ'
    | none => none
  | _, _, _ => none
end
theorem stTs_len : ∀ {ts : List Tg} {ds : List D} {ρ ρ' : Rho}, stTs ts ds ρ = some ρ' → ts.length = ds.length
  | [], [], _, _, _ => rfl
  | t :: ts, d :: ds, ρ, ρ', e => by
    simp only [stTs] at e
    split at e
    · rw [List.length_cons, List.length_cons, stTs_len e]
    · cases e
  | [], _ :: _, _, _, e => by simp [stTs] at e
  | _ :: _, [], _, _, e => by simp [stTs] at e
/-- the target's reading -/
def tTg (C : Ck) (t : Tg) : TG := fun v σ H Q => ∃ Hf ρ d ρ', Stt C.W Hf H σ ρ ∧ Rp C.W.K Hf v d ∧ stT t d ρ = some ρ' ∧ ∀ σ' , Stt C.W Hf H σ' ρ' → Q σ' H
def tTgs (C : Ck) (ts : List Tg) : TGs := fun vs σ H Q => ∃ Hf ρ ds ρ', Stt C.W Hf H σ ρ ∧ RpA C.W.K Hf vs ds ∧ stTs ts ds ρ = some ρ' ∧ ∀ σ' , Stt C.W Hf H σ' ρ' → Q σ' H
theorem _root_.L2.PG.imp {tg : Expr} {t t' : TG} (h : PG X tg t) (k : ∀ v σ H Q, t' v σ H Q → t v σ H Q) : PG X tg t' := ⟨fun pins s σ H v u Q I r hq => h.run pins s σ H v u Q I r (k v σ H Q hq)⟩
theorem _root_.L2.PGs.imp {tg : List Expr} {t t' : TGs} (h : PGs X tg t) (k : ∀ v σ H Q, t' v σ H Q → t v σ H Q) : PGs X tg t' := ⟨fun pins s σ H v u Q I r hq => h.run pins s σ H v u Q I r (k v σ H Q hq)⟩
theorem pg_nameD {i : Nat} {x : Str} {pos : Pos} (hN : X.N.Nodup) (hi : X.N[i]? = some x) (hx : Loc X.env.scope x) (hf : X.fn x = true ∨ X.env.scope.names.lookup x = some .local) : PG X (.Name x pos) (tTg C (.name i)) := by
  refine (pg_name hN hi hx hf).imp fun v σ H Q h => ?_
  obtain ⟨Hf, ρ, d, ρ', S, r, e, k⟩ := h
  simp only [stT] at e
  exact k _ (storeV_ok S r e)
theorem pgs_nilD : PGs X [] (tTgs C []) := by
  refine pgs_nil.imp fun vs σ H Q h => ?_
  obtain ⟨Hf, ρ, ds, ρ', S, r, e, k⟩ := h
  cases ds with
  | nil => cases r; simp only [stTs, Option.some.injEq] at e; subst e; exact ⟨rfl, k _ S⟩
  | cons d ds => simp [stTs] at e
theorem pgs_consD {e : Expr} {es : List Expr} {t : Tg} {ts : List Tg} (h1 : PG X e (tTg C t)) (h2 : PGs X es (tTgs C ts)) (hs : (assignEach (e :: es) X.env).map (·.2) = assign e X.env :: (assignEach es X.env).map (·.2)) : PGs X (e :: es) (tTgs C (t :: ts)) := by
  refine (pgs_cons h1 h2 hs).imp fun vs σ H Q h => ?_
  obtain ⟨Hf, ρ, ds, ρ', S, r, e, k⟩ := h
  cases ds with
  | nil => simp [stTs] at e
  | cons d ds =>
    simp only [stTs] at e
    cases r with
    | cons a b =>
      split at e
      · rename_i ρ1 e1
        exact ⟨_, _, rfl, Hf, ρ, d, ρ1, S, a, e1, fun σ' S' => ⟨Hf, ρ1, ds, ρ', S', b, e, k⟩⟩
      · cases e
theorem pg_tupD (hK : X.K = C.W.K.K) {es : List Expr} {k : Nat} {pos : Pos} {ts : List Tg} (hc : X.calm = true) (h : PGs X es (tTgs C ts)) (hn : (assignEach es X.env).length = ts.length) (hst : (assignEach es X.env).findIdx? (·.1) = none) : PG X (.Tuple es k pos) (tTg C (.tup ts)) := by
  refine (pg_tup hc h hn hst).imp fun v σ H Q h => ?_
  obtain ⟨Hf, ρ, d, ρ', S, r, e, k⟩ := h
  cases d with
  | tup ds =>
    simp only [stT] at e
    cases r with
    | tup a b =>
      exact ⟨_, _, rfl, hK ▸ Evl.ex_t S.ex a, by rw [b.length, ← stTs_len e], Hf, ρ, ds, ρ', S, b, e, k⟩
  | _ => simp [stT] at e
def asgT (t : Tg) (x : Den D) : SDen := bS x fun d ρ => (stT t d ρ).map .next
theorem ps_asgT {tg e : Expr} {pos : Pos} {t : Tg} {x : Den D} (he : PE X e (tG C lD x)) (hg : PG X tg (tTg C t)) (hs : swapsWithSole [tg] e pos.line X.env = pure false) (hw : swappedStores [tg] e X.env = pure none)
    (h1 : (assignEach [tg] X.env).map (·.2) = [assign tg X.env]) : PS X (.Assign [tg] e pos) (tSt C (asgT t x)) := by
  refine (ps_asg he hg hs hw h1).imp fun E σ H h => ?_
  obtain ⟨Hf, ρ, o, S, e, f⟩ := h
  refine bS_inv (P := lD) S e f fun v H1 Hf1 ρ1 d S1 ex l e1 f1 => ?_
  rw [Option.map_eq_some_iff] at e1
  obtain ⟨ρ', e1, rfl⟩ := e1
  exact ⟨Hf1, ρ1, d, ρ', S1, l, e1, fun σ' S' => f1 σ' Hf1 H1 S' (Evl.Ex.refl _)⟩
/-- xs[i] = e, xs.append(e): a name's own list -/
def setM (i : Nat) (m : M) (ρ : Rho) : Option Rho := match ρ[i]? with
  | some (.own _) => some (ρ.set i (.own m))
  | some (.ref _) => some (ρ.set i (.ref m))
  | _ => none
def getM (i : Nat) (ρ : Rho) : Option M := match ρ[i]? with
  | some (.own m) => some m
  | some (.ref m) => some m
  | _ => none
theorem getM_ok {i : Nat} {m : M} {v : V} (S : Stt C.W Hf H σ ρ) (hv : σ[i]? = some (some v)) (e : getM i ρ = some m) : ∃ p, v = .ref p ∧ MOk C.W.K Hf H p m := by
  unfold getM at e
  split at e
  · rename_i m' h
    cases e
    obtain ⟨p, a, _, b⟩ := S.own i _ h
    rw [hv] at a; cases a; exact ⟨p, rfl, b⟩
  · rename_i m' h
    cases e
    obtain ⟨p, a, _, b⟩ := S.ref i _ h
    rw [hv] at a; cases a; exact ⟨p, rfl, b⟩
  · cases e
theorem setM_ok {i : Nat} {m m' : M} {p : Addr} {o : HO} {ρ' : Rho} (S : Stt C.W Hf H σ ρ) (hv : σ[i]? = some (some (V.ref p))) (g : getM i ρ = some m) (mo : MOk C.W.K Hf (upd H p o) p m') (e : setM i m' ρ = some ρ') : Stt C.W Hf (upd H p o) σ ρ' := by
  unfold getM at g
  unfold setM at e
  split at g
  · rename_i m1 h
    rw [h] at e
    cases g; cases e
    exact S.write m' _ _ (.inl ⟨rfl, rfl⟩) h hv mo
  · rename_i m1 h
    rw [h] at e
    cases g; cases e
    exact S.write m' _ _ (.inr ⟨rfl, rfl⟩) h hv mo
  · cases g
def setIxM (m : M) (k : D) (d : D) : Option M := match m, k with
  | .lst ds, .int k => (ixN ds.length k).map fun j => .lst (ds.set j d)
  | _, _ => none
/-- xs[k] = e: e, xs, k -/
def setIxS (x : Den D) (s : Nat) (y : Den D) : SDen := bS x fun d => bS (slotC s) fun _ => bS y fun k => fun ρ => match getM s ρ with
  | some m => match setIxM m k d with
    | some m' => (setM s m' ρ).map .next
    | none => none
  | none => none
theorem slotC_co {W : Wd} {s : Nat} {ρ : Rho} {c : CO} {ρ' : Rho} (e : slotC s ρ = some (.ok c ρ')) : c = .slot s ∧ ρ' = ρ := by
  unfold slotC at e
  split at e <;> cases e <;> exact ⟨rfl, rfl⟩
theorem bS_slot {s : Nat} {k : CO → SDen} {o : SOut} (S : Stt C.W Hf H σ ρ) (e : bS (slotC s) k ρ = some o) (f : FinS C E Hf o) {Q' : V → Hp → Prop}
    (g : ∀ v, σ[s]? = some (some v) → k (.slot s) ρ = some o → Q' v H) : (∃ v, σ[s]? = some (some v) ∧ Q' v H) := by
  unfold bS at e
  split at e
  · cases e
  · rename_i h; unfold slotC at h; split at h <;> cases h
  · rename_i c ρ' h
    obtain ⟨rfl, rfl⟩ := slotC_co (W := C.W) h
    unfold slotC at h
    split at h
    · rename_i d h'; obtain ⟨v, a, _⟩ := S.val s _ h'; exact ⟨v, a, g v a e⟩
    · rename_i d h'; obtain ⟨v, a, _⟩ := S.own s _ h'; exact ⟨_, a, g _ a e⟩
    · rename_i d h'; obtain ⟨v, a, _⟩ := S.ref s _ h'; exact ⟨_, a, g _ a e⟩
    · cases h
theorem assign_sub {o i : Expr} {pos : Pos} {env : Env} (h : notSlice i = true) : ∀ v, assign (.Subscript o i pos) env v = (do
      let ov ← holding [v] (eval o env)
      let iv ← holding [v, ov] (eval i env)
      standAt pos
      holding [v, ov, iv] (setItem ov iv v)
      release [v, ov, iv] []) := by
  intro v
  cases i <;> first | rfl | cases h
theorem ps_setIxD {n : Str} {s : Nat} {e k : Expr} {pos p1 p2 : Pos} {x y : Den D} (hN : X.N[s]? = some n) (hv : Vis X.env.scope n) (hd : (n == ("__debug__" : Str)) = false) (hcd : (n == ("__classdict__" : Str)) = false) (he : PE X e (tG C lD x)) (hk : PE X k (tG C lD y)) (hns : notSlice k = true)
    (hs : swapsWithSole [.Subscript (.Name n p1) k p2] e pos.line X.env = pure false) (hw : swappedStores [.Subscript (.Name n p1) k p2] e X.env = pure none) (h1 : (assignEach [.Subscript (.Name n p1) k p2] X.env).map (·.2) = [assign (.Subscript (.Name n p1) k p2) X.env]) :
    PS X (.Assign [.Subscript (.Name n p1) k p2] e pos) (tSt C (setIxS x s y)) := by
  refine (ps_asg he (pg_sub (pe_var (i := s) hN hv hd hcd) hk set_list (assign_sub hns)) hs hw h1).imp fun E σ H h => ?_
  obtain ⟨Hf, ρ, o, S, e, f⟩ := h
  refine bS_inv (P := lD) S e f fun v H1 Hf1 ρ1 d S1 ex l e1 f1 => ?_
  refine bS_slot (Q' := fun u H2 => tG C lD y σ H2 fun w H3 => rSetL u w v H3 fun H4 => E.nx σ H4) S1 e1 f1 fun u hu e2 => ?_
  refine bS_inv (P := lD) S1 e2 f1 fun w H3 Hf3 ρ3 k S3 ex3 l3 e3 f3 => ?_
  split at e3
  · rename_i m gm
    split at e3
    · rename_i m' gm'
      rw [Option.map_eq_some_iff] at e3
      obtain ⟨ρ', e3, rfl⟩ := e3
      obtain ⟨p, rfl, mo⟩ := getM_ok S3 hu gm
      unfold setIxM at gm'
      split at gm'
      · rw [Option.map_eq_some_iff] at gm'
        obtain ⟨j, hj, rfl⟩ := gm'
        cases (show Rp C.W.K Hf3 w (.int _) from l3)
        cases mo with
        | lst a b c =>
          refine ⟨p, _, _, j, rfl, rfl, b, by rw [c.length]; exact hj, ?_⟩
          exact f3 σ Hf3 _ (setM_ok S3 hu gm (.lst a upd_same (c.set (Rp.mono ex3 l) j)) e3) (Evl.Ex.refl _)
      · cases gm'
    · cases e3
  · cases e3
/-- xs.append(e) -/
def appS (s : Nat) (x : Den D) : SDen := fun ρ => match getM s ρ with
  | some (.lst _) => (bS x fun d => fun ρ => match getM s ρ with
    | some (.lst ds) => if ds.length < 100000 then (setM s (.lst (ds ++ [d])) ρ).map .next else none
    | _ => none) ρ
  | _ => none
theorem getM_slot {s : Nat} {m : M} (S : Stt C.W Hf H σ ρ) (e : getM s ρ = some m) : ∃ p, σ[s]? = some (some (V.ref p)) ∧ MOk C.W.K Hf H p m := by
  unfold getM at e
  split at e
  · rename_i m' h
    cases e
    obtain ⟨p, a, _, b⟩ := S.own s _ h
    exact ⟨p, a, b⟩
  · rename_i m' h
    cases e
    obtain ⟨p, a, _, b⟩ := S.ref s _ h
    exact ⟨p, a, b⟩
  · cases e
theorem few1 {e : Expr} {env : Env} {pos : Pos} (h : notStar e = true) : ((backTo pos (starEach [e] env)).all (fun x => !x.1) && (backToKw pos (keywordEach [] env)).all (fun x => x.1.isSome)
      && decide (([e] : List Expr).length + ([] : List Keyword).length + (if ([] : List Keyword).isEmpty then 0 else 1) < 30)) = true := by
  rw [star_cons h]
  rfl
theorem ps_appD {n : Str} {s : Nat} {e : Expr} {pos p1 p2 p3 : Pos} {x : Den D} (hN : X.N[s]? = some n) (hv : Vis X.env.scope n) (hd : (n == ("__debug__" : Str)) = false) (hcd : (n == ("__classdict__" : Str)) = false) (he : PE X e (tG C lD x)) (hst : notStar e = true) (hl : (p2.endLine == p3.line) = true) :
    PS X (.Expr (.Call (.Attribute (.Name n p1) "append" p2) [e] [] p3) pos) (tSt C (appS s x)) := by
  refine (ps_expr (pe_bm PySem.F.plainAttrs_list PySem.F.slot_list_append PySem.F.type_list_append mt_append (pe_var (i := s) hN hv hd hcd) (pa_cons he pa_nil (star_cons hst)) rfl (few1 hst) hl (star_cons hst) (star_any rfl)) rfl).imp fun E σ H h => ?_
  obtain ⟨Hf, ρ, o, S, e, f⟩ := h
  unfold appS at e
  split at e
  · rename_i ds0 g0
    obtain ⟨p, hp, mo⟩ := getM_slot S g0
    refine ⟨_, hp, ?_, ?_⟩
    · cases mo with | lst a b c => exact .inl ⟨rfl, _, .inl (.inl b)⟩
    · refine bS_inv (P := lD) S e f fun w H3 Hf3 ρ3 d S3 ex3 l3 e3 f3 => ?_
      split at e3
      · rename_i ds gm
        split at e3
        · rename_i hz
          rw [Option.map_eq_some_iff] at e3
          obtain ⟨ρ', e3, rfl⟩ := e3
          obtain ⟨p', hp', mo'⟩ := getM_slot S3 gm
          rw [hp] at hp'; cases hp'
          cases mo' with
          | lst a b c =>
            refine ⟨p, _, w, rfl, rfl, b, by rw [c.length]; exact Evl.sz_lt hz, ?_⟩
            exact f3 σ Hf3 _ (setM_ok S3 hp gm (.lst a upd_same (c.append (.cons l3 .nil))) e3) (Evl.Ex.refl _)
        · cases e3
      · cases e3
  · cases e
end
end DI
set_option maxRecDepth 100000
set_option maxHeartbeats 4000000
namespace DI
open PySem PySem.Spec PyProof.Rows L2

/-! ### loops -/
def forL (body : SDen) (t : Tg) : List D → SDen
  | [], ρ => some (.next ρ)
  | d :: ds, ρ => match stT t d ρ with
    | none => none
    | some ρ1 => match body ρ1 with
      | some (.next ρ2) => forL body t ds ρ2
      | some (.cont ρ2) => forL body t ds ρ2
      | some (.brk ρ2) => some (.next ρ2)
      | o => o
def whileS (t : Den Bool) (body : SDen) : Nat → SDen
  | 0, _ => none
  | n + 1, ρ => match t ρ with
    | none => none
    | some (.exc c d ρ') => some (.exc c d ρ')
    | some (.ok false ρ') => some (.next ρ')
    | some (.ok true ρ') => match body ρ' with
      | some (.next ρ2) => whileS t body n ρ2
      | some (.cont ρ2) => whileS t body n ρ2
      | some (.brk ρ2) => some (.next ρ2)
      | o => o
section
variable {C : Ck} {X : Cx} {E : Ends} {σ : L2.St} {H Hf Hf' : Hp} {ρ : Rho}
/-- a turn's body, then on -/
theorem turn_core {body : SDen} {ρ1 : Rho} {o : SOut} {again : Rho → Option SOut} {N : L2.St → Hp → Prop} (S : Stt C.W Hf H σ ρ1) (f : FinS C E Hf o)
    (e : (match body ρ1 with
      | some (.next ρ2) => again ρ2
      | some (.cont ρ2) => again ρ2
      | some (.brk ρ2) => some (.next ρ2)
      | o => o) = some o)
    (hN : ∀ σ' Hf' H' ρ2, Stt C.W Hf' H' σ' ρ2 → Ex Hf Hf' → again ρ2 = some o → N σ' H') : tSt C body { E with nx := N, ct := N, bk := E.nx } σ H := by
  cases hb : body ρ1 with
  | none => rw [hb] at e; cases e
  | some ob =>
    rw [hb] at e
    refine ⟨Hf, ρ1, ob, S, hb, ?_⟩
    cases ob with
    | next ρ2 => exact fun σ' Hf' H' S' ex => hN σ' Hf' H' ρ2 S' ex e
    | cont ρ2 => exact fun σ' Hf' H' S' ex => hN σ' Hf' H' ρ2 S' ex e
    | brk ρ2 => cases e; exact f
    | ret r ρ2 => cases e; exact f
    | exc c d ρ2 => cases e; exact f
theorem drop_get {ds : List D} {i : Nat} {d : D} (h : ds[i]? = some d) : ds.drop i = d :: ds.drop (i + 1) := by
  obtain ⟨hi, rfl⟩ := List.getElem?_eq_some_iff.mp h
  exact List.drop_eq_getElem_cons hi
/-- one turn over plain items -/
theorem for_turn {body : SDen} {t : Tg} {ds : List D} {o : SOut} {i : Nat} {x : V} {d : D} {Hf1 : Hp} (S : Stt C.W Hf H σ ρ) (ex : Ex Hf1 Hf) (f : FinS C E Hf1 o) (hd : ds[i]? = some d) (r : Rp C.W.K Hf x d) (e : forL body t (ds.drop i) ρ = some o) :
    tTg C t x σ H fun σ2 H2 => tSt C body { E with nx := (fun σ H => ∃ Hf ρ, Stt C.W Hf H σ ρ ∧ Ex Hf1 Hf ∧ forL body t (ds.drop (i + 1)) ρ = some o), ct := (fun σ H => ∃ Hf ρ, Stt C.W Hf H σ ρ ∧ Ex Hf1 Hf ∧ forL body t (ds.drop (i + 1)) ρ = some o), bk := E.nx } σ2 H2 := by
  rw [drop_get hd] at e
  simp only [forL] at e
  cases h : stT t d ρ with
  | none => rw [h] at e; cases e
  | some ρ1 =>
    rw [h] at e
    refine ⟨Hf, ρ, d, ρ1, S, r, h, fun σ' S' => ?_⟩
    exact turn_core (again := forL body t (ds.drop (i + 1))) S' (f.weak ex) e fun σ2 Hf2 H2 ρ2 S2 ex2 e2 => ⟨Hf2, ρ2, S2, ex.trans ex2, e2⟩
theorem for_end {body : SDen} {t : Tg} {ds : List D} {o : SOut} {n : Nat} {Hf1 : Hp} (f : FinS C E Hf1 o) (hn : ds.length ≤ n) (h : ∃ Hf ρ, Stt C.W Hf H σ ρ ∧ Ex Hf1 Hf ∧ forL body t (ds.drop n) ρ = some o) : E.nx σ H := by
  obtain ⟨Hf, ρ, S, ex, e⟩ := h
  rw [List.drop_eq_nil_of_le hn] at e
  cases e
  exact f σ Hf H S ex
/-- over a list or a tuple -/
theorem pi_seq {tg l : Expr} {tl : TE} (hl : PE X l tl) : PI X tg l (fun σ H R => tl σ H fun x H1 => ∃ a, x = .ref a ∧ (((∃ xs, SqL X.K H1 a xs) ∧ R (Itl X.K a) H1) ∨ ((∃ xs, SqT X.K H1 a xs) ∧ R (Itt X.K a) H1))) := by
  refine ⟨fun pins s σ H R I h => ?_⟩
  refine thn (hl.run pins s σ H _ I h) fun v s1 ⟨x, H1, I1, r1, q1⟩ => ?_
  obtain ⟨a, e, q1⟩ := q1
  subst e
  cases r1
  rcases q1 with ⟨⟨xs, hq⟩, q⟩ | ⟨⟨xs, hq⟩, q⟩
  · obtain ⟨its, rv, p, hz⟩ := I1.list hq
    refine wpAny_pyIter_list p.isList ?_
    refine ⟨s1.heap.objs.size, [s1.heap.objs.size], _, _, H1, rfl, I1.kept (t' := s1.toks) fun b o e => Heap.get?_push_of_some _ e, turn_list a _, ⟨_, Heap.get?_push_size _ rfl, rfl, rfl⟩, fun b hb => ?_, q⟩
    have e : b = s1.heap.objs.size := by simpa using hb
    subst e
    exact I1.fpOk (Nat.le_refl _) (I1.hok.fresh (Nat.le_refl _))
  · obtain ⟨its, rv, p, hz⟩ := I1.tuple hq
    refine wpAny_pyIter_tuple (show s1.heap.IsTuple a its.toArray from p) ?_
    refine ⟨s1.heap.objs.size, [s1.heap.objs.size], _, _, H1, rfl, I1.kept (t' := s1.toks) fun b o e => Heap.get?_push_of_some _ e, turn_tuple a _, ⟨_, Heap.get?_push_size _ rfl, rfl, rfl⟩, fun b hb => ?_, q⟩
    have e : b = s1.heap.objs.size := by simpa using hb
    subst e
    exact I1.fpOk (Nat.le_refl _) (I1.hok.fresh (Nat.le_refl _))
def itemsD : D → Option (List D)
  | .lst ds => some ds
  | .fls ds => some ds
  | .tup ds => some ds
  | _ => none
def forS (x : Den D) (t : Tg) (body : SDen) : SDen := bS x fun d => fun ρ => match itemsD d with
  | some ds => forL body t ds ρ
  | none => none
theorem ps_forD (hK : X.K = C.W.K.K) (hp : PassesOwn (model X.prog X.w) X.A X.env X.xe) (hc : X.calm = true) {tg iter : Expr} {b : List Stmt} {pos : Pos} {x : Den D} {t : Tg} {body : SDen} (hi : PE X iter (tG C lD x)) (hg : PG X tg (tTg C t)) (hb : PSs X b (tSt C body)) (hs : notSet iter = true) :
    PS X (.For tg iter b [] pos) (tSt C (forS x t body)) := by
  refine (ps_for hp hc (pi_seq hi) hg hb (notSet_iter hs)).imp fun E σ H h => ?_
  obtain ⟨Hf, ρ, o, S, e, f⟩ := h
  refine bS_inv (P := lD) S e f fun v H1 Hf1 ρ1 d S1 ex l e1 f1 => ?_
  split at e1
  · rename_i ds hd
    have base : ∃ Hf ρ, Stt C.W Hf H1 σ ρ ∧ Ex Hf1 Hf ∧ forL body t (ds.drop 0) ρ = some o := ⟨Hf1, ρ1, S1, Evl.Ex.refl _, e1⟩
    have list : ∀ {a : Addr} {xs : List V}, (∀ H, Ex Hf1 H → SqL X.K H a xs) → RpA C.W.K Hf1 xs ds → ∃ W : Nat → Nat → L2.St → Hp → Prop, (∃ m, W 0 m σ H1) ∧ ∀ i m σ H, W i m σ H → ((Itl X.K a).stop i H ∧ E.nx σ H) ∨ ((Itl X.K a).go i H ∧ ∃ N : L2.St → Hp → Prop, (∀ σ' H', N σ' H' → ∃ m', m' < m ∧ W (i + 1) m' σ' H') ∧ ∀ x H', (Itl X.K a).yld i H x H' → tTg C t x σ H' fun σ2 H2 => tSt C body { E with nx := N, ct := N, bk := E.nx } σ2 H2) := fun {a xs} hx ra =>
      for_list (K := X.K) (a := a) (xs := xs) (fun i σ H => ∃ Hf ρ, Stt C.W Hf H σ ρ ∧ Ex Hf1 Hf ∧ forL body t (ds.drop i) ρ = some o) base (fun i σ H _ ⟨Hf, ρ, S, ex, _⟩ => hx H (ex.trans S.ex))
        (fun i y σ H hy ⟨Hf, ρ, S, ex, e⟩ => by
          obtain ⟨d', hd', rd⟩ := ra.get' hy
          exact for_turn S ex f1 hd' (rd.mono ex) e) (fun σ H h => for_end f1 (by rw [ra.length]; exact Nat.le_refl _) h)
    cases d with
    | lst ds' =>
      cases hd
      cases (show Rp C.W.K Hf1 v (.lst ds) from l) with
      | lst a b => exact ⟨_, rfl, .inl ⟨⟨_, .inl (.inl (S1.ex _ _ a))⟩, list (fun H ex => .inl (.inl (ex _ _ a))) b⟩⟩
    | fls ds' =>
      cases hd
      cases (show Rp C.W.K Hf1 v (.fls ds) from l) with
      | fls a b => exact ⟨_, rfl, .inl ⟨⟨_, hK ▸ Evl.ex_l S1.ex a⟩, list (fun H ex => hK ▸ Evl.ex_l ex a) b⟩⟩
    | tup ds' =>
      cases hd
      cases (show Rp C.W.K Hf1 v (.tup ds) from l) with
      | @tup a xs _ q b =>
        refine ⟨_, rfl, .inr ⟨⟨_, hK ▸ Evl.ex_t S1.ex q⟩, ?_⟩⟩
        exact for_tup (K := X.K) (a := a) (xs := xs) (fun i σ H => ∃ Hf ρ, Stt C.W Hf H σ ρ ∧ Ex Hf1 Hf ∧ forL body t (ds.drop i) ρ = some o) base (fun i σ H _ ⟨Hf, ρ, S, ex, _⟩ => hK ▸ Evl.ex_t (ex.trans S.ex) q)
          (fun i y σ H hy ⟨Hf, ρ, S, ex, e⟩ => by
            obtain ⟨d', hd', rd⟩ := b.get' hy
            exact for_turn S ex f1 hd' (rd.mono ex) e) (fun σ H h => for_end f1 (by rw [b.length]; exact Nat.le_refl _) h)
    | _ => cases hd
  · cases e1
/-- range(n), range(a, b) -/
def rngL (lo : Int) (n : Nat) : List D := (List.range n).map fun k => .int (lo + ((k : Nat) : Int))
theorem rngL_get {lo : Int} {n i : Nat} (h : i < n) : (rngL lo n)[i]? = some (.int (lo + (i : Int))) := by
  unfold rngL
  rw [List.getElem?_map, List.getElem?_range h]
  rfl
theorem rngL_len {lo : Int} {n : Nat} : (rngL lo n).length = n := by simp [rngL]
def rngOk (j : Int) : Bool := decide (-(2 ^ 62) ≤ j ∧ j < 2 ^ 62)
def forR1 (x : Den D) (t : Tg) (body : SDen) : SDen := bS x fun d => fun ρ => match d with
  | .int j => if rngOk j then forL body t (rngL 0 j.toNat) ρ else none
  | _ => none
def forR2 (x y : Den D) (t : Tg) (body : SDen) : SDen := bS x fun d1 => bS y fun d2 => fun ρ => match d1, d2 with
  | .int i, .int j => if rngOk i && rngOk j then forL body t (rngL i (j - i).toNat) ρ else none
  | _, _ => none
theorem rng_core {body : SDen} {t : Tg} {o : SOut} {lo : Int} {n : Nat} (S : Stt C.W Hf H σ ρ) (e : forL body t (rngL lo n) ρ = some o) (f : FinS C E Hf o) :
    ∃ W : Nat → Nat → L2.St → Hp → Prop, (∃ m, W 0 m σ H) ∧ ∀ i m σ H, W i m σ H →
      ((Itr lo n).stop i H ∧ E.nx σ H) ∨ ((Itr lo n).go i H ∧ ∃ N : L2.St → Hp → Prop, (∀ σ' H', N σ' H' → ∃ m', m' < m ∧ W (i + 1) m' σ' H') ∧ ∀ x H', (Itr lo n).yld i H x H' → tTg C t x σ H' fun σ2 H2 => tSt C body { E with nx := N, ct := N, bk := E.nx } σ2 H2) :=
  for_range (lo := lo) (n := n) (fun i σ H => ∃ Hf' ρ, Stt C.W Hf' H σ ρ ∧ Ex Hf Hf' ∧ forL body t ((rngL lo n).drop i) ρ = some o) ⟨Hf, ρ, S, Evl.Ex.refl _, e⟩
    (fun i σ H hi ⟨Hf', ρ', S', ex, e'⟩ => for_turn S' ex f (rngL_get hi) (.int _) e') (fun σ H h => for_end f (Nat.le_of_eq rngL_len) h)
theorem ps_forR1 (hp : PassesOwn (model X.prog X.w) X.A X.env X.xe) (hc : X.calm = true) {tg a : Expr} {b : List Stmt} {p p' pos : Pos} {x : Den D} {t : Tg} {body : SDen} (hgl : Gl X "range") (hm : X.mg "range" = none) (hi : PE X a (tG C lD x)) (hst : notStar a = true) (hg : PG X tg (tTg C t)) (hb : PSs X b (tSt C body)) :
    PS X (.For tg (.Call (.Name "range" p) [a] [] p') b [] pos) (tSt C (forR1 x t body)) := by
  refine (ps_for hp hc (pi_range1 hgl hm (pa_cons hi pa_nil (star_cons hst)) (star_cons hst)) hg hb (notSet_iter rfl)).imp fun E σ H h => ?_
  obtain ⟨Hf, ρ, o, S, e, f⟩ := h
  refine bS_inv (P := lD) S e f fun v H1 Hf1 ρ1 d S1 ex l e1 f1 => ?_
  split at e1
  · rename_i j
    split at e1
    · rename_i hz
      unfold rngOk at hz
      have hz := of_decide_eq_true hz
      cases (show Rp C.W.K Hf1 v (.int j) from l)
      exact ⟨j, rfl, hz.1, hz.2, rng_core S1 e1 f1⟩
    · cases e1
  · cases e1
theorem ps_forR2 (hp : PassesOwn (model X.prog X.w) X.A X.env X.xe) (hc : X.calm = true) {tg a a2 : Expr} {b : List Stmt} {p p' pos : Pos} {x y : Den D} {t : Tg} {body : SDen} (hgl : Gl X "range") (hm : X.mg "range" = none) (hi : PE X a (tG C lD x)) (hi2 : PE X a2 (tG C lD y)) (hst : notStar a = true) (hst2 : notStar a2 = true) (hg : PG X tg (tTg C t)) (hb : PSs X b (tSt C body)) :
    PS X (.For tg (.Call (.Name "range" p) [a, a2] [] p') b [] pos) (tSt C (forR2 x y t body)) := by
  refine (ps_for hp hc (pi_range2 hgl hm (pa_cons hi (pa_cons hi2 pa_nil (star_cons hst2)) (star_cons hst)) ((star_cons hst).trans (by rw [star_cons hst2]; rfl)) (star_cons hst2)) hg hb (notSet_iter rfl)).imp fun E σ H h => ?_
  obtain ⟨Hf, ρ, o, S, e, f⟩ := h
  refine bS_inv (P := lD) S e f fun v H1 Hf1 ρ1 d1 S1 ex l e1 f1 => ?_
  refine bS_inv (P := lD) S1 e1 f1 fun w H2 Hf2 ρ2 d2 S2 ex2 l2 e2 f2 => ?_
  split at e2
  · rename_i i j
    split at e2
    · rename_i hz
      rw [Bool.and_eq_true] at hz
      obtain ⟨h1, h2⟩ := hz
      unfold rngOk at h1 h2
      have h1 := of_decide_eq_true h1
      have h2 := of_decide_eq_true h2
      cases (show Rp C.W.K Hf1 v (.int i) from l)
      cases (show Rp C.W.K Hf2 w (.int j) from l2)
      exact ⟨i, j, rfl, ⟨h1.1, h1.2, h2.1, h2.2⟩, rng_core S2 e2 f2⟩
    · cases e2
  · cases e2
/-- while -/
theorem ps_whileD (hp : PassesOwn (model X.prog X.w) X.A X.env X.xe) {c : Expr} {b : List Stmt} {pos : Pos} {t : Den Bool} {body : SDen} (F : Nat) (hc : PT X c (tG C lB t)) (hb : PSs X b (tSt C body)) : PS X (.While c b [] pos) (tSt C (whileS t body F)) := by
  refine (ps_while hp hc hb).imp fun E σ H h => ?_
  obtain ⟨Hf, ρ, o, S, e, f⟩ := h
  refine ⟨fun m σ H => ∃ Hf' ρ, Stt C.W Hf' H σ ρ ∧ Ex Hf Hf' ∧ whileS t body m ρ = some o, ⟨F, Hf, ρ, S, Evl.Ex.refl _, e⟩, ?_⟩
  rintro m σ1 H1 ⟨Hf1, ρ1, S1, ex1, e1⟩
  cases m with
  | zero => cases e1
  | succ m =>
    simp only [whileS] at e1
    cases h : t ρ1 with
    | none => rw [h] at e1; cases e1
    | some y =>
      rw [h] at e1
      cases y with
      | exc c d ρ' =>
        cases e1
        exact ⟨Hf1, ρ1, _, S1, h, fun Hf2 H2 A dd v S2 e2 a b c r => f σ1 Hf2 H2 A dd v S2 (ex1.trans e2) a b c r⟩
      | ok k ρ' =>
        refine ⟨Hf1, ρ1, _, S1, h, fun b Hf2 H2 S2 ex2 l => ?_⟩
        have l' : b = k := l
        subst l'
        cases b with
        | false => cases e1; exact f σ1 Hf2 H2 S2 (ex1.trans ex2)
        | true =>
          refine ⟨fun σ H => ∃ Hf' ρ, Stt C.W Hf' H σ ρ ∧ Ex Hf Hf' ∧ whileS t body m ρ = some o, fun σ' H' n => ⟨m, Nat.lt_succ_self m, n⟩, ?_⟩
          exact turn_core (again := whileS t body m) S2 (f.weak (ex1.trans ex2)) e1 fun σ2 Hf3 H3 ρ3 S3 ex3 e3 => ⟨Hf3, ρ3, S3, (ex1.trans ex2).trans ex3, e3⟩
end
end DI
set_option maxRecDepth 100000
set_option maxHeartbeats 4000000
namespace DI
open PySem PySem.Spec PyProof.Rows L2

/-! ### what a def does to its arguments -/
inductive Arg where
  | val (d : D)
  | ref (m : M)
def Arg.sl : Arg → Sl
  | .val d => .val d
  | .ref m => .ref m
inductive Res where
  | ret (r : RV) (outs : List (Nat × M))
  | exc (c : Str) (d : D) (outs : List (Nat × M))
def ArgOk (K : Kc) (Hf H : Hp) : Arg → V → Prop
  | .val d, v => Rp K Hf v d
  | .ref m, v => ∃ p, v = .ref p ∧ MOk K Hf H p m
def rfF (as : List Arg) (vs : List V) : Nat → Option Addr := fun i => match as[i]?, vs[i]? with
  | some (.ref _), some (.ref p) => some p
  | _, _ => none
structure Back (K : Kc) (Hf H : Hp) (as : List Arg) (vs : List V) (outs : List (Nat × M)) (Hf' H' : Hp) : Prop where
  ex : Ex Hf' H'
  grow : Ex Hf Hf'
  frozen : ∀ a o, Hf' a = some o → Hf a = some o ∨ H a = none
  keep : ∀ a o, H a = some o → (∀ i, rfF as vs i ≠ some a) → H' a = some o
  live : ∀ a o, H a = some o → ∃ o', H' a = some o'
  outs : ∀ i p, rfF as vs i = some p → ∃ m, outs.lookup i = some m ∧ MOk K Hf' H' p m
def SpEnd (K : Kc) (ca : Str → Option Addr) (Hf H : Hp) (as : List Arg) (vs : List V) (Q : VK) (E : XK) : Res → Prop
  | .ret rv outs => ∀ v Hf' H', Back K Hf H as vs outs Hf' H' → RvR ⟨K, H, Hf, rfF as vs⟩ Hf' H' rv v → Q v H'
  | .exc c d outs => ∀ Hf' H' A dd v, Back K Hf H as vs outs Hf' H' → ca c = some A → H' dd = some (.xd [(("at" : Str), v)]) → H dd = none → Rp K Hf' v d → E (.ref A) (some dd) H'
abbrev FM := List Arg → Option Res
/-- the promise: the def does what f says -/
def spOf (K : Kc) (ca : Str → Option Addr) (n : Nat) (f : FM) : Sp := fun vs H Q E => ∃ Hf as r, as.length = n ∧ Paired (ArgOk K Hf H) as vs ∧ Ex Hf H ∧ (∀ i j p, rfF as vs i = some p → rfF as vs j = some p → i = j) ∧
  f as = some r ∧ SpEnd K ca Hf H as vs Q E r

def outsAt : Nat → List Arg → Rho → Option (List (Nat × M))
  | _, [], _ => some []
  | k, .ref _ :: as, .ref m :: ρ => (outsAt (k + 1) as ρ).map ((k, m) :: ·)
  | k, .val _ :: as, _ :: ρ => outsAt (k + 1) as ρ
  | _, _, _ => none
theorem outsAt_get : ∀ {as : List Arg} {k : Nat} {ρ : Rho} {o : List (Nat × M)} {i : Nat} {m0 : M}, outsAt k as ρ = some o → as[i]? = some (.ref m0) → ∃ m, ρ[i]? = some (Sl.ref m) ∧ o.lookup (k + i) = some m
  | [], _, _, _, _, _, _, h => by simp at h
  | .ref _ :: as, k, .ref m :: ρ, o, i, m0, e, h => by
    simp only [outsAt, Option.map_eq_some_iff] at e
    obtain ⟨o', e, rfl⟩ := e
    cases i with
    | zero => exact ⟨m, rfl, by simp [List.lookup]⟩
    | succ i =>
      obtain ⟨m', h1, h2⟩ := outsAt_get (i := i) e (by simpa using h)
      refine ⟨m', by simpa using h1, ?_⟩
      have ne : (k + (i + 1) == k) = false := by simp
      rw [List.lookup_cons, ne]
      rw [show k + (i + 1) = k + 1 + i by omega]
      exact h2
  | .val _ :: as, k, s :: ρ, o, i, m0, e, h => by
    simp only [outsAt] at e
    cases i with
    | zero => simp at h
    | succ i =>
      obtain ⟨m', h1, h2⟩ := outsAt_get (i := i) e (by simpa using h)
      exact ⟨m', by simpa using h1, by rw [show k + (i + 1) = k + 1 + i by omega]; exact h2⟩
  | .ref _ :: as, _, [], _, _, _, e, _ => by simp [outsAt] at e
  | .ref _ :: as, _, .no :: _, _, _, _, e, _ => by simp [outsAt] at e
  | .ref _ :: as, _, .val _ :: _, _, _, _, e, _ => by simp [outsAt] at e
  | .ref _ :: as, _, .own _ :: _, _, _, _, e, _ => by simp [outsAt] at e
  | .val _ :: as, _, [], _, _, _, e, _ => by simp [outsAt] at e
def semF (n tot : Nat) (bd : SDen) : FM := fun as => if as.length = n then match bd (as.map Arg.sl ++ List.replicate (tot - n) .no) with
  | some (.next ρ) => (outsAt 0 as ρ).map (Res.ret (.val .non))
  | some (.ret r ρ) => (outsAt 0 as ρ).map (Res.ret r)
  | some (.exc c d ρ) => (outsAt 0 as ρ).map (Res.exc c d)
  | _ => none
  else none

theorem Paired.get {α β : Type} {R : α → β → Prop} : ∀ {xs : List α} {ys : List β} {i : Nat} {x : α}, Paired R xs ys → xs[i]? = some x → ∃ y, ys[i]? = some y ∧ R x y
  | _, _, _, _, .nil, e => by simp at e
  | _, _, 0, _, .cons r _, e => by simp at e; subst e; exact ⟨_, rfl, r⟩
  | _, _, i + 1, x, .cons _ t, e => by
    obtain ⟨u, h1, h2⟩ := Paired.get (i := i) (x := x) t (by simpa using e)
    exact ⟨u, by simpa using h1, h2⟩
section
variable {K : Kc} {ca : Str → Option Addr} {Hf H Hf' H' : Hp} {as : List Arg} {vs : List V} {outs : List (Nat × M)} {σ : L2.St} {ρ : Rho}
/-- a def's entry -/
theorem entry (pa : Paired (ArgOk K Hf H) as vs) (ex : Ex Hf H) (inj : ∀ i j p, rfF as vs i = some p → rfF as vs j = some p → i = j) {k : Nat} : Stt ⟨K, H, Hf, rfF as vs⟩ Hf H (vs.map some ++ List.replicate k none) (as.map Arg.sl ++ List.replicate k .no) := by
  have hl : as.length = vs.length := Paired.length pa
  have look : ∀ {i : Nat} {s : Sl}, (as.map Arg.sl ++ List.replicate k Sl.no)[i]? = some s → s = .no ∨ ∃ a v, as[i]? = some a ∧ vs[i]? = some v ∧ s = a.sl ∧ ArgOk K Hf H a v ∧ (vs.map some ++ List.replicate k none)[i]? = some (some v) := by
    intro i s h
    by_cases hi : i < as.length
    · rw [List.getElem?_append_left (by simpa using hi), List.getElem?_map, List.getElem?_eq_getElem hi] at h
      obtain ⟨v, hv, r⟩ := Paired.get pa (List.getElem?_eq_getElem hi)
      refine .inr ⟨as[i], v, List.getElem?_eq_getElem hi, hv, (Option.some.inj h).symm, r, ?_⟩
      rw [List.getElem?_append_left (by simpa [← hl] using hi), List.getElem?_map, hv]
      rfl
    · rw [List.getElem?_append_right (by simpa using hi), List.getElem?_replicate] at h
      split at h
      · exact .inl (Option.some.inj h).symm
      · cases h
  refine ⟨ex, Evl.Ex.refl _, fun a o h => .inl h, fun a o h _ => h, fun a o h => ⟨o, h⟩, by simp [hl], fun i d h => ?_, fun i m h => ?_, fun i m h => ?_, fun i j m m' p ne h1 h2 e1 e2 => ?_, inj, fun i p h => ?_⟩
  · rcases look h with z | ⟨a, v, h1, h2, h3, r, h4⟩
    · cases z
    · cases a with
      | val d' => cases h3; exact ⟨v, h4, r⟩
      | ref m => cases h3
  · rcases look h with z | ⟨a, v, h1, h2, h3, r, h4⟩
    · cases z
    · cases a <;> cases h3
  · rcases look h with z | ⟨a, v, h1, h2, h3, r, h4⟩
    · cases z
    · cases a with
      | val d' => cases h3
      | ref m' =>
        cases h3
        obtain ⟨p, rfl, mo⟩ := r
        exact ⟨p, h4, by simp only [rfF, h1, h2], mo⟩
  · rcases look h1 with z | ⟨a, v, _, _, h3, _, _⟩
    · cases z
    · cases a <;> cases h3
  · have h : rfF as vs i = some p := h
    unfold rfF at h
    split at h
    · rename_i m q h1 h2
      cases h
      obtain ⟨v, hv, r⟩ := Paired.get pa h1
      rw [h2] at hv; cases hv
      obtain ⟨q, e, mo⟩ := r
      cases e
      exact mo.there
    · cases h
theorem entry_back (S : Stt ⟨K, H, Hf, rfF as vs⟩ Hf' H' σ ρ) (e : outsAt 0 as ρ = some outs) : Back K Hf H as vs outs Hf' H' := by
  refine ⟨S.ex, S.grow, S.frozen, S.keep, S.live, fun i p h => ?_⟩
  have h0 := h
  unfold rfF at h
  split at h
  · rename_i m q h1 h2
    cases h
    obtain ⟨m', r1, r2⟩ := outsAt_get e h1
    obtain ⟨q', _, h4, mo⟩ := S.ref i m' r1
    have h4 : rfF as vs i = some q' := h4
    rw [h0] at h4; cases h4
    exact ⟨m', by simpa using r2, mo⟩
  · cases h
end
section
variable {P : Program} {w : World} {mg : Str → Option Value} {base : Heap} {K : Kc} {ca : Str → Option Addr}
/-- THE RULE: a def does what its body's meaning says -/
theorem fn_ok {x qual : Str} {st : Stmt} {f : Addr} {fd : FuncData} {N ps : List Str} {k : Nat} {bd : SDen} {dvs : List V} {kws : List (Str × V)} (F : FunD K.K x qual (defArgs st) (defBody st) (defScope st) dvs kws f fd) (S : FnScope N ps (defScope st)) (hn : ps.length ≤ N.length)
    (hbody : ∀ (cdv : Value) (A : Around) (outer : List Env) (s : Shared) (H : Hp) (E : XK) (W : Wd), W.K = K → Room k (A.deeper (envOfC qual (defScope st) s.heap.objs.size f cdv)) →
      PSs (cxOf (L2N.CX P w) P w K.K mg base N qual (defScope st) f cdv A outer s H E) (defBody st) (tSt ⟨W, fun cls d _ H => E cls d H, ca⟩ bd)) :
    FnOk P w K.K mg base (L2N.CX P w) (k + 1) f fd ps (spOf K ca ps.length (semF ps.length N.length bd)) := by
  refine F.ok S (fun vs H Q E h => ?_) (fun cdv A outer s H vs Q E hr h => ?_)
  · obtain ⟨Hf, as, r, hl, pa, _⟩ := h
    rw [← Paired.length pa, hl]
  · obtain ⟨Hf, as, r, hl, pa, ex, inj, e, fin⟩ := h
    refine ⟨_, hbody cdv A outer s H E ⟨K, H, Hf, rfF as vs⟩ rfl hr, ?_⟩
    have S0 := entry pa ex inj (k := N.length - vs.length)
    have hlv : as.length = vs.length := Paired.length pa
    unfold semF at e
    rw [if_pos hl] at e
    have hk : N.length - ps.length = N.length - vs.length := by rw [← hlv, hl]
    rw [hk] at e
    cases hb : bd (as.map Arg.sl ++ List.replicate (N.length - vs.length) .no) with
    | none => rw [hb] at e; cases e
    | some o =>
      rw [hb] at e
      refine ⟨Hf, _, o, S0, hb, ?_⟩
      cases o with
      | next ρ =>
        simp only [Option.map_eq_some_iff] at e
        obtain ⟨outs, e, rfl⟩ := e
        exact fun σ' Hf' H' S' _ => fin .non Hf' H' (entry_back S' e) .non
      | ret rv ρ =>
        simp only [Option.map_eq_some_iff] at e
        obtain ⟨outs, e, rfl⟩ := e
        exact fun v σ' Hf' H' S' _ r => fin v Hf' H' (entry_back S' e) r
      | exc c d ρ =>
        simp only [Option.map_eq_some_iff] at e
        obtain ⟨outs, e, rfl⟩ := e
        exact fun σ' Hf' H' A dd v S' _ h1 h2 h3 h4 => fin Hf' H' A dd v (entry_back S' e) h1 h2 h3 h4
      | brk ρ => cases e
      | cont ρ => cases e
end

/-! ### calls -/
def argOf (ρ : Rho) : CO → Option Arg
  | .val d => some (.val d)
  | .slot s => (getM s ρ).map .ref
def argsOf (ρ : Rho) : List CO → Option (List Arg)
  | [] => some []
  | c :: cs => match argOf ρ c, argsOf ρ cs with
    | some a, some as => some (a :: as)
    | _, _ => none
def slotsOf : List CO → List Nat
  | [] => []
  | .slot s :: cs => s :: slotsOf cs
  | .val _ :: cs => slotsOf cs
def updOf : Nat → List CO → List (Nat × M) → List (Nat × M)
  | _, [], _ => []
  | k, .slot s :: cs, o => match o.lookup k with
    | some m => (s, m) :: updOf (k + 1) cs o
    | none => updOf (k + 1) cs o
  | k, .val _ :: cs, o => updOf (k + 1) cs o
def Sl.put (m : M) : Sl → Sl
  | .own _ => .own m
  | .ref _ => .ref m
  | s => s
def upA (u : List (Nat × M)) : Nat → Rho → Rho
  | _, [] => []
  | k, s :: ρ => (match u.lookup k with | some m => s.put m | none => s) :: upA u (k + 1) ρ
theorem upA_get {u : List (Nat × M)} : ∀ {ρ : Rho} {k i : Nat}, (upA u k ρ)[i]? = ρ[i]?.map fun s => match u.lookup (k + i) with | some m => s.put m | none => s
  | [], _, _ => by simp [upA]
  | s :: ρ, k, 0 => by simp [upA]
  | s :: ρ, k, i + 1 => by
    have ih := upA_get (u := u) (ρ := ρ) (k := k + 1) (i := i)
    rw [show k + (i + 1) = k + 1 + i by omega]
    simpa [upA] using ih
theorem argsOf_get : ∀ {cs : List CO} {as : List Arg} {ρ : Rho} {i : Nat} {c : CO}, argsOf ρ cs = some as → cs[i]? = some c → ∃ a, as[i]? = some a ∧ argOf ρ c = some a
  | [], _, _, _, _, _, h => by simp at h
  | c0 :: cs, as, ρ, i, c, e, h => by
    simp only [argsOf] at e
    cases h1 : argOf ρ c0 with
    | none => rw [h1] at e; simp at e
    | some a =>
      cases h2 : argsOf ρ cs with
      | none => rw [h1, h2] at e; simp at e
      | some as' =>
        rw [h1, h2] at e; simp only [Option.some.injEq] at e; subst e
        cases i with
        | zero => simp at h; subst h; exact ⟨a, rfl, h1⟩
        | succ i =>
          obtain ⟨b, h3, h4⟩ := argsOf_get (i := i) h2 (by simpa using h)
          exact ⟨b, by simpa using h3, h4⟩
theorem argsOf_len : ∀ {cs : List CO} {as : List Arg} {ρ : Rho}, argsOf ρ cs = some as → as.length = cs.length
  | [], as, _, e => by simp only [argsOf, Option.some.injEq] at e; subst e; rfl
  | c0 :: cs, as, ρ, e => by
    simp only [argsOf] at e
    split at e
    · rename_i h; simp only [Option.some.injEq] at e; subst e; simp [argsOf_len h]
    · cases e
theorem slots_at : ∀ {cs : List CO} {i s : Nat}, cs[i]? = some (.slot s) → s ∈ slotsOf cs
  | [], _, _, h => by simp at h
  | .slot t :: cs, 0, s, h => by simp at h; subst h; simp [slotsOf]
  | .val d :: cs, 0, s, h => by simp at h
  | .slot t :: cs, i + 1, s, h => by simp [slotsOf]; exact .inr (slots_at (i := i) (by simpa using h))
  | .val d :: cs, i + 1, s, h => by simp [slotsOf]; exact slots_at (i := i) (by simpa using h)
theorem slots_inj : ∀ {cs : List CO} {i j s : Nat}, (slotsOf cs).Nodup → cs[i]? = some (.slot s) → cs[j]? = some (.slot s) → i = j
  | [], _, _, _, _, h, _ => by simp at h
  | c :: cs, 0, 0, _, _, _, _ => rfl
  | .slot t :: cs, 0, j + 1, s, nd, h1, h2 => by
    simp at h1; subst h1
    have := slots_at (i := j) (cs := cs) (by simpa using h2)
    simp only [slotsOf] at nd
    exact absurd this (List.nodup_cons.mp nd).1
  | .slot t :: cs, i + 1, 0, s, nd, h1, h2 => by
    simp at h2; subst h2
    have := slots_at (i := i) (cs := cs) (by simpa using h1)
    simp only [slotsOf] at nd
    exact absurd this (List.nodup_cons.mp nd).1
  | .slot t :: cs, i + 1, j + 1, s, nd, h1, h2 => by
    simp only [slotsOf] at nd
    rw [slots_inj (i := i) (j := j) (List.nodup_cons.mp nd).2 (by simpa using h1) (by simpa using h2)]
  | .val d :: cs, 0, _, _, _, h, _ => by simp at h
  | .val d :: cs, _ + 1, 0, _, _, _, h => by simp at h
  | .val d :: cs, i + 1, j + 1, s, nd, h1, h2 => by
    simp only [slotsOf] at nd
    rw [slots_inj (i := i) (j := j) nd (by simpa using h1) (by simpa using h2)]
theorem upd_none {o : List (Nat × M)} {s : Nat} : ∀ {cs : List CO} {k : Nat}, s ∉ slotsOf cs → (updOf k cs o).lookup s = none
  | [], _, _ => rfl
  | .slot t :: cs, k, h => by
    simp only [slotsOf, List.mem_cons, not_or] at h
    simp only [updOf]
    split
    · rw [List.lookup_cons, show (s == t) = false by simpa using h.1]; exact upd_none h.2
    · exact upd_none h.2
  | .val d :: cs, k, h => by
    simp only [slotsOf] at h
    simp only [updOf]
    exact upd_none h
theorem upd_some {o : List (Nat × M)} : ∀ {cs : List CO} {k i s : Nat} {m : M}, (slotsOf cs).Nodup → cs[i]? = some (.slot s) → o.lookup (k + i) = some m → (updOf k cs o).lookup s = some m
  | [], _, _, _, _, _, h, _ => by simp at h
  | .slot t :: cs, k, 0, s, m, nd, h, e => by
    simp at h; subst h
    simp only [updOf]
    rw [show k + 0 = k from rfl] at e
    rw [e]
    simp [List.lookup]
  | .slot t :: cs, k, i + 1, s, m, nd, h, e => by
    have mem := slots_at (i := i) (cs := cs) (by simpa using h)
    simp only [slotsOf] at nd
    have ne : (s == t) = false := by
      cases z : s == t with
      | false => rfl
      | true => rw [beq_iff_eq] at z; subst z; exact absurd mem (List.nodup_cons.mp nd).1
    have ih := upd_some (k := k + 1) (i := i) (List.nodup_cons.mp nd).2 (by simpa using h) (by rw [show k + 1 + i = k + (i + 1) by omega]; exact e)
    simp only [updOf]
    split
    · rw [List.lookup_cons, ne]; exact ih
    · exact ih
  | .val d :: cs, k, 0, s, m, nd, h, e => by simp at h
  | .val d :: cs, k, i + 1, s, m, nd, h, e => by
    simp only [slotsOf] at nd
    simp only [updOf]
    exact upd_some (k := k + 1) (i := i) nd (by simpa using h) (by rw [show k + 1 + i = k + (i + 1) by omega]; exact e)
def lCs : Lie (List CO) (List V) := fun W Hf H σ ρ cs vs => Paired (fun c v => lC W Hf H σ ρ c v) cs vs
section
variable {W : Wd} {Hf H Hf' H' : Hp} {cs : List CO} {as : List Arg} {vs : List V} {outs : List (Nat × M)} {σ : L2.St} {ρ : Rho}
theorem args_ok (S : Stt W Hf H σ ρ) : ∀ {cs : List CO} {as : List Arg} {vs : List V}, lCs W Hf H σ ρ cs vs → argsOf ρ cs = some as → Paired (ArgOk W.K Hf H) as vs
  | [], as, _, .nil, e => by simp only [argsOf, Option.some.injEq] at e; subst e; exact .nil
  | c :: cs, as, v :: vs, .cons r t, e => by
    simp only [argsOf] at e
    cases h1 : argOf ρ c with
    | none => rw [h1] at e; simp at e
    | some a =>
      cases h2 : argsOf ρ cs with
      | none => rw [h1, h2] at e; simp at e
      | some as' =>
        rw [h1, h2] at e; simp only [Option.some.injEq] at e; subst e
        refine .cons ?_ (args_ok S t h2)
        cases c with
        | val d => simp only [argOf, Option.some.injEq] at h1; subst h1; exact r
        | slot s =>
          simp only [argOf, Option.map_eq_some_iff] at h1
          obtain ⟨m, h1, rfl⟩ := h1
          obtain ⟨p, rfl, mo⟩ := getM_ok (C := ⟨W, fun _ _ _ _ => True, fun _ => none⟩) S (show σ[s]? = some (some v) from r) h1
          exact ⟨p, rfl, mo⟩
theorem rf_slot (S : Stt W Hf H σ ρ) (l : lCs W Hf H σ ρ cs vs) (ha : argsOf ρ cs = some as) {i : Nat} {p : Addr} (h : rfF as vs i = some p) : ∃ s m, cs[i]? = some (.slot s) ∧ σ[s]? = some (some (V.ref p)) ∧ getM s ρ = some m := by
  unfold rfF at h
  split at h
  · rename_i m q h1 h2
    cases h
    have hi : i < cs.length := by rw [← argsOf_len ha]; exact (List.getElem?_eq_some_iff.mp h1).1
    have hc := List.getElem?_eq_getElem hi
    obtain ⟨a, h3, h4⟩ := argsOf_get ha hc
    rw [h1] at h3; cases h3
    obtain ⟨v, h5, r⟩ := Paired.get l hc
    rw [h2] at h5; cases h5
    generalize cs[i] = c at *
    cases c with
    | val d => simp [argOf] at h4
    | slot s =>
      simp only [argOf, Option.map_eq_some_iff] at h4
      obtain ⟨m', h4, e⟩ := h4
      exact ⟨s, m', hc, r, h4⟩
  · cases h
theorem getM_at {s : Nat} {m : M} (h : getM s ρ = some m) : ρ[s]? = some (.own m) ∨ ρ[s]? = some (.ref m) := by
  unfold getM at h
  split at h
  · rename_i h'; cases h; exact .inl h'
  · rename_i h'; cases h; exact .inr h'
  · cases h
theorem same_slot (S : Stt W Hf H σ ρ) {s t : Nat} {m m' : M} {p : Addr} (h1 : getM s ρ = some m) (h2 : getM t ρ = some m') (e1 : σ[s]? = some (some (V.ref p))) (e2 : σ[t]? = some (some (V.ref p))) : s = t := by
  by_cases ne : s = t
  · exact ne
  · exfalso
    rcases getM_at h1 with h1 | h1 <;> rcases getM_at h2 with h2 | h2
    · exact S.sep s t _ _ p ne h1 h2 e1 e2
    · obtain ⟨q, a, b, _⟩ := S.own s _ h1
      obtain ⟨q', a', b', _⟩ := S.ref t _ h2
      rw [e1] at a; cases a
      rw [e2] at a'; cases a'
      exact S.notRef b b'
    · obtain ⟨q, a, b, _⟩ := S.own t _ h2
      obtain ⟨q', a', b', _⟩ := S.ref s _ h1
      rw [e2] at a; cases a
      rw [e1] at a'; cases a'
      exact S.notRef b b'
    · obtain ⟨q, a, b, _⟩ := S.ref s _ h1
      obtain ⟨q', a', b', _⟩ := S.ref t _ h2
      rw [e1] at a; cases a
      rw [e2] at a'; cases a'
      exact ne (S.inj _ _ _ b b')
theorem args_inj (S : Stt W Hf H σ ρ) (l : lCs W Hf H σ ρ cs vs) (ha : argsOf ρ cs = some as) (nd : (slotsOf cs).Nodup) : ∀ i j p, rfF as vs i = some p → rfF as vs j = some p → i = j := fun i j p h1 h2 => by
  obtain ⟨s, m, c1, e1, g1⟩ := rf_slot S l ha h1
  obtain ⟨t, m', c2, e2, g2⟩ := rf_slot S l ha h2
  have := same_slot S g1 g2 e1 e2
  subst this
  exact slots_inj nd c1 c2
/-- behind a call -/
theorem called (S : Stt W Hf H σ ρ) (l : lCs W Hf H σ ρ cs vs) (ha : argsOf ρ cs = some as) (nd : (slotsOf cs).Nodup) (B : Back W.K Hf H as vs outs Hf' H') : Stt W Hf' H' σ (upA (updOf 0 cs outs) 0 ρ) := by
  have get : ∀ {i : Nat} {s : Sl}, (upA (updOf 0 cs outs) 0 ρ)[i]? = some s → ∃ s0, ρ[i]? = some s0 ∧ s = (match (updOf 0 cs outs).lookup i with | some m => s0.put m | none => s0) := by
    intro i s h
    rw [upA_get, Option.map_eq_some_iff] at h
    obtain ⟨s0, h1, h2⟩ := h
    rw [Nat.zero_add] at h2
    exact ⟨s0, h1, h2.symm⟩
  have notF : ∀ {a : Addr} {o : HO}, Hf a = none → H a = some o → Hf' a = none := fun {a o} h1 h2 => by
    cases z : Hf' a with
    | none => rfl
    | some u =>
      rcases B.frozen a u z with y | y
      · rw [h1] at y; cases y
      · rw [h2] at y; cases y
  have passed : ∀ {i j : Nat} {p : Addr} {m : M}, cs[j]? = some (.slot i) → getM i ρ = some m → σ[i]? = some (some (V.ref p)) → ∃ m', (updOf 0 cs outs).lookup i = some m' ∧ MOk W.K Hf' H' p m' := fun {i j p m} hc hg hs => by
    obtain ⟨a, h1, h2⟩ := argsOf_get ha hc
    simp only [argOf, hg, Option.map_some, Option.some.injEq] at h2
    subst h2
    obtain ⟨v, h3, r⟩ := Paired.get l hc
    have r' : σ[i]? = some (some v) := r
    rw [hs] at r'; cases r'
    have hr : rfF as vs j = some p := by unfold rfF; rw [h1, h3]
    obtain ⟨m', e, mo⟩ := B.outs j p hr
    exact ⟨m', upd_some nd hc (by simpa using e), mo⟩
  have inCs : ∀ {i : Nat}, i ∈ slotsOf cs → ∃ j : Nat, cs[j]? = some (.slot i) := by
    intro i
    clear passed get notF nd ha l B
    induction cs with
    | nil => intro h; simp [slotsOf] at h
    | cons c cs ih =>
      intro h
      cases c with
      | val d =>
        simp only [slotsOf] at h
        obtain ⟨j, e⟩ := ih h
        exact ⟨j + 1, by simpa using e⟩
      | slot t =>
        simp only [slotsOf, List.mem_cons] at h
        rcases h with rfl | h
        · exact ⟨0, rfl⟩
        · obtain ⟨j, e⟩ := ih h
          exact ⟨j + 1, by simpa using e⟩
  have kept : ∀ {i : Nat} {p : Addr} {m : M}, i ∉ slotsOf cs → getM i ρ = some m → σ[i]? = some (some (V.ref p)) → ∀ o, H p = some o → H' p = some o := fun {i p m} hni hg hs o ho => by
    refine B.keep p o ho fun j hj => ?_
    obtain ⟨s, m', c1, e1, g1⟩ := rf_slot S l ha hj
    have := same_slot S hg g1 hs e1
    subst this
    exact hni (slots_at c1)
  have mk : ∀ {i : Nat} {p : Addr} {m : M} {s0 s : Sl}, getM i ρ = some m → σ[i]? = some (some (V.ref p)) → MOk W.K Hf H p m → s = (match (updOf 0 cs outs).lookup i with | some m => s0.put m | none => s0) → ∃ m', s = s0.put m' ∧ MOk W.K Hf' H' p m' ∨ (s = s0 ∧ MOk W.K Hf' H' p m) := fun {i p m s0 s} hg hs mo e => by
    by_cases hm : i ∈ slotsOf cs
    · obtain ⟨j, hj⟩ := inCs hm
      obtain ⟨m', h1, h2⟩ := passed hj hg hs
      rw [h1] at e
      exact ⟨m', .inl ⟨e, h2⟩⟩
    · rw [upd_none hm] at e
      obtain ⟨o, ho⟩ := mo.there
      exact ⟨m, .inr ⟨e, mo.mono B.grow (notF mo.no ho) (kept hm hg hs)⟩⟩
  refine ⟨B.ex, S.grow.trans B.grow, fun a o h => ?_, fun a o h n => ?_, fun a o h => ?_, ?_, fun i d h => ?_, fun i m h => ?_, fun i m h => ?_, fun i j m m' p ne h1 h2 e1 e2 => ?_, S.inj, S.rfH⟩
  · rcases B.frozen a o h with z | z
    · exact S.frozen a o z
    · exact .inr (S.H0none z)
  · refine B.keep a o (S.keep a o h n) fun j hj => ?_
    obtain ⟨s, m', c1, e1, g1⟩ := rf_slot S l ha hj
    rcases getM_at g1 with g | g
    · obtain ⟨q, b1, b2, _⟩ := S.own s _ g
      rw [e1] at b1; cases b1
      rw [h] at b2; cases b2
    · obtain ⟨q, b1, b2, _⟩ := S.ref s _ g
      rw [e1] at b1; cases b1
      exact n s b2
  · obtain ⟨o', e⟩ := S.live a o h
    exact B.live a o' e
  · have hl : ∀ (k : Nat) (r : Rho), (upA (updOf 0 cs outs) k r).length = r.length := by
      intro k r
      induction r generalizing k with
      | nil => rfl
      | cons s r ih => simp [upA, ih]
    rw [hl]; exact S.len
  · obtain ⟨s0, h1, h2⟩ := get h
    have : s0 = .val d := by
      revert h2
      cases (updOf 0 cs outs).lookup i <;> cases s0 <;> simp [Sl.put]
      all_goals (intro z; exact z.symm)
    subst this
    obtain ⟨v, a, b⟩ := S.val i d h1
    exact ⟨v, a, b.mono B.grow⟩
  · obtain ⟨s0, h1, h2⟩ := get h
    have : ∃ m0, s0 = .own m0 := by
      revert h2
      cases (updOf 0 cs outs).lookup i <;> cases s0 <;> simp [Sl.put]
    obtain ⟨m0, rfl⟩ := this
    obtain ⟨p, a, b, c⟩ := S.own i m0 h1
    have hg : getM i ρ = some m0 := by unfold getM; rw [h1]
    obtain ⟨m', ⟨h3, h4⟩ | ⟨h3, h4⟩⟩ := mk hg a c h2
    · cases h3; exact ⟨p, a, b, h4⟩
    · cases h3; exact ⟨p, a, b, h4⟩
  · obtain ⟨s0, h1, h2⟩ := get h
    have : ∃ m0, s0 = .ref m0 := by
      revert h2
      cases (updOf 0 cs outs).lookup i <;> cases s0 <;> simp [Sl.put]
    obtain ⟨m0, rfl⟩ := this
    obtain ⟨p, a, b, c⟩ := S.ref i m0 h1
    have hg : getM i ρ = some m0 := by unfold getM; rw [h1]
    obtain ⟨m', ⟨h3, h4⟩ | ⟨h3, h4⟩⟩ := mk hg a c h2
    · cases h3; exact ⟨p, a, b, h4⟩
    · cases h3; exact ⟨p, a, b, h4⟩
  · obtain ⟨s0, g1, g2⟩ := get h1
    obtain ⟨s0', g1', g2'⟩ := get h2
    have o1 : ∃ m0, s0 = .own m0 := by
      revert g2
      cases (updOf 0 cs outs).lookup i <;> cases s0 <;> simp [Sl.put]
    have o2 : ∃ m0, s0' = .own m0 := by
      revert g2'
      cases (updOf 0 cs outs).lookup j <;> cases s0' <;> simp [Sl.put]
    obtain ⟨m0, rfl⟩ := o1
    obtain ⟨m1, rfl⟩ := o2
    exact S.sep i j m0 m1 p ne g1 g1' e1 e2
end
end DI
set_option maxRecDepth 100000
set_option maxHeartbeats 4000000
namespace DI
open PySem PySem.Spec PyProof.Rows L2

def runFn (n : Nat) (f : FM) (cs : List CO) : Den RV := fun ρ => match argsOf ρ cs with
  | none => none
  | some as => if (slotsOf cs).Nodup ∧ as.length = n then match f as with
      | some (.ret rv outs) => some (.ok rv (upA (updOf 0 cs outs) 0 ρ))
      | some (.exc c d outs) => some (.exc c d (upA (updOf 0 cs outs) 0 ρ))
      | none => none
    else none
theorem Apart.up {u : List (Nat × M)} {σ : L2.St} {ρ : Rho} {p : Addr} {k : Nat} (h : Apart σ ρ p) : Apart σ (upA u 0 ρ) p := fun i m g => by
  rw [upA_get, Option.map_eq_some_iff] at g
  obtain ⟨s0, h1, h2⟩ := g
  have : ∃ m0, s0 = .own m0 := by
    revert h2
    cases u.lookup (0 + i) <;> cases s0 <;> simp [Sl.put]
  obtain ⟨m0, rfl⟩ := this
  exact h i m0 h1
section
variable {C : Ck} {X : Cx}
theorem run_core {n : Nat} {f : FM} {ca : Str → Option Addr} (hca : C.ca = ca) {σ : L2.St} {H Hf : Hp} {ρ : Rho} {cs : List CO} {vs : List V} {o : Out RV} {Q : VK} (S : Stt C.W Hf H σ ρ) (l : lCs C.W Hf H σ ρ cs vs) (e : runFn n f cs ρ = some o) (fin : Fin C lV σ Hf o Q) :
    spOf C.W.K ca n f (vs ++ []) H Q (WE C.Wx σ) := by
  rw [List.append_nil]
  unfold runFn at e
  split at e
  · cases e
  · rename_i as ha
    split at e
    · rename_i hnd
      have hp := args_ok S l ha
      cases hf : f as with
      | none => rw [hf] at e; cases e
      | some r =>
        rw [hf] at e
        refine ⟨Hf, as, r, hnd.2, hp, S.ex, args_inj S l ha hnd.1, hf, ?_⟩
        cases r with
        | ret rv outs =>
          cases e
          intro v Hf' H' B rr
          have S' := called S l ha hnd.1 B
          refine fin v Hf' H' S' B.grow ?_
          cases rv with
          | val d => exact rr
          | new m =>
            obtain ⟨p, rfl, n0, mo⟩ := rr
            have n0' : H p = none := n0
            exact ⟨p, rfl, S.H0none n0', mo, (S.apart n0').up (k := 0)⟩
        | exc c d outs =>
          cases e
          intro Hf' H' A dd v B h1 h2 h3 h4
          exact fin Hf' H' A dd v (called S l ha hnd.1 B) B.grow (hca ▸ h1) h2 (S.H0none h3) h4
    · cases e
theorem pe_callD {k n : Nat} {f : Addr} {fd : FuncData} {ps : List Str} {fm : FM} {x : Str} {p pos : Pos} {e : Expr} {es : List Expr} {args : Den (List CO)} {ca : Str → Option Addr} (hca : C.ca = ca)
    (F : FnOk X.prog X.w X.K X.mg X.base (L2N.CX X.prog X.w) k f fd ps (spOf C.W.K ca n fm)) (hr : Room k X.A) (hg : Gl X x) (hm : X.mg x = some (.ref f)) (hk : PySem.W.keepIn X.K (.ref f) = true) (hb : Binds X.K fd ps []) (tk : L2N.Takes X C.Wx)
    (ha : PA X (e :: es) (tG C lCs args)) (hdb : (x == ("__debug__" : Str)) = false) (hs : (e :: es).all notStar = true) : PE X (.Call (.Name x p) (e :: es) [] pos) (tG C lV (bnd args (runFn n fm))) := by
  rw [List.all_cons, Bool.and_eq_true] at hs
  refine (pe_callSD (E := fun σ => WE C.Wx σ) F hr hg hm hk hb .nil (fun σ => L2N.passAt tk σ) ha hdb (star_cons hs.1) (star_any hs.2)).imp fun σ H Q hq => ?_
  obtain ⟨Hf, ρ, o, S, e, f⟩ := hq
  exact tG_bnd' S e f fun vs H1 Hf1 ρ1 cs S1 ex l e1 f1 => run_core hca S1 l e1 f1
def nilC : Den (List CO) := ret []
def consC (x : Den CO) (y : Den (List CO)) : Den (List CO) := bnd x fun c => bnd y fun cs => ret (c :: cs)
theorem pa_nilC : PA X [] (tG C lCs nilC) := by
  refine pa_nil.imp fun σ H Q hq => ?_
  obtain ⟨Hf, ρ, o, S, e, f⟩ := hq
  exact f.ret e S (Evl.Ex.refl _) .nil
theorem pa_consC {e : Expr} {es : List Expr} {x : Den CO} {y : Den (List CO)} (h : PE X e (tG C lC x)) (hs : PA X es (tG C lCs y)) (st : notStar e = true) : PA X (e :: es) (tG C lCs (consC x y)) := by
  refine (pa_cons h hs (star_cons st)).imp fun σ H Q hq => ?_
  obtain ⟨Hf, ρ, o, S, e, f⟩ := hq
  refine tG_bnd' S e f fun v H1 Hf1 ρ1 c S1 ex r e1 f1 => ?_
  refine tG_bnd' S1 e1 f1 fun vs H2 Hf2 ρ2 cs S2 ex2 r2 e2 f2 => ?_
  refine f2.ret e2 S2 (Evl.Ex.refl _) (.cons ?_ r2)
  cases c with
  | slot i => exact r
  | val d => exact Rp.mono ex2 r
theorem run0 {k n : Nat} {f : Addr} {fd : FuncData} {ps : List Str} {fm : FM} {x : Str} {p pos : Pos} {ca : Str → Option Addr} (hca : C.ca = ca)
    (F : FnOk X.prog X.w X.K X.mg X.base (L2N.CX X.prog X.w) k f fd ps (spOf C.W.K ca n fm)) (hr : Room k X.A) (hg : Gl X x) (hm : X.mg x = some (.ref f)) (hk : PySem.W.keepIn X.K (.ref f) = true) (hb : Binds X.K fd ps []) (tk : L2N.Takes X C.Wx)
    (hdb : (x == ("__debug__" : Str)) = false) : PE X (.Call (.Name x p) [] [] pos) (tG C lV (bnd nilC (runFn n fm))) := by
  refine ⟨fun pins s σ H Q I hq => ?_⟩
  obtain ⟨Hf, ρ, o, S, e, f⟩ := hq
  refine wpAny_Call_Name_kw (ld_glob I hg hm ?_ hdb)
  refine PySem.W.callWith_K0 I.kIn hk (run_fnSD (E := fun σ => WE C.Wx σ) (us := []) (vs := []) F hr hb .nil (L2N.passAt tk σ) I .nil ?_)
  have e' : runFn n fm [] ρ = some o := e
  exact run_core (vs := []) hca S .nil e' f
end
end DI
set_option maxRecDepth 100000
set_option maxHeartbeats 4000000
namespace DI
open PySem PySem.Spec PyProof.Rows L2

/-! ### within a comprehension: every name's own list is handed by reference, the walked one is hidden -/
def innS : Sl → Sl
  | .own m => .ref m
  | s => s
def outS : Sl → Sl → Sl
  | .own _, .ref m => .own m
  | .ref _, .ref m => .ref m
  | .val d, _ => .val d
  | _, _ => .no
def inn (hide : Option Nat) : Nat → Rho → Rho
  | _, [] => []
  | k, s :: ρ => (if hide = some k then .no else innS s) :: inn hide (k + 1) ρ
def outn (hide : Option Nat) : Nat → Rho → Rho → Rho
  | _, [], _ => []
  | k, s :: ρ, ρ2 => (if hide = some k then s else outS s (ρ2.headD .no)) :: outn hide (k + 1) ρ ρ2.tail
theorem inn_get {hide : Option Nat} : ∀ {ρ : Rho} {k i : Nat}, (inn hide k ρ)[i]? = ρ[i]?.map fun s => if hide = some (k + i) then Sl.no else innS s
  | [], _, _ => by simp [inn]
  | s :: ρ, k, 0 => by simp [inn]
  | s :: ρ, k, i + 1 => by
    have ih := inn_get (hide := hide) (ρ := ρ) (k := k + 1) (i := i)
    rw [show k + (i + 1) = k + 1 + i by omega]
    simpa [inn] using ih
theorem headD_get {ρ : Rho} : ρ.headD .no = ρ[0]?.getD .no := by cases ρ <;> rfl
theorem outn_get {hide : Option Nat} : ∀ {ρ ρ2 : Rho} {k i : Nat}, (outn hide k ρ ρ2)[i]? = ρ[i]?.map fun s => if hide = some (k + i) then s else outS s (ρ2[i]?.getD .no)
  | [], _, _, _ => by simp [outn]
  | s :: ρ, ρ2, k, 0 => by cases ρ2 <;> simp [outn]
  | s :: ρ, ρ2, k, i + 1 => by
    have ih := outn_get (hide := hide) (ρ := ρ) (ρ2 := ρ2.tail) (k := k + 1) (i := i)
    rw [show k + (i + 1) = k + 1 + i by omega]
    have e : ρ2.tail[i]? = ρ2[i + 1]? := by simp
    rw [e] at ih
    simpa [outn] using ih
theorem inn_len {hide : Option Nat} : ∀ (ρ : Rho) (k : Nat), (inn hide k ρ).length = ρ.length
  | [], _ => rfl
  | s :: ρ, k => by simp [inn, inn_len ρ]
theorem outn_len {hide : Option Nat} : ∀ (ρ ρ2 : Rho) (k : Nat), (outn hide k ρ ρ2).length = ρ.length
  | [], _, _ => rfl
  | s :: ρ, ρ2, k => by simp [outn, outn_len ρ]
def nestRf (hide : Option Nat) (σ : L2.St) (ρ : Rho) : Nat → Option Addr := fun i => if hide = some i then none else match ρ[i]?, σ[i]? with
  | some (.own _), some (some (.ref p)) => some p
  | some (.ref _), some (some (.ref p)) => some p
  | _, _ => none
def nestW (W : Wd) (hide : Option Nat) (Hf H : Hp) (σ : L2.St) (ρ : Rho) : Wd := ⟨W.K, H, Hf, nestRf hide σ ρ⟩
section
variable {W : Wd} {Hf H Hf' H' : Hp} {σ σ2 : L2.St} {ρ ρ2 : Rho} {hide : Option Nat} {C : Ck}
theorem nestRf_inv (S : Stt W Hf H σ ρ) {i : Nat} {p : Addr} (h : nestRf hide σ ρ i = some p) : hide ≠ some i ∧ ∃ m, getM i ρ = some m ∧ σ[i]? = some (some (V.ref p)) ∧ MOk W.K Hf H p m := by
  unfold nestRf at h
  split at h
  · cases h
  · rename_i hh
    refine ⟨hh, ?_⟩
    split at h
    · rename_i m q h1 h2
      cases h
      have g : getM i ρ = some m := by unfold getM; rw [h1]
      obtain ⟨q, e, mo⟩ := getM_slot (C := ⟨W, fun _ _ _ _ => True, fun _ => none⟩) S g
      rw [h2] at e; cases e
      exact ⟨m, g, h2, mo⟩
    · rename_i m q h1 h2
      cases h
      have g : getM i ρ = some m := by unfold getM; rw [h1]
      obtain ⟨q, e, mo⟩ := getM_slot (C := ⟨W, fun _ _ _ _ => True, fun _ => none⟩) S g
      rw [h2] at e; cases e
      exact ⟨m, g, h2, mo⟩
    · cases h
theorem nest_in (S : Stt W Hf H σ ρ) : Stt (nestW W hide Hf H σ ρ) Hf H σ (inn hide 0 ρ) := by
  have get : ∀ {i : Nat} {s : Sl}, (inn hide 0 ρ)[i]? = some s → ∃ s0, ρ[i]? = some s0 ∧ s = if hide = some i then Sl.no else innS s0 := by
    intro i s h
    rw [inn_get, Option.map_eq_some_iff] at h
    obtain ⟨s0, h1, h2⟩ := h
    rw [Nat.zero_add] at h2
    exact ⟨s0, h1, h2.symm⟩
  refine ⟨S.ex, Evl.Ex.refl _, fun a o h => .inl h, fun a o h _ => h, fun a o h => ⟨o, h⟩, by rw [inn_len]; exact S.len, fun i d h => ?_, fun i m h => ?_, fun i m h => ?_, fun i j m m' p ne h1 h2 e1 e2 => ?_, fun i j p h1 h2 => ?_, fun i p h => ?_⟩
  · obtain ⟨s0, h1, h2⟩ := get h
    split at h2
    · cases h2
    · cases s0 <;> simp only [innS] at h2 <;> cases h2
      exact S.val i d h1
  · obtain ⟨s0, h1, h2⟩ := get h
    split at h2
    · cases h2
    · cases s0 <;> simp only [innS] at h2 <;> cases h2
  · obtain ⟨s0, h1, h2⟩ := get h
    split at h2
    · cases h2
    · rename_i hh
      cases s0 <;> simp only [innS] at h2 <;> cases h2
      · obtain ⟨p, a, b, c⟩ := S.own i m h1
        exact ⟨p, a, by show nestRf hide σ ρ i = some p; unfold nestRf; rw [if_neg hh, h1, a], c⟩
      · obtain ⟨p, a, b, c⟩ := S.ref i m h1
        exact ⟨p, a, by show nestRf hide σ ρ i = some p; unfold nestRf; rw [if_neg hh, h1, a], c⟩
  · obtain ⟨s0, g1, g2⟩ := get h1
    split at g2
    · cases g2
    · cases s0 <;> simp only [innS] at g2 <;> cases g2
  · obtain ⟨_, m, g1, e1, _⟩ := nestRf_inv S h1
    obtain ⟨_, m', g2, e2, _⟩ := nestRf_inv S h2
    exact same_slot S g1 g2 e1 e2
  · obtain ⟨_, m, _, _, mo⟩ := nestRf_inv S h
    exact mo.there
/-- back outside: the slots at σ2 differ from σ at most where ρ says nothing -/
theorem nest_out (S : Stt W Hf H σ ρ) (S2 : Stt (nestW W hide Hf H σ ρ) Hf' H' σ2 ρ2) (hl : σ2.length = σ.length) (hσ : ∀ (i : Nat) (s : Sl), ρ[i]? = some s → s ≠ Sl.no → σ2[i]? = σ[i]?) :
    Stt W Hf' H' σ2 (outn hide 0 ρ ρ2) ∧ Ex Hf Hf' ∧ (∀ a o, H a = some o → (∀ i, nestRf hide σ ρ i ≠ some a) → H' a = some o) := by
  have gr : Ex Hf Hf' := S2.grow
  refine ⟨?_, gr, S2.keep⟩
  have get : ∀ {i : Nat} {s : Sl}, (outn hide 0 ρ ρ2)[i]? = some s → ∃ s0, ρ[i]? = some s0 ∧ s = if hide = some i then s0 else outS s0 (ρ2[i]?.getD .no) := by
    intro i s h
    rw [outn_get, Option.map_eq_some_iff] at h
    obtain ⟨s0, h1, h2⟩ := h
    rw [Nat.zero_add] at h2
    exact ⟨s0, h1, h2.symm⟩
  have notF : ∀ {a : Addr} {o : HO}, Hf a = none → H a = some o → Hf' a = none := fun {a o} h1 h2 => by
    cases z : Hf' a with
    | none => rfl
    | some u =>
      rcases S2.frozen a u z with y | y
      · have y : Hf a = some u := y
        rw [h1] at y; cases y
      · have y : H a = none := y
        rw [h2] at y; cases y
  have notRef : ∀ {i : Nat} {p : Addr} {m : M}, hide = some i → getM i ρ = some m → σ[i]? = some (some (V.ref p)) → ∀ j, nestRf hide σ ρ j ≠ some p := fun {i p m} hh hg hs j hj => by
    obtain ⟨nh, m', g, e, _⟩ := nestRf_inv S hj
    have := same_slot S hg g hs e
    subst this
    exact nh hh
  have fromRef : ∀ {i : Nat} {p : Addr} {m m2 : M}, hide ≠ some i → getM i ρ = some m → σ[i]? = some (some (V.ref p)) → ρ2[i]? = some (.ref m2) → σ2[i]? = some (some (V.ref p)) ∧ MOk W.K Hf' H' p m2 := fun {i p m m2} hh hg hs h2 => by
    obtain ⟨q, a, b, c⟩ := S2.ref i m2 h2
    have b : nestRf hide σ ρ i = some q := b
    have hr : nestRf hide σ ρ i = some p := by
      unfold nestRf
      rw [if_neg hh]
      rcases getM_at hg with h | h <;> rw [h, hs]
    rw [hr] at b; cases b
    exact ⟨a, c⟩
  have same : ∀ {i : Nat} {p : Addr} {m : M}, getM i ρ = some m → σ[i]? = some (some (V.ref p)) → σ2[i]? = some (some (V.ref p)) := fun {i p m} hg hs => by
    rcases getM_at hg with h | h
    · rw [hσ i _ h (by simp)]; exact hs
    · rw [hσ i _ h (by simp)]; exact hs
  have slotM : ∀ {i : Nat} {s0 s : Sl} {m0 : M}, ρ[i]? = some s0 → getM i ρ = some m0 → (s0 = .own m0 ∨ s0 = .ref m0) → s = (if hide = some i then s0 else outS s0 (ρ2[i]?.getD .no)) → s = .no ∨ ∃ p m, σ[i]? = some (some (V.ref p)) ∧ σ2[i]? = some (some (V.ref p)) ∧ MOk W.K Hf' H' p m ∧ ((s0 = .own m0 ∧ s = .own m) ∨ (s0 = .ref m0 ∧ s = .ref m)) := by
    intro i s0 s m0 h1 hg hs0 h2
    obtain ⟨p, hs, mo⟩ := getM_slot (C := ⟨W, fun _ _ _ _ => True, fun _ => none⟩) S hg
    split at h2
    · rename_i hh
      obtain ⟨o, ho⟩ := mo.there
      refine .inr ⟨p, m0, hs, same hg hs, mo.mono gr (notF mo.no ho) fun u hu => S2.keep p u hu (notRef hh hg hs), ?_⟩
      rcases hs0 with rfl | rfl
      · exact .inl ⟨rfl, h2⟩
      · exact .inr ⟨rfl, h2⟩
    · rename_i hh
      cases h3 : ρ2[i]? with
      | none =>
        rw [h3] at h2
        rcases hs0 with rfl | rfl <;> exact .inl h2
      | some s2 =>
        rw [h3] at h2
        cases s2 with
        | ref m2 =>
          obtain ⟨a, c⟩ := fromRef hh hg hs h3
          refine .inr ⟨p, m2, hs, a, c, ?_⟩
          rcases hs0 with rfl | rfl
          · exact .inl ⟨rfl, h2⟩
          · exact .inr ⟨rfl, h2⟩
        | no => rcases hs0 with rfl | rfl <;> exact .inl h2
        | val d => rcases hs0 with rfl | rfl <;> exact .inl h2
        | own m => rcases hs0 with rfl | rfl <;> exact .inl h2
  refine ⟨S2.ex, S.grow.trans gr, fun a o h => ?_, fun a o h n => ?_, fun a o h => ?_, ?_, fun i d h => ?_, fun i m h => ?_, fun i m h => ?_, fun i j m m' p ne h1 h2 e1 e2 => ?_, S.inj, S.rfH⟩
  · rcases S2.frozen a o h with z | z
    · exact S.frozen a o z
    · exact .inr (S.H0none z)
  · refine S2.keep a o (S.keep a o h n) fun j hj => ?_
    obtain ⟨_, m', g, e, _⟩ := nestRf_inv S hj
    rcases getM_at g with g | g
    · obtain ⟨q, b1, b2, _⟩ := S.own j _ g
      rw [e] at b1; cases b1
      rw [h] at b2; cases b2
    · obtain ⟨q, b1, b2, _⟩ := S.ref j _ g
      rw [e] at b1; cases b1
      exact n j b2
  · obtain ⟨o', e⟩ := S.live a o h
    exact S2.live a o' e
  · rw [outn_len, hl]; exact S.len
  · obtain ⟨s0, h1, h2⟩ := get h
    have : s0 = .val d := by
      split at h2
      · exact h2.symm
      · revert h2
        cases s0 <;> cases ρ2[i]?.getD .no <;> simp [outS]
        all_goals (intro z; exact z.symm)
    subst this
    obtain ⟨v, a, b⟩ := S.val i d h1
    exact ⟨v, by rw [hσ i _ h1 (by simp)]; exact a, b.mono gr⟩
  · obtain ⟨s0, h1, h2⟩ := get h
    have : ∃ m0, s0 = .own m0 := by
      split at h2
      · exact ⟨m, h2.symm⟩
      · revert h2
        cases s0 <;> cases ρ2[i]?.getD .no <;> simp [outS]
    obtain ⟨m0, rfl⟩ := this
    have hg : getM i ρ = some m0 := by unfold getM; rw [h1]
    rcases slotM h1 hg (.inl rfl) h2 with z | ⟨p, m', a, b, c, ⟨_, d⟩ | ⟨d, _⟩⟩
    · cases z
    · cases d
      obtain ⟨q, a', b', _⟩ := S.own i m0 h1
      rw [a] at a'; cases a'
      exact ⟨p, b, b', c⟩
    · cases d
  · obtain ⟨s0, h1, h2⟩ := get h
    have : ∃ m0, s0 = .ref m0 := by
      split at h2
      · exact ⟨m, h2.symm⟩
      · revert h2
        cases s0 <;> cases ρ2[i]?.getD .no <;> simp [outS]
    obtain ⟨m0, rfl⟩ := this
    have hg : getM i ρ = some m0 := by unfold getM; rw [h1]
    rcases slotM h1 hg (.inr rfl) h2 with z | ⟨p, m', a, b, c, ⟨d, _⟩ | ⟨_, d⟩⟩
    · cases z
    · cases d
    · cases d
      obtain ⟨q, a', b', _⟩ := S.ref i m0 h1
      rw [a] at a'; cases a'
      exact ⟨p, b, b', c⟩
  · obtain ⟨s0, g1, g2⟩ := get h1
    obtain ⟨s0', g1', g2'⟩ := get h2
    have o1 : ∃ m0, s0 = .own m0 := by
      split at g2
      · exact ⟨m, g2.symm⟩
      · revert g2
        cases s0 <;> cases ρ2[i]?.getD .no <;> simp [outS]
    have o2 : ∃ m0, s0' = .own m0 := by
      split at g2'
      · exact ⟨m', g2'.symm⟩
      · revert g2'
        cases s0' <;> cases ρ2[j]?.getD .no <;> simp [outS]
    obtain ⟨m0, rfl⟩ := o1
    obtain ⟨m1, rfl⟩ := o2
    rw [hσ i _ g1 (by simp)] at e1
    rw [hσ j _ g1' (by simp)] at e2
    exact S.sep i j m0 m1 p ne g1 g1' e1 e2
end
end DI
set_option maxRecDepth 100000
set_option maxHeartbeats 4000000
namespace DI
open PySem PySem.Spec PyProof.Rows L2

def lcL (elt : Den D) (cond : Den Bool) (k : Nat) (hide : Option Nat) : List D → List D → Rho → Option (List D × Rho)
  | acc, [], ρ => some (acc, ρ)
  | acc, d :: ds, ρ => match cond ((inn hide 0 ρ).set k (.val d)) with
    | some (.ok false ρ2) => lcL elt cond k hide acc ds ((outn hide 0 ρ ρ2).set k .no)
    | some (.ok true ρ2) => match elt ρ2 with
      | some (.ok y ρ3) => if acc.length < 90000 then lcL elt cond k hide (acc ++ [y]) ds ((outn hide 0 ρ ρ3).set k .no) else none
      | _ => none
    | _ => none
section
variable {W : Wd} {Hf H Hf' H' : Hp} {σ σ2 : L2.St} {ρ ρ2 : Rho} {hide : Option Nat} {C : Ck} {p : Addr} {o : HO}
/-- an object that no name holds is written -/
theorem Stt.other (S : Stt W Hf H σ ρ) (n0 : W.H0 p = none) (nf : Hf p = none) (ap : Apart σ ρ p) : Stt W Hf (upd H p o) σ ρ := by
  refine ⟨fun a u g => ?_, S.grow, S.frozen, fun a u g n => ?_, fun a u g => ?_, S.len, S.val, fun j n g => ?_, fun j n g => ?_, S.sep, S.inj, S.rfH⟩
  · by_cases z : a = p
    · subst z; rw [nf] at g; cases g
    · rw [upd_ne z]; exact S.ex _ _ g
  · by_cases z : a = p
    · subst z; rw [n0] at g; cases g
    · rw [upd_ne z]; exact S.keep _ _ g n
  · by_cases z : a = p
    · subst z; exact ⟨_, upd_same⟩
    · obtain ⟨o', e⟩ := S.live a u g; exact ⟨o', by rw [upd_ne z]; exact e⟩
  · obtain ⟨q, a, b, c⟩ := S.own j n g
    have ne : q ≠ p := fun z => ap j n g (z ▸ a)
    exact ⟨q, a, b, c.mono (Evl.Ex.refl _) c.no fun u z => by rw [upd_ne ne]; exact z⟩
  · obtain ⟨q, a, b, c⟩ := S.ref j n g
    have ne : q ≠ p := fun z => S.notRef n0 (z ▸ b)
    exact ⟨q, a, b, c.mono (Evl.Ex.refl _) c.no fun u z => by rw [upd_ne ne]; exact z⟩
theorem Apart.outn (h : Apart σ ρ p) {ρ3 : Rho} {σ3 : L2.St} {k : Nat} (hσ : ∀ (i : Nat) (s : Sl), ρ[i]? = some s → s ≠ Sl.no → σ3[i]? = σ[i]?) : Apart σ3 ((DI.outn hide 0 ρ ρ3).set k .no) p := fun i m g => by
  rcases getset g with ⟨_, z⟩ | ⟨ne, g⟩
  · cases z
  · rw [outn_get, Option.map_eq_some_iff] at g
    obtain ⟨s0, h1, h2⟩ := g
    have : ∃ m0, s0 = .own m0 := by
      split at h2
      · exact ⟨m, h2⟩
      · revert h2
        cases s0 <;> cases ρ3[i]?.getD .no <;> simp [outS]
    obtain ⟨m0, rfl⟩ := this
    rw [hσ i _ h1 (by simp)]
    exact h i m0 h1
/-- the block's state at a turn: the new list is at q -/
structure Blk (W : Wd) (Hf1 : Hp) (k : Nat) (q : Addr) (σw : L2.St) (Hf H : Hp) (ρ : Rho) (acc : List D) : Prop where
  S : Stt W Hf H σw ρ
  ex : Ex Hf1 Hf
  no : ρ[k]? = some .no
  q0 : W.H0 q = none
  qf : Hf q = none
  ap : Apart σw ρ q
  li : ∃ xs, H q = some (.lst xs) ∧ RpA W.K Hf xs acc
theorem Blk.inn {Hf1 : Hp} {k : Nat} {q : Addr} {σw : L2.St} {acc : List D} {x : V} {d : D} (B : Blk W Hf1 k q σw Hf H ρ acc) (r : Rp W.K Hf x d) : Stt (nestW W hide Hf H σw ρ) Hf H (σw.set k (some x)) ((DI.inn hide 0 ρ).set k (.val d)) := by
  refine (nest_in B.S).setVal r fun n h => ?_
  rw [inn_get, B.no] at h
  simp only [Option.map_some, Option.some.injEq] at h
  split at h <;> cases h
theorem Blk.out {Hf1 : Hp} {k : Nat} {q : Addr} {σw : L2.St} {acc : List D} {x : V} (B : Blk W Hf1 k q σw Hf H ρ acc) (S2 : Stt (nestW W hide Hf H σw ρ) Hf' H' (σw.set k (some x)) ρ2) (hk : σw[k]? = some none) :
    Blk W Hf1 k q σw Hf' H' ((outn hide 0 ρ ρ2).set k .no) acc ∧ (∀ a o, H a = some o → (∀ i, nestRf hide σw ρ i ≠ some a) → H' a = some o) := by
  have hσ : ∀ (i : Nat) (s : Sl), ρ[i]? = some s → s ≠ Sl.no → (σw.set k (some x))[i]? = σw[i]? := fun i s h hs => by
    have ne : k ≠ i := fun z => by subst z; rw [B.no] at h; cases h; exact hs rfl
    rw [List.getElem?_set_ne ne]
  obtain ⟨S3, gr, kp⟩ := nest_out B.S S2 (by simp) hσ
  have notQ : ∀ i, nestRf hide σw ρ i ≠ some q := fun i h => by
    obtain ⟨_, m, g, e, _⟩ := nestRf_inv B.S h
    rcases getM_at g with g | g
    · exact B.ap i m g e
    · obtain ⟨p, a, b, _⟩ := B.S.ref i m g
      rw [e] at a; cases a
      exact B.S.notRef B.q0 b
  obtain ⟨xs, hq, ra⟩ := B.li
  have back : (σw.set k (some x)).set k none = σw := by
    rw [List.set_set]
    refine List.ext_getElem? fun i => ?_
    by_cases hi : k = i
    · subst hi
      by_cases hl : k < σw.length
      · rw [List.getElem?_set_self hl, hk]
      · rw [List.getElem?_eq_none (by simpa using hl)] at hk; cases hk
    · rw [List.getElem?_set_ne hi]
  have S4 := S3.setNo (i := k) (ov := none) fun n h => by
    rw [outn_get, B.no] at h
    simp only [Option.map_some, Option.some.injEq] at h
    split at h
    · cases h
    · revert h; cases ρ2[k]?.getD .no <;> simp [outS]
  rw [back] at S4
  refine ⟨⟨S4, B.ex.trans gr, ?_, B.q0, ?_, ?_, xs, kp q _ hq notQ, ra.mono gr⟩, kp⟩
  · have hl : k < (outn hide 0 ρ ρ2).length := by
      rw [outn_len]
      exact (List.getElem?_eq_some_iff.mp B.no).1
    exact List.getElem?_set_self hl
  · cases z : Hf' q with
    | none => rfl
    | some u =>
      rcases S2.frozen q u z with y | y
      · have y : Hf q = some u := y
        rw [B.qf] at y; cases y
      · have y : H q = none := y
        rw [hq] at y; cases y
  · exact Apart.outn B.ap fun i s h hs => rfl
theorem Blk.app {Hf1 : Hp} {k : Nat} {q : Addr} {σw : L2.St} {acc : List D} {y : V} {d : D} {xs : List V} (B : Blk W Hf1 k q σw Hf H ρ acc) (hq : H q = some (.lst xs)) (r : Rp W.K Hf y d) : Blk W Hf1 k q σw Hf (upd H q (.lst (xs ++ [y]))) ρ (acc ++ [d]) := by
  obtain ⟨xs', hq', ra⟩ := B.li
  rw [hq] at hq'; cases hq'
  exact ⟨B.S.other B.q0 B.qf B.ap, B.ex, B.no, B.q0, B.qf, B.ap, _, upd_same, ra.append (.cons r .nil)⟩
/-- the element's reading, the test's: in whatever world -/
def tIn {α β : Type} (C : Ck) (P : Lie α β) (x : Den α) : L2.St → Hp → (β → Hp → Prop) → Prop := fun σ H Q => ∃ W : Wd, W.K = C.W.K ∧ tG ⟨W, fun _ _ _ _ => False, C.ca⟩ P x σ H Q
/-- one turn -/
theorem lc_turn {Hf1 : Hp} {k : Nat} {q : Addr} {σw : L2.St} {acc : List D} {x : V} {d : D} {ds ys : List D} {ρe : Rho} {elt : Den D} {cond : Den Bool} (B : Blk C.W Hf1 k q σw Hf H ρ acc) (hk : σw[k]? = some none) (r : Rp C.W.K Hf x d)
    (e : lcL elt cond k hide acc (d :: ds) ρ = some (ys, ρe)) {Nx : Hp → Prop}
    (hN : ∀ Hf' H' ρ' acc', Blk C.W Hf1 k q σw Hf' H' ρ' acc' → lcL elt cond k hide acc' ds ρ' = some (ys, ρe) → (∀ a o, H a = some o → a ≠ q → (∀ i, nestRf hide σw ρ i ≠ some a) → H' a = some o) → (∀ i m, hide = some i → ρ[i]? = some (.own m) → ρ'[i]? = some (.own m)) → (∀ i m, hide = some i → ρ[i]? = some (.ref m) → ρ'[i]? = some (.ref m)) → Nx H') :
    tIn C lB cond (σw.set k (some x)) H fun b H3 => if b = true then tIn C lD elt (σw.set k (some x)) H3 fun y H4 => ∃ acc, H4 q = some (.lst acc) ∧ acc.length < sizeLine ∧ Nx (upd H4 q (.lst (acc ++ [y]))) else Nx H3 := by
  have hidden : ∀ (ρ3 : Rho) (i : Nat) (s : Sl), hide = some i → ρ[i]? = some s → s ≠ .no → ((outn hide 0 ρ ρ3).set k .no)[i]? = some s := fun ρ3 i s hh h hs => by
    have ne : k ≠ i := fun z => by subst z; rw [B.no] at h; cases h; exact hs rfl
    rw [List.getElem?_set_ne ne, outn_get, h]
    simp [hh]
  simp only [lcL] at e
  cases hc : cond ((inn hide 0 ρ).set k (.val d)) with
  | none => rw [hc] at e; cases e
  | some oc =>
    rw [hc] at e
    cases oc with
    | exc c' d' ρ' => cases e
    | ok b ρ2 =>
      refine ⟨nestW C.W hide Hf H σw ρ, rfl, Hf, _, _, B.inn r, hc, fun b' Hf2 H2 S2 ex2 l => ?_⟩
      have l' : b' = b := l
      subst l'
      cases b' with
      | false =>
        have e : lcL elt cond k hide acc ds ((outn hide 0 ρ ρ2).set k .no) = some (ys, ρe) := e
        obtain ⟨B2, kp⟩ := B.out S2 hk
        exact hN Hf2 H2 _ acc B2 e (fun a o h _ n => kp a o h n) (fun i m hh h => hidden ρ2 i _ hh h (by simp)) (fun i m hh h => hidden ρ2 i _ hh h (by simp))
      | true =>
        dsimp only
        rw [if_pos rfl]
        simp only at e
        cases he : elt ρ2 with
        | none => rw [he] at e; cases e
        | some oe =>
          rw [he] at e
          cases oe with
          | exc c' d' ρ' => cases e
          | ok y ρ3 =>
            simp only at e
            split at e
            · rename_i hz
              refine ⟨nestW C.W hide Hf H σw ρ, rfl, Hf2, ρ2, _, S2, he, fun u Hf3 H3 S3 ex3 lu => ?_⟩
              obtain ⟨B3, kp⟩ := B.out S3 hk
              obtain ⟨xs, hq, ra⟩ := B3.li
              refine ⟨xs, hq, by rw [ra.length]; exact Evl.sz_lt (by omega), ?_⟩
              exact hN Hf3 _ _ _ (B3.app hq lu) e (fun a o h na n => by rw [upd_ne na]; exact kp a o h n) (fun i m hh h => hidden ρ3 i _ hh h (by simp)) (fun i m hh h => hidden ρ3 i _ hh h (by simp))
            · cases e
theorem getset_self {α : Type} {l : List α} {k : Nat} {x : α} (h : l[k]? = some x) : l.set k x = l := by
  refine List.ext_getElem? fun i => ?_
  by_cases hi : k = i
  · subst hi
    rw [List.getElem?_set_self (List.getElem?_eq_some_iff.mp h).1, h]
  · rw [List.getElem?_set_ne hi]
theorem blk_start {k : Nat} {q : Addr} (S : Stt C.W Hf H σ ρ) (hn : ρ[k]? = some .no) (nq : H q = none) : Blk C.W Hf k q (wipe σ [k]) Hf (upd H q (.lst [])) ρ [] := by
  have S1 := S.setNo (i := k) (ov := none) fun n h => by rw [hn] at h; cases h
  rw [getset_self hn] at S1
  exact ⟨S1.made nq, Evl.Ex.refl _, hn, S.H0none nq, Evl.fresh_back S.ex nq, S1.apart nq, [], upd_same, .nil⟩
theorem blk_end {Hf1 : Hp} {k : Nat} {q : Addr} {ys : List D} {Q : VK} {ρe : Rho} (B : Blk C.W Hf1 k q (wipe σ [k]) Hf H ρe ys) (hl : k < σ.length) (f : Fin C lV σ Hf1 (.ok (.new (.lst ys)) ρe) Q) : Q (.ref q) H := by
  have S1 := B.S.setNo (i := k) (ov := σ[k]) fun n h => by rw [B.no] at h; cases h
  have back : (wipe σ [k]).set k σ[k] = σ := by
    show (σ.set k none).set k σ[k] = σ
    rw [List.set_set]
    exact getset_self (List.getElem?_eq_getElem hl)
  rw [getset_self B.no, back] at S1
  obtain ⟨xs, hq, ra⟩ := B.li
  refine f _ Hf H S1 B.ex ⟨q, rfl, B.q0, .lst B.qf hq ra, fun i m h e => B.ap i m h ?_⟩
  have ne : k ≠ i := fun z => by subst z; rw [B.no] at h; cases h
  show (σ.set k none)[i]? = _
  rw [List.getElem?_set_ne ne]; exact e
def lcEnd (elt : Den D) (cond : Den Bool) (k : Nat) (hide : Option Nat) (items : List D) : Den RV := fun ρ => match ρ[k]? with
  | some .no => match lcL elt cond k hide [] items ρ with
    | some (ys, ρ') => some (.ok (.new (.lst ys)) ρ')
    | none => none
  | _ => none
theorem lcEnd_inv {elt : Den D} {cond : Den Bool} {k : Nat} {items : List D} {o : Out RV} (e : lcEnd elt cond k hide items ρ = some o) : ρ[k]? = some .no ∧ ∃ ys ρe, lcL elt cond k hide [] items ρ = some (ys, ρe) ∧ o = .ok (.new (.lst ys)) ρe := by
  unfold lcEnd at e
  split at e
  · rename_i h
    split at e
    · rename_i ys ρ' h2
      cases e
      exact ⟨h, ys, ρ', h2, rfl⟩
    · cases e
  · cases e
theorem wiped {k : Nat} (hl : k < σ.length) : (wipe σ [k])[k]? = some none := by
  show (σ.set k none)[k]? = _
  exact List.getElem?_set_self hl
abbrev LcP (C : Ck) (elt : Den D) (cond : Den Bool) (k : Nat) (items ys : List D) (ρe : Rho) (σ : L2.St) (Hf1 : Hp) (q : Addr) (i : Nat) (H : Hp) : Prop := ∃ Hf ρ acc, Blk C.W Hf1 k q (wipe σ [k]) Hf H ρ acc ∧ lcL elt cond k none acc (items.drop i) ρ = some (ys, ρe)
theorem lc_step {k i : Nat} {q : Addr} {items ys : List D} {ρe : Rho} {elt : Den D} {cond : Den Bool} {Hf1 : Hp} {x : V} {d : D} (hl : k < σ.length) (h : LcP C elt cond k items ys ρe σ Hf1 q i H) (hd : items[i]? = some d) (r : ∀ Hf, Ex Hf1 Hf → Rp C.W.K Hf x d) :
    gName k x (wipe σ [k]) H fun σ2 H2 => wipe σ2 [k] = wipe σ [k] ∧ tIn C lB cond σ2 H2 fun b H3 => if b = true then tIn C lD elt σ2 H3 fun y H4 => ∃ acc, H4 q = some (.lst acc) ∧ acc.length < sizeLine ∧ LcP C elt cond k items ys ρe σ Hf1 q (i + 1) (upd H4 q (.lst (acc ++ [y]))) else LcP C elt cond k items ys ρe σ Hf1 q (i + 1) H3 := by
  obtain ⟨Hf, ρ, acc, B, e⟩ := h
  refine ⟨by show ((σ.set k none).set k (some x)).set k none = σ.set k none; rw [List.set_set, List.set_set], ?_⟩
  rw [drop_get hd] at e
  exact lc_turn B (wiped hl) (r Hf B.ex) e fun Hf' H' ρ' acc' B' e' _ _ _ => ⟨Hf', ρ', acc', B', e'⟩
theorem lc_fin {k n : Nat} {q : Addr} {items ys : List D} {ρe : Rho} {elt : Den D} {cond : Den Bool} {Hf1 : Hp} {Q : VK} (hl : k < σ.length) (h : LcP C elt cond k items ys ρe σ Hf1 q n H) (hn : items.length ≤ n) (f : Fin C lV σ Hf1 (.ok (.new (.lst ys)) ρe) Q) : Q (.ref q) H := by
  obtain ⟨Hf, ρ, acc, B, e⟩ := h
  rw [List.drop_eq_nil_of_le hn] at e
  simp only [lcL, Option.some.injEq, Prod.mk.injEq] at e
  obtain ⟨rfl, rfl⟩ := e
  exact blk_end B hl f
end
section
variable {C : Ck} {X : Cx}
theorem pe_in {X' : Cx} {e : Expr} {x : Den D} (h : ∀ W : Wd, W.K = C.W.K → PE X' e (tG ⟨W, fun _ _ _ _ => False, C.ca⟩ lD x)) : PE X' e (tIn C lD x) := ⟨fun pins s σ H Q I hq => by
  obtain ⟨W, hW, hq⟩ := hq
  exact (h W hW).run pins s σ H Q I hq⟩
theorem pts_in {X' : Cx} {e : Expr} {x : Den Bool} (h : ∀ W : Wd, W.K = C.W.K → PT X' e (tG ⟨W, fun _ _ _ _ => False, C.ca⟩ lB x)) : PTs X' [e] (tIn C lB x) := pts_one ⟨fun pins s σ H Q I hq => by
  obtain ⟨W, hW, hq⟩ := hq
  exact (h W hW).run pins s σ H Q I hq⟩
theorem pts_in0 {X' : Cx} : PTs X' [] (tIn C lB (ret true)) := ⟨fun pins s σ H Q I hq => by
  obtain ⟨W, hW, Hf, ρ, o, S, e, f⟩ := hq
  exact (pts_nil (X := X')).run pins s σ H Q I (f.ret e S (Evl.Ex.refl _) rfl)⟩
def lcD (x : Den D) (elt : Den D) (cond : Den Bool) (k : Nat) : Den RV := bnd x fun d => fun ρ => match itemsD d with
  | some items => lcEnd elt cond k none items ρ
  | none => none
/-- what a comprehension's block must be -/
structure LcOk (C : Ck) (X : Cx) (scope : Scope) (v : Str) (k : Nat) (tg elt : Expr) (ifs : List Expr) (x : Den D) (c : Den Bool) : Prop where
  blk : BlkOk X.N X.env.scope scope [(v, k)]
  tg : ∀ (s : Shared) (H : Hp) (A : Addr) (cl : List (Str × Addr)) (fp : List Addr), PG (X.blk s H scope (compEnvC scope cl A X.env) fp) tg (gName k)
  elt : ∀ (s : Shared) (H : Hp) (A : Addr) (cl : List (Str × Addr)) (fp : List Addr), PE (X.blk s H scope (compEnvC scope cl A X.env) fp) elt (tIn C lD x)
  ifs : ∀ (s : Shared) (H : Hp) (A : Addr) (cl : List (Str × Addr)) (fp : List Addr), PTs (X.blk s H scope (compEnvC scope cl A X.env) fp) ifs (tIn C lB c)
theorem lcd_core (hK : X.K = C.W.K.K) {k : Nat} {x elt : Den D} {cond : Den Bool} {σ : L2.St} {H Hf : Hp} {ρ : Rho} {o : Out RV} {Q : VK} (S : Stt C.W Hf H σ ρ) (e : lcD x elt cond k ρ = some o) (f : Fin C lV σ Hf o Q) :
    tLc (fun σ H R => tG C lD x σ H fun v H1 => ∃ a, v = .ref a ∧ (((∃ xs, SqL X.K H1 a xs) ∧ R (Itl X.K a) H1) ∨ ((∃ xs, SqT X.K H1 a xs) ∧ R (Itt X.K a) H1))) (gName k) (tIn C lB cond) (tIn C lD elt) [k] σ H Q := by
  refine tG_bnd' S e f fun v H1 Hf1 ρ1 d S1 ex l e1 f1 => ?_
  split at e1
  · rename_i items hd
    obtain ⟨hn, ys, ρe, e2, rfl⟩ := lcEnd_inv e1
    have hl : k < σ.length := by rw [S1.len]; exact (List.getElem?_eq_some_iff.mp hn).1
    have base : ∀ q, H1 q = none → LcP C elt cond k items ys ρe σ Hf1 q 0 (upd H1 q (.lst [])) := fun q nq => ⟨Hf1, ρ1, [], blk_start S1 hn nq, e2⟩
    have exq : ∀ {q i H}, LcP C elt cond k items ys ρe σ Hf1 q i H → Ex Hf1 H := fun {q i H} ⟨Hf, ρ, acc, B, _⟩ => B.ex.trans B.S.ex
    have list : ∀ {a : Addr} {xs : List V}, (∀ H, Ex Hf1 H → SqL X.K H a xs) → RpA C.W.K Hf1 xs items → ∀ q, H1 q = none → ∃ W : Nat → Nat → Hp → Prop, (∃ m, W 0 m (upd H1 q (.lst []))) ∧ ∀ i m H, W i m H →
        ((Itl X.K a).stop i H ∧ Q (.ref q) H) ∨ ((Itl X.K a).go i H ∧ ∃ Nx : Hp → Prop, (∀ H', Nx H' → ∃ m', m' < m ∧ W (i + 1) m' H') ∧ ∀ x H', (Itl X.K a).yld i H x H' → gName k x (wipe σ [k]) H' fun σ2 H2 => wipe σ2 [k] = wipe σ [k] ∧ tIn C lB cond σ2 H2 fun b H3 =>
          if b = true then tIn C lD elt σ2 H3 fun y H4 => ∃ acc, H4 q = some (.lst acc) ∧ acc.length < sizeLine ∧ Nx (upd H4 q (.lst (acc ++ [y]))) else Nx H3) := fun {a xs} hx ra q nq =>
      lc_list (K := X.K) (a := a) (xs := xs) (D := q) (Qd := fun H => Q (.ref q) H) (LcP C elt cond k items ys ρe σ Hf1 q) (base q nq) (fun i H _ h => hx H (exq h))
        (fun i y H hy h => by
          obtain ⟨d', hd', rd⟩ := ra.get' hy
          exact lc_step hl h hd' fun Hf ex => rd.mono ex) (fun H h => lc_fin hl h (by rw [ra.length]; exact Nat.le_refl _) f1)
    cases d with
    | lst ds' =>
      cases hd
      cases (show Rp C.W.K Hf1 v (.lst _) from l) with
      | lst a b => exact ⟨_, rfl, .inl ⟨⟨_, .inl (.inl (S1.ex _ _ a))⟩, list (fun H ex => .inl (.inl (ex _ _ a))) b⟩⟩
    | fls ds' =>
      cases hd
      cases (show Rp C.W.K Hf1 v (.fls _) from l) with
      | fls a b => exact ⟨_, rfl, .inl ⟨⟨_, hK ▸ Evl.ex_l S1.ex a⟩, list (fun H ex => hK ▸ Evl.ex_l ex a) b⟩⟩
    | tup ds' =>
      cases hd
      cases (show Rp C.W.K Hf1 v (.tup _) from l) with
      | @tup a xs _ qt b =>
        refine ⟨_, rfl, .inr ⟨⟨_, hK ▸ Evl.ex_t S1.ex qt⟩, fun q nq => ?_⟩⟩
        exact lc_tup (K := X.K) (a := a) (xs := xs) (D := q) (Qd := fun H => Q (.ref q) H) (LcP C elt cond k items ys ρe σ Hf1 q) (base q nq) (fun i H _ h => hK ▸ Evl.ex_t (exq h) qt)
          (fun i y H hy h => by
            obtain ⟨d', hd', rd⟩ := b.get' hy
            exact lc_step hl h hd' fun Hf ex => rd.mono ex) (fun H h => lc_fin hl h (by rw [b.length]; exact Nat.le_refl _) f1)
    | _ => cases hd
  · cases e1
theorem pe_lcD (hK : X.K = C.W.K.K) (hc : X.calm = true) (hN : X.N.Nodup) {elt tg iter : Expr} {ifs : List Expr} {scope : Scope} {pos : Pos} {v : Str} {k : Nat} {x y : Den D} {c : Den Bool} (L : LcOk C X scope v k tg elt ifs y c) (hi : PE X iter (tG C lD x)) (hs : notSet iter = true) :
    PE X (.ListComp elt [⟨tg, iter, ifs, 0⟩] scope pos) (tG C lV (lcD x y c k)) :=
  (pe_lc (own := [(v, k)]) hc hN (pi_seq hi) L.blk L.tg L.ifs L.elt (notSet_iter hs)).imp fun σ H Q ⟨Hf, ρ, o, S, e, f⟩ => lcd_core hK S e f
def asgLc (i : Nat) (x : Den RV) : SDen := asgS i x
theorem ps_lcD (hK : X.K = C.W.K.K) (hc : X.calm = true) (hN : X.N.Nodup) {i : Nat} {n : Str} {py spos : Pos} {elt tg iter : Expr} {ifs : List Expr} {scope : Scope} {pos : Pos} {v : Str} {k : Nat} {x y : Den D} {c : Den Bool} (hy : X.N[i]? = some n) (hyl : X.env.scope.names.lookup n = some .local)
    (hsw : swapsWith (.ListComp elt [⟨tg, iter, ifs, 0⟩] scope pos) (some (.Name n py)) spos.line X.env = pure true) (L : LcOk C X scope v k tg elt ifs y c) (hi : PE X iter (tG C lD x)) (hs : notSet iter = true) :
    PS X (.Assign [.Name n py] (.ListComp elt [⟨tg, iter, ifs, 0⟩] scope pos) spos) (tSt C (asgS i (lcD x y c k))) := by
  refine (ps_setLc (own := [(v, k)]) hc hN hy hyl hsw (pi_seq hi) L.blk L.tg L.ifs L.elt (notSet_iter hs)).imp fun E σ H ⟨Hf, ρ, o, S, e, f⟩ => ?_
  -- the end of the assignment as the wish of the comprehension's value
  unfold asgS bS at e
  split at e
  · cases e
  · rename_i c' d' ρ' h
    exact lcd_core hK S h fun Hf1 H1 A dd v S1 ex a b n r => by cases e; exact f σ Hf1 H1 A dd v S1 ex a b n r
  · rename_i r ρ' h
    rw [Option.map_eq_some_iff] at e
    obtain ⟨ρ2, e, rfl⟩ := e
    exact lcd_core (Q := fun u H1 => E.nx (σ.set i (some u)) H1) hK S h fun u Hf1 H1 S1 ex l => f _ Hf1 H1 (storeR_ok S1 l e) ex
/-- over a range -/
def lcR (x : Den D) (elt : Den D) (cond : Den Bool) (k : Nat) : Den RV := bnd x fun d => fun ρ => match d with
  | .int j => if rngOk j then lcEnd elt cond k none (rngL 0 j.toNat) ρ else none
  | _ => none
theorem lcr_core {k : Nat} {x elt : Den D} {cond : Den Bool} {σ : L2.St} {H Hf : Hp} {ρ : Rho} {o : Out RV} {Q : VK} (S : Stt C.W Hf H σ ρ) (e : lcR x elt cond k ρ = some o) (f : Fin C lV σ Hf o Q) :
    tLc (iRng1 (tCons (tG C lD x) tNil)) (gName k) (tIn C lB cond) (tIn C lD elt) [k] σ H Q := by
  refine tG_bnd' S e f fun v H1 Hf1 ρ1 d S1 ex l e1 f1 => ?_
  split at e1
  · rename_i j
    split at e1
    · rename_i hz
      unfold rngOk at hz
      have hz := of_decide_eq_true hz
      cases (show Rp C.W.K Hf1 v (.int j) from l)
      obtain ⟨hn, ys, ρe, e2, rfl⟩ := lcEnd_inv e1
      have hl : k < σ.length := by rw [S1.len]; exact (List.getElem?_eq_some_iff.mp hn).1
      refine ⟨j, rfl, hz.1, hz.2, fun q nq => ?_⟩
      exact lc_range (lo := 0) (n := j.toNat) (D := q) (Qd := fun H => Q (.ref q) H) (LcP C elt cond k (rngL 0 j.toNat) ys ρe σ Hf1 q) ⟨Hf1, ρ1, [], blk_start S1 hn nq, e2⟩
        (fun i H hi h => lc_step hl h (rngL_get hi) fun Hf ex => .int _) (fun H h => lc_fin hl h (Nat.le_of_eq rngL_len) f1)
    · cases e1
  · cases e1
theorem pe_lcR (hc : X.calm = true) (hN : X.N.Nodup) {elt tg a : Expr} {ifs : List Expr} {scope : Scope} {p p' pos : Pos} {v : Str} {k : Nat} {x y : Den D} {c : Den Bool} (L : LcOk C X scope v k tg elt ifs y c) (hgl : Gl X "range") (hm : X.mg "range" = none) (hi : PE X a (tG C lD x)) (hst : notStar a = true) :
    PE X (.ListComp elt [⟨tg, .Call (.Name "range" p) [a] [] p', ifs, 0⟩] scope pos) (tG C lV (lcR x y c k)) :=
  (pe_lc (own := [(v, k)]) hc hN (pi_range1 hgl hm (pa_cons hi pa_nil (star_cons hst)) (star_cons hst)) L.blk L.tg L.ifs L.elt (notSet_iter rfl)).imp fun σ H Q ⟨Hf, ρ, o, S, e, f⟩ => lcr_core S e f
theorem ps_lcR (hc : X.calm = true) (hN : X.N.Nodup) {i : Nat} {n : Str} {py spos : Pos} {elt tg a : Expr} {ifs : List Expr} {scope : Scope} {p p' pos : Pos} {v : Str} {k : Nat} {x y : Den D} {c : Den Bool} (hy : X.N[i]? = some n) (hyl : X.env.scope.names.lookup n = some .local)
    (hsw : swapsWith (.ListComp elt [⟨tg, .Call (.Name "range" p) [a] [] p', ifs, 0⟩] scope pos) (some (.Name n py)) spos.line X.env = pure true) (L : LcOk C X scope v k tg elt ifs y c) (hgl : Gl X "range") (hm : X.mg "range" = none) (hi : PE X a (tG C lD x)) (hst : notStar a = true) :
    PS X (.Assign [.Name n py] (.ListComp elt [⟨tg, .Call (.Name "range" p) [a] [] p', ifs, 0⟩] scope pos) spos) (tSt C (asgS i (lcR x y c k))) := by
  refine (ps_setLc (own := [(v, k)]) hc hN hy hyl hsw (pi_range1 hgl hm (pa_cons hi pa_nil (star_cons hst)) (star_cons hst)) L.blk L.tg L.ifs L.elt (notSet_iter rfl)).imp fun E σ H ⟨Hf, ρ, o, S, e, f⟩ => ?_
  unfold asgS bS at e
  split at e
  · cases e
  · rename_i c' d' ρ' h
    exact lcr_core S h fun Hf1 H1 A dd v S1 ex a b n r => by cases e; exact f σ Hf1 H1 A dd v S1 ex a b n r
  · rename_i r ρ' h
    rw [Option.map_eq_some_iff] at e
    obtain ⟨ρ2, e, rfl⟩ := e
    exact lcr_core (Q := fun u H1 => E.nx (σ.set i (some u)) H1) S h fun u Hf1 H1 S1 ex l => f _ Hf1 H1 (storeR_ok S1 l e) ex
end
end DI
set_option maxRecDepth 100000
set_option maxHeartbeats 4000000
namespace DI
open PySem PySem.Spec PyProof.Rows L2

/-! ### own errors over Exception, whose __init__ keeps what it is given under the name at -/
abbrev exT : List Value := [.type "Exception", .type "BaseException", .type "object"]
/-- such a class at A, its maker at f -/
structure EkC (K : PySem.W.Frag) (A f : Addr) : Prop where
  new : PySem.W.excInitIn K A exT "Exception.__new__" = true
  ov : PySem.W.excOver K A exT = true
  sa : PySem.W.findIn K (.ref A) "__setattr__" = some (some (.builtin "object.__setattr__"))
  be : PySem.W.subIn K (.ref A) (.type "BaseException") = some true
  ty : PySem.W.typeIn K (.ref A) = some (.type "type")
  kp : PySem.W.keepIn K (.ref A) = true
  hd : PySem.W.hasDictIn K A = true
  na : PySem.W.findIn K (.ref A) "at" = some none
  ini : PySem.W.findIn K (.ref A) "__init__" = some (some (.ref f))
  fn : PySem.W.typeIn K (.ref f) = some (.type "function")
  ga : PySem.W.findIn K (.ref A) "__getattribute__" = some (some (.builtin "BaseException.__getattribute__"))
  gg : PySem.W.findIn K (.ref A) "__getattr__" = some none
/-- the first store into an error that has no dict as yet -/
theorem first_store {prog : Program} {w : World} {A : Around} {R : Result → Shared → Prop} {hp : Heap} {g : Array GenState} {d : Drawn} {t : Nat} {os : OsState} {K : PySem.W.Frag} {z : Str} {tk : Tok} {v : Value} {e C : Addr} {fv : Array Value}
    (kin : K.In hp) (he : hp.get? e = some { cls := .ref C, data := .fields fv }) (ov : PySem.W.excOver K C exT = true) (hd : PySem.W.hasDictIn K C = true) (no : PySem.W.findIn K (.ref C) z = some none)
    (go : ∀ h2 tk2 dx, (∀ b o, b ≠ e → hp.get? b = some o → h2.get? b = some o) → hp.objs.size ≤ dx → dx ≠ e → h2.get? e = some { cls := .ref C, dict := some dx, data := .fields fv } →
      h2.Ns1 dx (fun y => if y = z then some v else none) → R (.ok (.ret .none)) ⟨h2, g, d, tk2, os⟩) :
    codeAny (model prog w) A (.call (.builtin "object.__setattr__") ⟨[.ref e, .str z tk, v], []⟩) R ⟨hp, g, d, t, os⟩ := by
  obtain ⟨cd, hc, dd⟩ := PySem.W.any_some hd
  have looks : PySem.W.Looks (model prog w) hp (classData C) cd := PySem.W.looks_clsIn kin hc
  have far : e ≠ hp.objs.size := Nat.ne_of_lt (Heap.lt_size he)
  refine PySem.W.osa_openX (s := ⟨hp, g, d, t, os⟩) (od := none) PySem.F.store_Exception kin ⟨he, rfl, rfl, trivial⟩ ov (r := none) (by unfold PySem.W.takerIn; rw [no]; rfl) fun b => ?_
  show wpAny _ _ (Builtin.ObjectAttr.storeInOwnDict (.ref e) (.ref C) (.str z tk) z v b) _ _ _
  obtain ⟨n1, n2, n3, n4, n5, n6, n7, n8, n9, n10, n11⟩ := cd
  dsimp only at dd
  subst dd
  unfold Builtin.ObjectAttr.storeInOwnDict Builtin.ObjectAttr.ownDictForStores
  repeat (first | with_reducible refine PySem.HandSPX.store_in_new ?_ ?_ | with_reducible refine wpAny_loadPart_at he ?_ | with_reducible refine looks.at ?_ | wp_step)
  · refine ⟨_, #[], _, (Heap.get?_update_ne _ _ _ _ far.symm).trans (Heap.get?_push_at rfl rfl), rfl, fun u hu => absurd hu (by simp), fun _ => rfl⟩
  · intro h2 tk2 made same
    have there : (hp.push { cls := .type "dict", data := .dict #[] }).get? e = some { cls := .ref C, data := .fields fv } := Heap.get?_push_of_some _ he
    refine go h2 tk2 hp.objs.size (fun b o ne ho => ?_) (Nat.le_refl _) far.symm ?_ made
    · have nb : b ≠ hp.objs.size := Nat.ne_of_lt (Heap.lt_size ho)
      rw [same.2 b nb, Heap.get?_update_ne _ _ _ _ ne]
      exact Heap.get?_push_of_some _ ho
    · rw [same.2 e far]
      exact Heap.get?_update_self _ there rfl

section
variable {X : Cx} {pins : List (Addr × Obj)} {σ : L2.St} {H : Hp} {s : Shared} {a C f : Addr} {y : V} {u : Value} {A : Around}
/-- error.at = y, in the error that is being made -/
theorem at_store {Q : Unit → Shared → Prop} {E : Value → Shared → Prop} (T : EkC X.K C f) (I : Inv X pins σ H s) (he : H a = some (exo a C none)) (ry : RelV y u)
    (go : ∀ dx s2, H dx = none → dx ≠ a → Inv X pins σ (upd (upd H dx (exd dx [(("at" : Str), y)])) a (exo a C (some dx))) s2 → Q () s2) : wpAny (model X.prog X.w) A (setAttr (.ref a) "at" u) Q E s := by
  obtain ⟨t1, hob⟩ := exo_at I.hok he
  obtain ⟨hp, g, d, t, os⟩ := s
  refine PySem.W.set_plain I.kIn (ox := { cls := .ref C, data := .fields #[.ref t1, .none, .none, .none, .bool false, .none] }) (od := none) ⟨hob, rfl, rfl, trivial⟩ T.sa ?_
  refine first_store I.kIn hob T.ov T.hd T.na fun h2 tk2 dx kept dn dne there ns => ?_
  have nodx : H dx = none := I.hok.fresh dn
  have lt : ∀ {b : Addr} {o : Obj}, hp.get? b = some o → b ≠ dx := fun {b o} z => Nat.ne_of_lt (Nat.lt_of_lt_of_le (Heap.lt_size z) dn)
  have nota : ∀ {b : Addr}, H b = none → b ≠ a := fun {b} n z => by
    subst z
    rw [he] at n
    cases n
  refine go dx _ nodx dne (I.un (t' := tk2) ⟨fun b o z n _ _ => kept b o (nota n) z, fun b o z n _ _ => ⟨o.slots, kept b o (nota n) z⟩, fun b o z n _ => ?_, fun b o z _ => ?_, fun b xs z => ?_, fun b o v z => ?_, fun b ps z => ⟨#[], ?_⟩⟩ fun b o z => ?_)
  · rw [upd_ne (nota n), upd_ne (lt z)]
    exact n
  · by_cases hb : b = a
    · subst hb
      exact ⟨_, there⟩
    · exact ⟨o, kept b o hb z⟩
  · rw [upd_ne (at_ne he z exo_tup), upd_ne (ne_of_none z nodx)]
    exact z
  · rw [upd_ne (at_ne he z exo_frz), upd_ne (ne_of_none z nodx)]
    exact z
  · rw [upd_ne (at_ne he z exo_tbl), upd_ne (ne_of_none z nodx), z]
    simp
  · by_cases hb : b = a
    · subst hb
      rw [upd_same] at z
      cases z
      exact exo_ok there
    · rw [upd_ne hb] at z
      by_cases hd : b = dx
      · subst hd
        rw [upd_same] at z
        cases z
        exact exd_ok ns (relO_put (fs := []) ry fun _ => trivial)
      · rw [upd_ne hd] at z
        refine (I.hok b o z).stay (fun c v hc q => kept c v ?_ q) (fun c hc => ?_) (fun c xs hc => ?_)
        · rcases hc with hc | hc
          · subst hc
            exact hb
          · exact at_ne he hc exo_own
        · rw [upd_ne (at_ne he hc exo_own), upd_ne (ne_of_none hc nodx)]
          exact hc
        · rw [upd_ne (at_ne he hc exo_tup), upd_ne (ne_of_none hc nodx)]
          exact hc
end
/-- self.at = e -/
def tAt (K : PySem.W.Frag) (to te : TE) : TS := fun D σ H => te σ H fun y H1 => to σ H1 fun x H2 => ∃ a C f : Addr, x = .ref a ∧ EkC K C f ∧ H2 a = some (exo a C none) ∧
  ∀ dx, H2 dx = none → dx ≠ a → D.nx σ (upd (upd H2 dx (exd dx [(("at" : Str), y)])) a (exo a C (some dx)))
theorem ps_at {X : Cx} {o e : Expr} {to te : TE} {p pos : Pos} (ho : PE X o to) (he : PE X e te) (hs : swapsWith e (some (.Attribute o "at" p)) pos.line X.env = pure false := by rfl) : PS X (.Assign [.Attribute o "at" p] e pos) (tAt X.K to te) := by
  constructor
  intro pins s σ H D I h
  refine plainObj_wpAny_Assign_Attribute (thn (he.run pins s σ H _ I h) fun v s1 hv => ?_) hs
  obtain ⟨y, H1, I1, r1, q1⟩ := hv
  refine thn (ho.run pins s1 σ H1 _ I1 q1) fun u s2 hu => ?_
  obtain ⟨x, H2, I2, r2, a, C, f, ex, T, ea, q⟩ := hu
  subst ex
  obtain rfl : u = Value.ref a := r2
  exact at_store T I2 ea r1 fun dx s3 n ne J => ⟨σ, _, J, q dx n ne⟩
/-- what __init__ of such a class promises -/
def spAt (C : Addr) : Sp := fun vs H Q _ => ∃ (a : Addr) (y : V), vs = [.ref a, y] ∧ H a = some (exo a C none) ∧ ∀ dx, H dx = none → dx ≠ a → Q .non (upd (upd H dx (exd dx [(("at" : Str), y)])) a (exo a C (some dx)))
theorem passNo {X : Cx} : Passes (L2N.CX X.prog X.w) X (fun _ _ _ => False) := fun _ _ _ _ _ _ _ h => by
  obtain ⟨_, _, _, _, _, _, _, _, _, _, _, _, no⟩ := h
  exact no.elim
/-- C(e): the error, its one field in a new dict -/
def tMakeAt (C : Addr) (ta : TA) : L2.St → Hp → XK → Prop := fun σ H Q => ta σ H fun vs H1 => ∃ y, vs = [y] ∧ ∀ d, H1 d = none → Q (.ref C) (some d) (upd H1 d (.xd [(("at" : Str), y)]))
theorem made_same {H1 : Hp} {a d C : Addr} {fs : List (Str × V)} (na : H1 a = none) (ne : d ≠ a) : upd (del (upd (upd (upd H1 a (exo a C none)) d (exd d fs)) a (exo a C (some d))) a) d (.xd fs) = upd H1 d (.xd fs) := by
  funext b
  by_cases hd : b = d
  · subst hd
    rw [upd_same, upd_same]
  · rw [upd_ne hd, upd_ne hd]
    by_cases hb : b = a
    · subst hb
      rw [del_same, na]
    · rw [del_ne hb, upd_ne hb, upd_ne hd, upd_ne hb]
theorem pmk_at {X : Cx} {k : Nat} {x : Str} {C f : Addr} {fd : FuncData} {ps : List Str} {e : Expr} {ta : TA} {p pos : Pos} (T : EkC X.K C f) (F1 : FnOk X.prog X.w X.K X.mg X.base (L2N.CX X.prog X.w) k f fd ps (spAt C)) (hr : Room (k + 1) X.A) (hb : Binds X.K fd ps [])
    (hg : Gl X x) (hm : X.mg x = some (.ref C)) (ha : PA X [e] ta) (hdb : (x == ("__debug__" : Str)) = false) (hst : notStar e = true) : L2N.PMk X (.Call (.Name x p) [e] [] pos) (tMakeAt C ta) := by
  intro pins s σ H Q I h
  refine wpAny_Call_Name_kw (ld_glob I hg hm ?_ hdb)
  refine PySem.W.callWith_K (h₀ := X.base) I.ok.mod.kin T.kp (thn (ha.run pos pins s σ H _ I h) fun us s1 hu => ?_) (star_cons hst) (star_any (es := []) rfl)
  obtain ⟨vs, H1, I1, r1, y, ev, q⟩ := hu
  subst ev
  refine ⟨I1.kIn, ?_⟩
  cases r1 with
  | @cons _ u _ us' ry rn =>
  cases rn
  show wpAny _ _ (call (.ref C) [u]) _ _ _
  obtain ⟨hp, g, dr, tk, os⟩ := s1
  obtain ⟨nm, N2, qn, bs, bm, hdct, sn, sub, ab, col, dd, k0, k1, k2, k3, k5, hC, hT⟩ := PySem.W.excInit_of I1.kIn T.new
  have big : hp.objs.size ≤ hp.objs.size + 1 := Nat.le_succ _
  have na : H1 (hp.objs.size + 1) = none := I1.hok.fresh big
  have keep2 : ∀ b o, hp.get? b = some o → ((hp.push (PySem.W.kdv_tup [u])).push (PySem.HandSPX.excO C hp.objs.size)).get? b = some o := fun b o z => Heap.get?_push_of_some _ (Heap.get?_push_of_some _ z)
  have there : ((hp.push (PySem.W.kdv_tup [u])).push (PySem.HandSPX.excO C hp.objs.size)).get? (hp.objs.size + 1) = some (PySem.HandSPX.excO C hp.objs.size) := by heap_get
  have J : Inv X pins σ (upd H1 (hp.objs.size + 1) (exo (hp.objs.size + 1) C none)) ⟨(hp.push (PySem.W.kdv_tup [u])).push (PySem.HandSPX.excO C hp.objs.size), g, dr, tk, os⟩ :=
    I1.laid (t' := tk) keep2 big (exo_ok there)
  have rr : Vals [V.ref (hp.objs.size + 1), y] [Value.ref (hp.objs.size + 1), u] := .cons rfl (.cons ry .nil)
  have sp : spAt C [V.ref (hp.objs.size + 1), y] (upd H1 (hp.objs.size + 1) (exo (hp.objs.size + 1) C none))
      (fun v H2 => v = .non ∧ ∃ (d : Addr) (fs : List (Str × V)), H2 (hp.objs.size + 1) = some (exo (hp.objs.size + 1) C (some d)) ∧ H2 d = some (exd d fs) ∧ H1 d = none ∧ Q (.ref C) (some d) (upd (del H2 (hp.objs.size + 1)) d (.xd fs))) (fun _ _ _ => False) := by
    refine ⟨_, _, rfl, upd_same, fun dx nd ne => ⟨rfl, dx, [(("at" : Str), y)], upd_same, ?_, ?_, ?_⟩⟩
    · rw [upd_ne ne, upd_same]
    · rw [upd_ne ne] at nd
      exact nd
    · rw [upd_ne ne] at nd
      rw [made_same na ne]
      exact q dx nd
  have b2 := hb _ [Value.ref (hp.objs.size + 1), u] J.kIn (by
    have e := F1.len _ _ _ _ sp
    exact e)
  rw [List.append_nil] at b2
  refine wpAny_call (PySem.HandSPX.call_own PySem.F.excBase_Exception (fun Y => hT Y) hC (PySem.W.looks_findIn I1.kIn T.ini) (fun self => PySem.W.bind_fn I1.kIn self T.fn) (by show 1 ≤ sizeLine; rw [sizeLine_eq]; omega)
    (codeAny_mono (F1.run _ X.stack _ _ ⟨[Value.ref (hp.objs.size + 1), u], []⟩ [Value.ref (hp.objs.size + 1), u] _ _ (fun _ _ _ => False) (hr.make C [u] []) (J.env0.make C [u] []) b2 rr sp) fun r s3 hq => ?_))
  cases r with
  | error er => exact passNo pins σ _ _ er s3 J hq
  | ok fl =>
    cases fl with
    | ret v =>
      obtain ⟨v', H2, os2, bare2, un2, hok2, rv, ev, d, fs, ea, ed, hd1, q2⟩ := hq
      subst ev
      obtain ⟨h3, g3, d3, t3, os'⟩ := s3
      obtain ⟨t0, G, J3, kG, ge, hoe, na3⟩ := mk_end0 (d2 := d3) (t2 := t3) I1 big keep2 un2 hok2 os2 bare2 ea ed hd1
      exact ⟨rv, ⟨hp.objs.size + 1, _, _, ⟨G, g3, d3, t3, os'⟩, _, .ref C, some d, rfl, J3, kG, ge, hoe, ⟨rfl, rfl, fun vs hv => by cases hv; rfl⟩, rfl, rfl, na3, rfl, bare2, raises_own T.be T.ty, q2⟩⟩
    | next => exact False.elim hq
    | brk => exact False.elim hq
    | cont => exact False.elim hq
/-- raise x(e) -/
def raiseS (x : Str) (y : Den D) : SDen := bS y fun d ρ => some (.exc x d ρ)
theorem ps_raiseD {C : Ck} {X : Cx} {k : Nat} {x : Str} {A f : Addr} {fd : FuncData} {ps : List Str} {e : Expr} {y : Den D} {p p2 pos : Pos} (hc : X.calm = true) (tk : L2N.Takes X C.Wx) (ca : C.ca x = some A) (T : EkC X.K A f)
    (F1 : FnOk X.prog X.w X.K X.mg X.base (L2N.CX X.prog X.w) k f fd ps (spAt A)) (hr : Room (k + 1) X.A) (hb : Binds X.K fd ps []) (hg : Gl X x) (hm : X.mg x = some (.ref A)) (he : PE X e (tG C lD y)) (hdb : (x == ("__debug__" : Str)) = false) (hst : notStar e = true) :
    PS X (.Raise (some (.Call (.Name x p) [e] [] p2)) none pos) (tSt C (raiseS x y)) := by
  refine (L2N.ps_raise hc tk (pmk_at T F1 hr hb hg hm (pa_cons he pa_nil (star_cons hst)) hdb hst)).imp fun E σ H h => ?_
  obtain ⟨Hf, ρ, o, S, e, f⟩ := h
  refine bS_inv (P := lD) S e f fun v H1 Hf1 ρ1 d S1 ex l e1 f1 => ?_
  cases e1
  refine ⟨v, rfl, fun dd n => ?_⟩
  exact f1 σ Hf1 _ A dd v (S1.made n) (Evl.Ex.refl _) ca upd_same (S1.H0none n) l
end DI
set_option maxRecDepth 100000
set_option maxHeartbeats 4000000
namespace DI
open PySem PySem.Spec PyProof.Rows L2

/-! ### chains a < b < c -/
section
variable {C : Ck} {X : Cx}
def chainB (o1 o2 : CmpOp) (x y z : Den D) : Den Bool := bnd x fun d1 => bnd y fun d2 => bnd (optB (cmpD o1 d1 d2)) fun b => if b then bnd z fun d3 => optB (cmpD o2 d2 d3) else ret false
theorem chain_core {o1 o2 : CmpOp} {x y z : Den D} {σ : L2.St} {H Hf : Hp} {ρ : Rho} {o : Out Bool} {Q : Bool → Hp → Prop} (S : Stt C.W Hf H σ ρ) (e : chainB o1 o2 x y z ρ = some o) (f : Fin C lB σ Hf o Q) :
    tChain (rCmp C.W.K o1) (rCmp C.W.K o2) (tG C lD x) (tG C lD y) (tG C lD z) σ H fun v H' => ∃ k, v = .bl k ∧ Q k H' := by
  refine tG_bnd' S e f fun v H1 Hf1 ρ1 d1 S1 ex1 r1 e1 f1 => ?_
  refine tG_bnd' S1 e1 f1 fun w H2 Hf2 ρ2 d2 S2 ex2 r2 e2 f2 => ?_
  unfold bnd at e2
  cases hb : cmpD o1 d1 d2 with
  | none => simp only [hb, optB, Option.map_none] at e2; cases e2
  | some b =>
    simp only [hb, optB, Option.map_some] at e2
    refine ⟨d1, d2, b, Rp.mono (ex2.trans S2.ex) r1, Rp.mono S2.ex r2, hb, b, rfl, ?_⟩
    cases b with
    | false =>
      simp only [Bool.false_eq_true, if_false] at e2 ⊢
      exact ⟨false, rfl, f2.ret e2 S2 (Evl.Ex.refl _) rfl⟩
    | true =>
      simp only [if_true] at e2 ⊢
      refine tG_bnd' S2 e2 f2 fun u H3 Hf3 ρ3 d3 S3 ex3 r3 e3 f3 => ?_
      unfold optB at e3
      rw [Option.map_eq_some_iff] at e3
      obtain ⟨b2, hb2, rfl⟩ := e3
      exact ⟨d2, d3, b2, Rp.mono (ex3.trans S3.ex) r2, Rp.mono S3.ex r3, hb2, b2, rfl, f3 b2 Hf3 H3 S3 (Evl.Ex.refl _) rfl⟩
theorem lastMarks2 {o1 o2 : CmpOp} {b c : Expr} (h : notSet c = true) : lastMarks [o1, o2] [b, c] = false := by
  show behindInMarks o2 c = false
  exact notSet_mark h
theorem pt_chainD (hK : X.K = C.W.K.K) (hu : X.A.units + 65 < cLine) {a b c : Expr} {o1 o2 : CmpOp} {pos : Pos} {x y z : Den D} (ha : PE X a (tG C lD x)) (hb : PE X b (tG C lD y)) (hc : PE X c (tG C lD z)) (hm : notSet c = true) : PT X (.Compare a [o1, o2] [b, c] pos) (tG C lB (chainB o1 o2 x y z)) :=
  (pt_chain (op_cmpD hK hu o1) (op_cmpD hK hu o2) ha hb hc (lastMarks2 hm)).imp fun σ H Q ⟨Hf, ρ, o, S, e, f⟩ => chain_core S e f
theorem pe_chainD (hK : X.K = C.W.K.K) (hu : X.A.units + 65 < cLine) {a b c : Expr} {o1 o2 : CmpOp} {pos : Pos} {x y z : Den D} (ha : PE X a (tG C lD x)) (hb : PE X b (tG C lD y)) (hc : PE X c (tG C lD z)) (hm : notSet c = true) : PE X (.Compare a [o1, o2] [b, c] pos) (tG C lV (blV (chainB o1 o2 x y z))) := by
  refine (pe_chain (op_cmpD hK hu o1) (op_cmpD hK hu o2) ha hb hc (lastMarks2 hm)).imp fun σ H Q ⟨Hf, ρ, o, S, e, f⟩ => ?_
  obtain ⟨o', e', f'⟩ := f.blV S e
  refine tG_mono (fun v H1 q => tG_mono (fun w H2 q2 => ?_) q) (chain_core S e' f')
  obtain ⟨d1, d2, b, r1, r2, hb, k, hk, q⟩ := q2
  refine ⟨d1, d2, b, r1, r2, hb, k, hk, ?_⟩
  cases k with
  | false =>
    simp only [Bool.false_eq_true, if_false] at q ⊢
    obtain ⟨k', hk', q⟩ := q
    cases hk'; exact q
  | true =>
    simp only [if_true] at q ⊢
    refine tG_mono (fun u H3 q3 => ?_) q
    obtain ⟨d1, d2, b, r1, r2, hb, k, hk, q⟩ := q3
    cases hk
    exact ⟨d1, d2, b, r1, r2, hb, q⟩
theorem pe_stuck {e : Expr} {α : Type} : PE X e (tG C lV stuck) := ⟨fun _ _ _ _ _ _ ⟨_, _, _, _, e, _⟩ => by cases e⟩
theorem pt_stuck {e : Expr} : PT X e (tG C lB stuck) := ⟨fun _ _ _ _ _ _ ⟨_, _, _, _, e, _⟩ => by cases e⟩
theorem pa_stuckC {es : List Expr} : PA X es (tG C lCs stuck) := ⟨fun _ _ _ _ _ _ _ ⟨_, _, _, _, e, _⟩ => by cases e⟩
theorem ps_stuck {st : Stmt} : PS X st (tSt C fun _ => none) := ⟨fun _ _ _ _ _ _ ⟨_, _, _, _, e, _⟩ => by cases e⟩
end

/-! ### the meaning of a text -/
structure FE where
  n : Nat
  muts : List Bool
  f : FM
structure SC where
  N : List Str
  sc : Scope
  lvl : Nat
  blt : Str → Bool
  con : Str → Option D
  fns : Str → Option FE
  cls : Str → Bool
  exn : Str → Bool
  F : Nat
def ixIn (x : Str) : List Str → Option Nat
  | [] => none
  | y :: ys => if y = x then some 0 else (ixIn x ys).map (· + 1)
theorem ixIn_get {x : Str} : ∀ {ys : List Str} {i : Nat}, ixIn x ys = some i → ys[i]? = some x
  | [], _, e => by cases e
  | y :: ys, i, e => by
    simp only [ixIn] at e
    split at e
    · rename_i h; cases e; subst h; rfl
    · rw [Option.map_eq_some_iff] at e
      obtain ⟨j, e, rfl⟩ := e
      simpa using ixIn_get e
def visB (k : Option NameKind) : Bool := k == some .local || k == some .cell || k == some .free
def SC.slot (S : SC) (x : Str) : Option Nat := if visB (S.sc.names.lookup x) then ixIn x S.N else none
def SC.gl (S : SC) (x : Str) : Bool := S.sc.names.lookup x == some .globalImplicit
def nmOk (x : Str) : Bool := !(x == ("__debug__" : Str)) && !(x == ("__classdict__" : Str))
structure Cpt (S : SC) (C : Ck) (X : Cx) : Prop where
  hK : X.K = C.W.K.K
  hN : X.N = S.N
  nd : S.N.Nodup
  sc : X.env.scope = S.sc
  calm : X.calm = true
  un : X.A.units + 65 < cLine
  room : Room S.lvl X.A
  tk : L2N.Takes X C.Wx
  po : PassesOwn (model X.prog X.w) X.A X.env X.xe
  O : OwnT C.W.K
  blt : ∀ x, S.blt x = true → X.mg x = none
  con : ∀ x d, S.con x = some d → ∃ v u, X.mg x = some u ∧ RelV v u ∧ ∀ H, Rp C.W.K H v d
  fns : ∀ x e, S.fns x = some e → ∃ k f fd ps, k ≤ S.lvl ∧ X.mg x = some (.ref f) ∧ PySem.W.keepIn X.K (.ref f) = true ∧ Binds X.K fd ps [] ∧ FnOk X.prog X.w X.K X.mg X.base (L2N.CX X.prog X.w) k f fd ps (spOf C.W.K C.ca e.n e.f)
  cls : ∀ x, S.cls x = true → ∃ A, C.W.K.cl x = some A ∧ X.mg x = some (.ref A)
  exs : ∀ x, S.exn x = true → ∃ A f fd ps k, C.ca x = some A ∧ X.mg x = some (.ref A) ∧ EkC X.K A f ∧ FnOk X.prog X.w X.K X.mg X.base (L2N.CX X.prog X.w) k f fd ps (spAt A) ∧ k + 1 ≤ S.lvl ∧ Binds X.K fd ps []
section
variable {S : SC} {C : Ck} {X : Cx}
theorem Cpt.slot (K : Cpt S C X) {x : Str} {i : Nat} (h : S.slot x = some i) : X.N[i]? = some x ∧ Vis X.env.scope x := by
  unfold SC.slot at h
  split at h
  · rename_i hv
    refine ⟨by rw [K.hN]; exact ixIn_get h, ?_⟩
    rw [K.sc]
    unfold visB at hv
    simp only [Bool.or_eq_true, beq_iff_eq] at hv
    rcases hv with (hv | hv) | hv
    · exact .inl hv
    · exact .inr (.inl hv)
    · exact .inr (.inr hv)
  · cases h
theorem Cpt.gl (K : Cpt S C X) {x : Str} (h : S.gl x = true) : Gl X x := by
  unfold SC.gl at h
  show X.env.scope.names.lookup x = _
  rw [K.sc]
  simpa using h
theorem nmOk1 {x : Str} (h : nmOk x = true) : (x == ("__debug__" : Str)) = false := by
  unfold nmOk at h
  simp only [Bool.and_eq_true, Bool.not_eq_true'] at h
  exact h.1
theorem nmOk2 {x : Str} (h : nmOk x = true) : (x == ("__classdict__" : Str)) = false := by
  unfold nmOk at h
  simp only [Bool.and_eq_true, Bool.not_eq_true'] at h
  exact h.2
end
abbrev SelfV := Expr → Den RV
abbrev SelfT := Expr → Den Bool
/-- a name's value -/
def nameV (S : SC) (x : Str) : Den RV := if nmOk x then match S.slot x with
  | some i => slotV i
  | none => if S.gl x then match S.con x with
    | some d => ret (.val d)
    | none => stuck
    else stuck
  else stuck
/-- only looked into -/
def coE (S : SC) (sv : SelfV) (e : Expr) : Den CO := match e with
  | .Name x _ => match S.slot x with
    | some i => if nmOk x then slotC i else stuck
    | none => coD (frzD (sv e))
  | _ => coD (frzD (sv e))
def dE (sv : SelfV) (e : Expr) : Den D := frzD (sv e)
def argsD (sv : SelfV) : List Expr → Den (List D)
  | [] => ret []
  | e :: es => consA (dE sv e) (argsD sv es)
def argC (S : SC) (sv : SelfV) (m : Bool) (e : Expr) : Den CO := if m then match e with
  | .Name x _ => match S.slot x with
    | some i => if nmOk x then slotC i else stuck
    | none => stuck
  | _ => stuck
  else coD (dE sv e)
def argsC (S : SC) (sv : SelfV) : List Bool → List Expr → Den (List CO)
  | _, [] => nilC
  | ms, e :: es => consC (argC S sv (ms.headD false) e) (argsC S sv ms.tail es)
def tyOfName (y : Str) : Option String := if y = ("int" : Str) then some "int" else if y = ("bool" : Str) then some "bool" else if y = ("str" : Str) then some "str" else if y = ("list" : Str) then some "list" else if y = ("tuple" : Str) then some "tuple" else none
def isiV (S : SC) (x : Den CO) : Expr → Den RV
  | .Name y _ => if S.gl y && nmOk y then match tyOfName y with
    | some T => if S.blt y then askV (isTn T) x else stuck
    | none => if S.cls y then askV (isOwn y) x else stuck
    else stuck
  | .Tuple [.Name y1 _, .Name y2 _] _ _ => if S.gl y1 && nmOk y1 && S.blt y1 && S.gl y2 && nmOk y2 && S.blt y2 then match tyOfName y1, tyOfName y2 with
    | some T1, some T2 => askV (fun d => isTn T1 d || isTn T2 d) x
    | _, _ => stuck
    else stuck
  | _ => stuck
/-- a call by a global name -/
def callV (S : SC) (sv : SelfV) (x : Str) (es : List Expr) : Den RV :=
  if S.gl x && nmOk x && es.all notStar then match S.fns x with
    | some fe => if es.length = fe.n then bnd (argsC S sv fe.muts es) (runFn fe.n fe.f) else stuck
    | none => if S.blt x then
        if x = ("len" : Str) then match es with | [e] => call1C lenD (coE S sv e) | _ => stuck
        else if x = ("tuple" : Str) then match es with | [e] => call1C tupleD (coE S sv e) | _ => stuck
        else if x = ("list" : Str) then match es with | [e] => call1C listD (coE S sv e) | _ => stuck
        else if x = ("int" : Str) then match es with | [_] => callA intD (argsD sv es) | _ => stuck
        else if x = ("abs" : Str) then match es with | [_] => callA absD (argsD sv es) | _ => stuck
        else if x = ("max" : Str) then match es with | [_, _] => callA maxD (argsD sv es) | _ => stuck
        else if x = ("min" : Str) then match es with | [_, _] => callA minD (argsD sv es) | _ => stuck
        else if x = ("isinstance" : Str) then match es with | [e, t] => isiV S (coE S sv e) t | _ => stuck
        else stuck
      else stuck
  else stuck
/-- a comprehension's block -/
def SC.sub (S : SC) (scope : Scope) : SC := { S with sc := relS scope S.sc }
def ownOk (N : List Str) (v : Str) (scope : Scope) (sc : Scope) (k : Nat) : Bool :=
  scope.kind == .function && scope.names.all (fun y => scope.names.lookup y.1 == some y.2) && (N[k]? == some v) &&
  scope.names.all (fun y => y.2 != .free || (sc.names.lookup y.1 == some .cell || sc.names.lookup y.1 == some .free)) &&
  scope.names.all (fun y => !(y.2 == .local || y.2 == .cell) || (y.1 == v || !(N.contains y.1)))
def lcV (S : SC) (sv : SC → SelfV) (st : SC → SelfT) (elt : Expr) (gens : List Comprehension) (scope : Scope) : Den RV := match gens with
  | [⟨.Name v _, iter, ifs, 0⟩] => match ixIn v S.N with
    | some k => if ownOk S.N v scope S.sc k && notSet iter && ((relS scope S.sc).names.lookup v == some .local || ((relS scope S.sc).names.lookup v == some .cell && scope.names.lookup v == some .cell)) then
        let y := dE (sv (S.sub scope)) elt
        match ifs with
        | [] => match iter with
          | .Call (.Name f _) [a] [] _ => if f = ("range" : Str) then (if S.gl f && S.blt f && notStar a then lcR (dE (sv S) a) y (ret true) k else stuck) else lcD (dE (sv S) iter) y (ret true) k
          | _ => lcD (dE (sv S) iter) y (ret true) k
        | [c] => match iter with
          | .Call (.Name f _) [a] [] _ => if f = ("range" : Str) then (if S.gl f && S.blt f && notStar a then lcR (dE (sv S) a) y (st (S.sub scope) c) k else stuck) else lcD (dE (sv S) iter) y (st (S.sub scope) c) k
          | _ => lcD (dE (sv S) iter) y (st (S.sub scope) c) k
        | _ => stuck
      else stuck
    | none => stuck
  | _ => stuck
def evV (S : SC) (sv : SC → SelfV) (st : SC → SelfT) (e : Expr) : Den RV := match e with
  | .Constant c _ _ => match constD c with
    | some d => ret (.val d)
    | none => stuck
  | .Name x _ => nameV S x
  | .Tuple es _ _ => if es.all notStar then tupV (argsD (sv S) es) else stuck
  | .List es _ => if es.all notStar then lstV (argsD (sv S) es) else stuck
  | .BinOp a op b _ => binV op (coE S (sv S) a) (coE S (sv S) b)
  | .UnaryOp .Not a _ => notV (sv S a)
  | .UnaryOp .USub a _ => negV (dE (sv S) a)
  | .BoolOp .And es _ => andV (es.map (sv S))
  | .BoolOp .Or es _ => orV (es.map (sv S))
  | .IfExp t a b _ => ifV (st S t) (sv S a) (sv S b)
  | .Compare a [op] [b] _ => if notSet b then blV (cmpB op (dE (sv S) a) (coE S (sv S) b)) else stuck
  | .Compare a [o1, o2] [b, c] _ => if notSet c then blV (chainB o1 o2 (dE (sv S) a) (dE (sv S) b) (dE (sv S) c)) else stuck
  | .Subscript a (.Slice lo hi none _) _ => slcV (coE S (sv S) a) (match lo with | some e => part (dE (sv S) e) | none => noPart) (match hi with | some e => part (dE (sv S) e) | none => noPart)
  | .Subscript a b _ => if notSlice b then ixV (coE S (sv S) a) (dE (sv S) b) else stuck
  | .Call (.Name x _) es [] _ => callV S (sv S) x es
  | .ListComp elt gens scope _ => lcV S sv st elt gens scope
  | _ => stuck
def evT (S : SC) (sv : SC → SelfV) (st : SC → SelfT) (e : Expr) : Den Bool := match e with
  | .Compare a [op] [b] _ => if notSet b then cmpB op (dE (sv S) a) (coE S (sv S) b) else stuck
  | .Compare a [o1, o2] [b, c] _ => if notSet c then chainB o1 o2 (dE (sv S) a) (dE (sv S) b) (dE (sv S) c) else stuck
  | .BoolOp .And es _ => andB (es.map (st S))
  | .BoolOp .Or es _ => orB (es.map (st S))
  | .UnaryOp .Not a _ => notB (st S a)
  | e => if plainT e then truC (coE S (sv S) e) else stuck
def evP : Nat → SC → Expr → Den RV × Den Bool
  | 0, _, _ => (stuck, stuck)
  | n + 1, S, e => (evV S (fun S e => (evP n S e).1) (fun S e => (evP n S e).2) e, evT S (fun S e => (evP n S e).1) (fun S e => (evP n S e).2) e)
end DI
set_option maxRecDepth 100000
set_option maxHeartbeats 4000000
namespace DI
open PySem PySem.Spec PyProof.Rows L2

section
variable {S : SC} {C : Ck} {X : Cx} {sv : SC → SelfV} {st : SC → SelfT}
theorem takesNo {X : Cx} : L2N.Takes X (fun _ _ _ _ => False) := fun _ _ y => by
  obtain ⟨_, _, _, _, _, _, _, _, _, _, _, _, _, _, _, _, no⟩ := y
  exact no.elim
theorem Cpt.blk (K : Cpt S C X) (W : Wd) (hW : W.K = C.W.K) (s : Shared) (H : Hp) (A : Addr) (cl : List (Str × Addr)) (fp : List Addr) (scope : Scope) : Cpt (S.sub scope) ⟨W, fun _ _ _ _ => False, C.ca⟩ (X.blk s H scope (compEnvC scope cl A X.env) fp) where
  hK := by show X.K = W.K.K; rw [hW]; exact K.hK
  hN := K.hN
  nd := K.nd
  sc := by show relS scope X.env.scope = relS scope S.sc; rw [K.sc]
  calm := K.calm
  un := K.un
  room := K.room
  tk := takesNo
  po := PassesOwn.never
  O := by show OwnT W.K; rw [hW]; exact K.O
  blt := K.blt
  con := fun x d h => by show ∃ v u, X.mg x = some u ∧ RelV v u ∧ ∀ H, Rp W.K H v d; rw [hW]; exact K.con x d h
  fns := fun x e h => by
    obtain ⟨k, f, fd, ps, a, b, c, d, g⟩ := K.fns x e h
    refine ⟨k, f, fd, ps, a, b, c, d, ?_⟩
    show FnOk X.prog X.w X.K X.mg X.base (L2N.CX X.prog X.w) k f fd ps (spOf W.K C.ca e.n e.f)
    rw [hW]; exact g
  cls := fun x h => by show ∃ A, W.K.cl x = some A ∧ X.mg x = some (.ref A); rw [hW]; exact K.cls x h
  exs := K.exs

theorem nameV_ok (K : Cpt S C X) {x : Str} {pos : Pos} : PE X (.Name x pos) (tG C lV (nameV S x)) := by
  unfold nameV
  split
  · rename_i hn
    split
    · rename_i i h
      obtain ⟨h1, h2⟩ := K.slot h
      exact pe_slotV h1 h2 (nmOk1 hn) (nmOk2 hn)
    · split
      · rename_i hg
        split
        · rename_i d h
          obtain ⟨v, u, hm, r, rp⟩ := K.con x d h
          exact pe_ret (pe_glob (K.gl hg) hm r (nmOk1 hn)) rp
        · exact pe_stuck (α := Unit)
      · exact pe_stuck (α := Unit)
  · exact pe_stuck (α := Unit)
theorem slotC_ok (K : Cpt S C X) {x : Str} {i : Nat} {pos : Pos} (h : S.slot x = some i) (hn : nmOk x = true) : PE X (.Name x pos) (tG C lC (slotC i)) := by
  obtain ⟨h1, h2⟩ := K.slot h
  exact pe_slotC h1 h2 (nmOk1 hn) (nmOk2 hn)
theorem pe_stuckC {e : Expr} : PE X e (tG C lC stuck) := ⟨fun _ _ _ _ _ _ ⟨_, _, _, _, e, _⟩ => by cases e⟩
variable (hv : ∀ S C X e, Cpt S C X → PE X e (tG C lV (sv S e))) (ht : ∀ S C X e, Cpt S C X → PT X e (tG C lB (st S e)))
include hv
theorem dE_ok (K : Cpt S C X) (e : Expr) : PE X e (tG C lD (dE (sv S) e)) := frzD_ok (hv S C X e K)
theorem coE_ok (K : Cpt S C X) (e : Expr) : PE X e (tG C lC (coE S (sv S) e)) := by
  unfold coE
  split
  · split
    · rename_i i h
      split
      · rename_i hn; exact slotC_ok K h hn
      · exact pe_stuckC
    · exact pe_coD (dE_ok hv K _)
  · exact pe_coD (dE_ok hv K _)
theorem argsD_ok (K : Cpt S C X) : ∀ es : List Expr, es.all notStar = true → PA X es (tG C lA (argsD (sv S) es))
  | [], _ => pa_nilD
  | e :: es, h => by
    rw [List.all_cons, Bool.and_eq_true] at h
    exact pa_consD (dE_ok hv K e) (argsD_ok K es h.2) (star_cons h.1)
theorem argC_ok (K : Cpt S C X) (m : Bool) (e : Expr) : PE X e (tG C lC (argC S (sv S) m e)) := by
  unfold argC
  split
  · split
    · split
      · rename_i i h
        split
        · rename_i hn; exact slotC_ok K h hn
        · exact pe_stuckC
      · exact pe_stuckC
    · exact pe_stuckC
  · exact pe_coD (dE_ok hv K e)
theorem argsC_ok (K : Cpt S C X) : ∀ (es : List Expr) (ms : List Bool), es.all notStar = true → PA X es (tG C lCs (argsC S (sv S) ms es))
  | [], _, _ => pa_nilC
  | e :: es, ms, h => by
    rw [List.all_cons, Bool.and_eq_true] at h
    exact pa_consC (argC_ok hv K _ e) (argsC_ok K es _ h.2) h.1
omit hv in
theorem tyOfName_ok {y : Str} {T : String} (h : tyOfName y = some T) : T ∈ five ∧ bootBuiltins y = some (.type T) ∧ y ≠ "__name__" := by
  unfold tyOfName at h
  split at h
  · rename_i e; subst e; cases h; exact ⟨by decide, by decide +kernel, by decide +kernel⟩
  · split at h
    · rename_i e; subst e; cases h; exact ⟨by decide, by decide +kernel, by decide +kernel⟩
    · split at h
      · rename_i e; subst e; cases h; exact ⟨by decide, by decide +kernel, by decide +kernel⟩
      · split at h
        · rename_i e; subst e; cases h; exact ⟨by decide, by decide +kernel, by decide +kernel⟩
        · split at h
          · rename_i e; subst e; cases h; exact ⟨by decide, by decide +kernel, by decide +kernel⟩
          · cases h
omit hv in
theorem isiV_ok (K : Cpt S C X) {e t : Expr} {p pos : Pos} {x : Den CO} (hg : Gl X "isinstance") (hm : X.mg "isinstance" = none) (h : PE X e (tG C lC x)) (hs : notStar e = true) : PE X (.Call (.Name "isinstance" p) [e, t] [] pos) (tG C lV (isiV S x t)) := by
  unfold isiV
  split
  · split
    · rename_i y _ hb
      rw [Bool.and_eq_true] at hb
      split
      · rename_i T hT
        obtain ⟨a, b, c⟩ := tyOfName_ok hT
        split
        · rename_i hbl
          exact pe_isTy K.hK K.O a hg hm b (K.gl hb.1) (K.blt _ hbl) c (nmOk1 hb.2) h hs
        · exact pe_stuck (α := Unit)
      · split
        · rename_i hc
          obtain ⟨A, h1, h2⟩ := K.cls _ hc
          exact pe_isOwn K.hK K.O h1 hg hm (K.gl hb.1) h2 (nmOk1 hb.2) h hs
        · exact pe_stuck (α := Unit)
    · exact pe_stuck (α := Unit)
  · split
    · rename_i y1 _ y2 _ _ _ hb
      simp only [Bool.and_eq_true] at hb
      obtain ⟨⟨⟨⟨⟨b1, b2⟩, b3⟩, b4⟩, b5⟩, b6⟩ := hb
      split
      · rename_i T1 T2 h1 h2
        obtain ⟨a, b, c⟩ := tyOfName_ok h1
        obtain ⟨a', b', c'⟩ := tyOfName_ok h2
        exact pe_isTy2 K.hK K.O a a' hg hm b (K.gl b1) (K.blt _ b3) c (nmOk1 b2) b' (K.gl b4) (K.blt _ b6) c' (nmOk1 b5) h hs
      · exact pe_stuck (α := Unit)
    · exact pe_stuck (α := Unit)
  · exact pe_stuck (α := Unit)
theorem callV_ok (K : Cpt S C X) {x : Str} {es : List Expr} {p pos : Pos} : PE X (.Call (.Name x p) es [] pos) (tG C lV (callV S (sv S) x es)) := by
  unfold callV
  split
  · rename_i hb
    simp only [Bool.and_eq_true] at hb
    obtain ⟨⟨b1, b2⟩, b3⟩ := hb
    split
    · rename_i fe hf
      split
      · rename_i hl
        obtain ⟨k, f, fd, ps, hk, hm, hkp, hB, F⟩ := K.fns x fe hf
        cases es with
        | nil =>
          have := run0 (C := C) (p := p) (pos := pos) rfl F (K.room.mono hk) (K.gl b1) hm hkp hB K.tk (nmOk1 b2)
          exact this
        | cons e es => exact pe_callD rfl F (K.room.mono hk) (K.gl b1) hm hkp hB K.tk (argsC_ok hv K _ _ b3) (nmOk1 b2) b3
      · exact pe_stuck (α := Unit)
    · split
      · rename_i hbl
        split
        · rename_i hx; subst hx
          split
          · rename_i e
            simp only [List.all_cons, Bool.and_eq_true] at b3
            exact pe_lenD K.hK (K.gl b1) (K.blt _ hbl) (coE_ok hv K e) b3.1
          · exact pe_stuck (α := Unit)
        · split
          · rename_i hx; subst hx
            split
            · rename_i e
              simp only [List.all_cons, Bool.and_eq_true] at b3
              exact pe_tupleD K.hK (K.gl b1) (K.blt _ hbl) (coE_ok hv K e) b3.1
            · exact pe_stuck (α := Unit)
          · split
            · rename_i hx; subst hx
              split
              · rename_i e
                simp only [List.all_cons, Bool.and_eq_true] at b3
                exact pe_listD K.hK (K.gl b1) (K.blt _ hbl) (coE_ok hv K e) b3.1
              · exact pe_stuck (α := Unit)
            · split
              · rename_i hx; subst hx
                split
                · exact pe_intD (K.gl b1) (K.blt _ hbl) (argsD_ok hv K _ b3) b3
                · exact pe_stuck (α := Unit)
              · split
                · rename_i hx; subst hx
                  split
                  · exact pe_absD (K.gl b1) (K.blt _ hbl) (argsD_ok hv K _ b3) b3
                  · exact pe_stuck (α := Unit)
                · split
                  · rename_i hx; subst hx
                    split
                    · exact pe_maxD K.calm (K.gl b1) (K.blt _ hbl) (argsD_ok hv K _ b3) b3
                    · exact pe_stuck (α := Unit)
                  · split
                    · rename_i hx; subst hx
                      split
                      · exact pe_minD K.calm (K.gl b1) (K.blt _ hbl) (argsD_ok hv K _ b3) b3
                      · exact pe_stuck (α := Unit)
                    · split
                      · rename_i hx; subst hx
                        split
                        · rename_i e t
                          simp only [List.all_cons, Bool.and_eq_true] at b3
                          exact isiV_ok K (K.gl b1) (K.blt _ hbl) (coE_ok hv K e) b3.1
                        · exact pe_stuck (α := Unit)
                      · exact pe_stuck (α := Unit)
      · exact pe_stuck (α := Unit)
  · exact pe_stuck (α := Unit)
omit hv in
theorem ownOk_ok {N : List Str} {v : Str} {scope sc : Scope} {k : Nat} (h : ownOk N v scope sc k = true) : BlkOk N sc scope [(v, k)] := by
  unfold ownOk at h
  simp only [Bool.and_eq_true, List.all_eq_true, beq_iff_eq, Bool.or_eq_true, bne_iff_ne, ne_eq, Bool.not_eq_true', Bool.or_eq_false_iff] at h
  obtain ⟨⟨⟨⟨h1, h2⟩, h3⟩, h4⟩, h5⟩ := h
  refine ⟨h1, fun y hy => h2 y hy, fun p hp => ?_, fun y hy e => ?_, fun y hy e => ?_⟩
  · have : p = (v, k) := by simpa using hp
    subst this
    exact h3
  · rcases h4 y hy with z | z
    · exact absurd e z
    · exact z
  · rcases h5 y hy with z | z
    · rcases e with e | e <;> simp [e] at z
    · rcases z with z | z
      · exact .inl (by simp [z])
      · exact .inr (by simpa using z)
include ht
theorem lcV_ok (K : Cpt S C X) {elt : Expr} {gens : List Comprehension} {scope : Scope} {pos : Pos} : PE X (.ListComp elt gens scope pos) (tG C lV (lcV S sv st elt gens scope)) := by
  unfold lcV
  split
  · rename_i v pv iter ifs
    split
    · rename_i k hk
      split
      · rename_i hb
        simp only [Bool.and_eq_true] at hb
        obtain ⟨⟨b1, b2⟩, b3⟩ := hb
        have hkN : X.N[k]? = some v := by rw [K.hN]; exact ixIn_get hk
        have nd : X.N.Nodup := by rw [K.hN]; exact K.nd
        have mk : ∀ (c : Den Bool), (∀ (s : Shared) (H : Hp) (A : Addr) (cl : List (Str × Addr)) (fp : List Addr), PTs (X.blk s H scope (compEnvC scope cl A X.env) fp) ifs (tIn C lB c)) → LcOk C X scope v k (.Name v pv) elt ifs (dE (sv (S.sub scope)) elt) c := fun c hc => by
          refine ⟨by rw [K.hN, K.sc]; exact ownOk_ok b1, fun s H A cl fp => ?_, fun s H A cl fp => pe_in fun W hW => dE_ok hv (K.blk W hW s H A cl fp scope) elt, hc⟩
          simp only [Bool.or_eq_true, Bool.and_eq_true, beq_iff_eq] at b3
          have es : (X.blk s H scope (compEnvC scope cl A X.env) fp).env.scope = relS scope S.sc := by show relS scope X.env.scope = _; rw [K.sc]
          refine pg_name nd hkN ?_ ?_
          · rcases b3 with z | z
            · exact .inl (by rw [es]; exact z)
            · exact .inr (by rw [es]; exact z.1)
          · rcases b3 with z | z
            · exact .inr (by rw [es]; exact z)
            · refine .inl ?_
              show (scope.names.lookup v == some .cell) = true
              rw [z.2]; rfl
        split
        · have L := mk (ret true) fun s H A cl fp => pts_in0
          split
          · rename_i f p a p'
            split
            · rename_i hf; subst hf
              split
              · rename_i hg
                simp only [Bool.and_eq_true] at hg
                exact pe_lcR K.calm nd L (K.gl hg.1.1) (K.blt _ hg.1.2) (dE_ok hv K a) hg.2
              · exact pe_stuck (α := Unit)
            · exact pe_lcD K.hK K.calm nd L (dE_ok hv K _) b2
          · exact pe_lcD K.hK K.calm nd L (dE_ok hv K _) b2
        · rename_i c
          have L := mk (st (S.sub scope) c) fun s H A cl fp => pts_in fun W hW => ht _ _ _ c (K.blk W hW s H A cl fp scope)
          split
          · rename_i f p a p'
            split
            · rename_i hf; subst hf
              split
              · rename_i hg
                simp only [Bool.and_eq_true] at hg
                exact pe_lcR K.calm nd L (K.gl hg.1.1) (K.blt _ hg.1.2) (dE_ok hv K a) hg.2
              · exact pe_stuck (α := Unit)
            · exact pe_lcD K.hK K.calm nd L (dE_ok hv K _) b2
          · exact pe_lcD K.hK K.calm nd L (dE_ok hv K _) b2
        · exact pe_stuck (α := Unit)
      · exact pe_stuck (α := Unit)
    · exact pe_stuck (α := Unit)
  · exact pe_stuck (α := Unit)
omit ht in
theorem pairV (K : Cpt S C X) : ∀ es : List Expr, Paired (fun e x => PE X e (tG C lV x)) es (es.map (sv S))
  | [] => .nil
  | e :: es => .cons (hv S C X e K) (pairV K es)
omit hv in
theorem pairT (K : Cpt S C X) : ∀ es : List Expr, Paired (fun e x => PT X e (tG C lB x)) es (es.map (st S))
  | [] => .nil
  | e :: es => .cons (ht S C X e K) (pairT K es)
theorem evV_ok (K : Cpt S C X) (e : Expr) : PE X e (tG C lV (evV S sv st e)) := by
  unfold evV
  split
  · split
    · rename_i d h; exact pe_const h
    · exact pe_stuck (α := Unit)
  · exact nameV_ok K
  · split
    · rename_i h; exact pe_tupD (argsD_ok hv K _ h)
    · exact pe_stuck (α := Unit)
  · split
    · rename_i h; exact pe_lstD (argsD_ok hv K _ h)
    · exact pe_stuck (α := Unit)
  · exact pe_binD K.hK (coE_ok hv K _) (coE_ok hv K _)
  · exact pe_notD (hv _ _ _ _ K)
  · exact pe_negD (dE_ok hv K _)
  · rename_i es _
    cases es with
    | nil => exact pe_stuck (α := Unit)
    | cons e es => exact pe_andD (pairV hv K _) (by simp)
  · rename_i es _
    cases es with
    | nil => exact pe_stuck (α := Unit)
    | cons e es => exact pe_orD (pairV hv K _) (by simp)
  · exact pe_ifD (ht _ _ _ _ K) (hv _ _ _ _ K) (hv _ _ _ _ K)
  · split
    · rename_i h; exact pe_cmpD K.hK K.un (dE_ok hv K _) (coE_ok hv K _) (notSet_mark h)
    · exact pe_stuck (α := Unit)
  · split
    · rename_i h; exact pe_chainD K.hK K.un (dE_ok hv K _) (dE_ok hv K _) (dE_ok hv K _) h
    · exact pe_stuck (α := Unit)
  · refine pe_slcD K.hK (coE_ok hv K _) ?_ ?_
    · split
      · exact po_someD (dE_ok hv K _)
      · exact po_noneD
    · split
      · exact po_someD (dE_ok hv K _)
      · exact po_noneD
  · split
    · rename_i h; exact pe_ixD K.hK (coE_ok hv K _) (dE_ok hv K _) (notSlice_ok h)
    · exact pe_stuck (α := Unit)
  · exact callV_ok hv K
  · exact lcV_ok hv ht K
  · exact pe_stuck (α := Unit)
theorem evT_ok (K : Cpt S C X) (e : Expr) : PT X e (tG C lB (evT S sv st e)) := by
  unfold evT
  split
  · split
    · rename_i h; exact pt_cmpD K.hK K.un (dE_ok hv K _) (coE_ok hv K _) (notSet_mark h)
    · exact pt_stuck
  · split
    · rename_i h; exact pt_chainD K.hK K.un (dE_ok hv K _) (dE_ok hv K _) (dE_ok hv K _) h
    · exact pt_stuck
  · rename_i es _
    cases es with
    | nil => exact pt_stuck
    | cons e es => exact (pw_andD (pairT ht K _) (by simp)).pt
  · rename_i es _
    cases es with
    | nil => exact pt_stuck
    | cons e es => exact (pw_orD (pairT ht K _) (by simp)).pt
  · exact pt_notD (ht _ _ _ _ K)
  · split
    · rename_i h; exact pt_truD K.hK (coE_ok hv K _) (plainT_ok h)
    · exact pt_stuck
end
theorem sound : ∀ (n : Nat) (S : SC) (C : Ck) (X : Cx) (e : Expr), Cpt S C X → PE X e (tG C lV (evP n S e).1) ∧ PT X e (tG C lB (evP n S e).2)
  | 0, S, C, X, e, _ => ⟨pe_stuck (α := Unit), pt_stuck⟩
  | n + 1, S, C, X, e, K => ⟨evV_ok (fun S C X e K => (sound n S C X e K).1) (fun S C X e K => (sound n S C X e K).2) K e, evT_ok (fun S C X e K => (sound n S C X e K).1) (fun S C X e K => (sound n S C X e K).2) K e⟩
end DI
set_option maxRecDepth 100000
set_option maxHeartbeats 4000000
namespace DI
open PySem PySem.Spec PyProof.Rows L2

def locB (k : Option NameKind) : Bool := k == some .local || k == some .cell
def SC.loc (S : SC) (x : Str) : Option Nat := if locB (S.sc.names.lookup x) then ixIn x S.N else none
mutual
def tgOf (S : SC) : Expr → Option Tg
  | .Name x _ => (S.loc x).map .name
  | .Tuple es _ _ => (tgsOf S es).map .tup
  | _ => none
def tgsOf (S : SC) : List Expr → Option (List Tg)
  | [] => some []
  | e :: es => match tgOf S e, tgsOf S es with
    | some t, some ts => some (t :: ts)
    | _, _ => none
end
section
variable {S : SC} {C : Ck} {X : Cx}
theorem Cpt.loc (K : Cpt S C X) {x : Str} {i : Nat} (h : S.loc x = some i) : X.N[i]? = some x ∧ Loc X.env.scope x := by
  unfold SC.loc at h
  split at h
  · rename_i hv
    refine ⟨by rw [K.hN]; exact ixIn_get h, ?_⟩
    rw [K.sc]
    unfold locB at hv
    simp only [Bool.or_eq_true, beq_iff_eq] at hv
    exact hv
  · cases h
theorem tgOf_star {e : Expr} {t : Tg} (h : tgOf S e = some t) : notStar e = true := by
  cases e <;> first | rfl | (simp [tgOf] at h)
theorem assign_cons {e : Expr} {es : List Expr} {env : Env} (h : notStar e = true) : assignEach (e :: es) env = (false, assign e env) :: assignEach es env := by
  cases e <;> first | rfl | cases h
theorem tgs_len : ∀ {es : List Expr} {ts : List Tg} {env : Env}, tgsOf S es = some ts → (assignEach es env).length = ts.length ∧ (assignEach es env).findIdx? (·.1) = none
  | [], ts, env, h => by simp only [tgsOf, Option.some.injEq] at h; subst h; exact ⟨rfl, rfl⟩
  | e :: es, ts, env, h => by
    simp only [tgsOf] at h
    split at h
    · rename_i t ts' h1 h2
      cases h
      obtain ⟨a, b⟩ := tgs_len (env := env) h2
      rw [assign_cons (tgOf_star h1)]
      refine ⟨by simp [a], ?_⟩
      rw [List.findIdx?_cons]
      simp [b]
    · cases h
mutual
theorem tgOf_ok (K : Cpt S C X) (hf : ∀ x, X.fn x = true) : ∀ {e : Expr} {t : Tg}, tgOf S e = some t → PG X e (tTg C t)
  | .Name x p, t, h => by
    simp only [tgOf, Option.map_eq_some_iff] at h
    obtain ⟨i, h, rfl⟩ := h
    obtain ⟨a, b⟩ := K.loc h
    exact pg_nameD (by rw [K.hN]; exact K.nd) a b (.inl (hf x))
  | .Tuple es k p, t, h => by
    simp only [tgOf, Option.map_eq_some_iff] at h
    obtain ⟨ts, h, rfl⟩ := h
    obtain ⟨a, b⟩ := tgs_len (env := X.env) h
    exact pg_tupD K.hK K.calm (tgsOf_ok K hf h) a b
  | .BoolOp .., _, h | .NamedExpr .., _, h | .BinOp .., _, h | .UnaryOp .., _, h | .Lambda .., _, h | .IfExp .., _, h | .Dict .., _, h | .Set .., _, h | .ListComp .., _, h | .SetComp .., _, h | .DictComp .., _, h
  | .GeneratorExp .., _, h | .Await .., _, h | .Yield .., _, h | .YieldFrom .., _, h | .Compare .., _, h | .Call .., _, h | .FormattedValue .., _, h | .JoinedStr .., _, h | .Constant .., _, h | .Attribute .., _, h | .Subscript .., _, h
  | .Starred .., _, h | .List .., _, h | .Slice .., _, h => by simp [tgOf] at h
theorem tgsOf_ok (K : Cpt S C X) (hf : ∀ x, X.fn x = true) : ∀ {es : List Expr} {ts : List Tg}, tgsOf S es = some ts → PGs X es (tTgs C ts)
  | [], ts, h => by simp only [tgsOf, Option.some.injEq] at h; subst h; exact pgs_nilD
  | e :: es, ts, h => by
    simp only [tgsOf] at h
    split at h
    · rename_i t ts' h1 h2
      cases h
      exact pgs_consD (tgOf_ok K hf h1) (tgsOf_ok K hf h2) (by rw [assign_cons (tgOf_star h1)]; rfl)
    · cases h
end
end
abbrev SelfS := List Stmt → SDen
def noS : SDen := fun _ => none
def notTup : Expr → Bool
  | .Tuple .. => false
  | _ => true
theorem swapped_none {ts : List Expr} {k : Nat} {p : Pos} {e : Expr} {env : Env} (h : notTup e = true) : swappedStores [.Tuple ts k p] e env = pure none := by
  cases e <;> first | rfl | cases h
theorem sole_ok {t e : Expr} {l : Nat} {env : Env} (h : notComp e = true) : swapsWithSole [t] e l env = pure false := by
  unfold swapsWithSole
  exact notComp_ok h
def isLc : Expr → Bool
  | .ListComp .. => true
  | _ => false
def exSt (S : SC) (n : Nat) (self : SelfS) (s : Stmt) : SDen :=
  let sv : SelfV := fun e => (evP n S e).1
  let st : SelfT := fun e => (evP n S e).2
  match s with
  | .Pass _ => nextS
  | .Break _ => brkS
  | .Continue _ => contS
  | .Expr (.Constant (.str _) _ _) _ => nextS
  | .Expr (.Call (.Attribute (.Name x _) m p2) [e] [] p3) _ => match S.slot x with
    | some i => if m = ("append" : Str) then (if nmOk x && notStar e && p2.endLine == p3.line then appS i (dE sv e) else noS) else noS
    | none => noS
  | .Expr e _ => if notComp e then dropS (sv e) else noS
  | .Return none _ => retNone
  | .Return (some (.Name x p)) _ => match S.slot x with
    | some i => if nmOk x then retN i else noS
    | none => retS (sv (.Name x p))
  | .Return (some e) _ => retS (sv e)
  | .If c a b _ => ifS (st c) (self a) (self b)
  | .Assign [.Name x _] e _ => match S.loc x with
    | some i => if notComp e || isLc e then asgS i (sv e) else noS
    | none => noS
  | .Assign [.Tuple ts k p] e _ => if notComp e && notTup e then match tgOf S (.Tuple ts k p) with
      | some t => asgT t (dE sv e)
      | none => noS
    else noS
  | .Assign [.Subscript (.Name x _) k _] e _ => match S.slot x with
    | some i => if nmOk x && notSlice k && notComp e then setIxS (dE sv e) i (dE sv k) else noS
    | none => noS
  | .For tg iter b [] _ => match tgOf S tg with
    | some t => match iter with
      | .Call (.Name f _) [a] [] _ => if f = ("range" : Str) then (if S.gl f && S.blt f && notStar a then forR1 (dE sv a) t (self b) else noS) else forS (dE sv iter) t (self b)
      | .Call (.Name f _) [a, a2] [] _ => if f = ("range" : Str) then (if S.gl f && S.blt f && notStar a && notStar a2 then forR2 (dE sv a) (dE sv a2) t (self b) else noS) else forS (dE sv iter) t (self b)
      | _ => if notSet iter then forS (dE sv iter) t (self b) else noS
    | none => noS
  | .While c b [] _ => whileS (st c) (self b) S.F
  | .Raise (some (.Call (.Name x _) [e] [] _)) none _ => if nmOk x && S.exn x && S.gl x && notStar e then raiseS x (dE sv e) else noS
  | _ => noS
def exB (f : Stmt → SDen) : List Stmt → SDen
  | [] => nextS
  | s :: ss => seqS (f s) (exB f ss)
def exS (S : SC) (ne : Nat) : Nat → SelfS
  | 0 => fun _ => noS
  | n + 1 => fun ss => exB (exSt S ne (exS S ne n)) ss
section
variable {S : SC} {C : Ck} {X : Cx} {sv : SC → SelfV} {st : SC → SelfT}
variable (hv : ∀ S C X e, Cpt S C X → PE X e (tG C lV (sv S e))) (ht : ∀ S C X e, Cpt S C X → PT X e (tG C lB (st S e)))
include hv ht
/-- name = [..] on one line -/
theorem lcS_ok (K : Cpt S C X) {i : Nat} {n : Str} {py spos : Pos} (hy : X.N[i]? = some n) (hyl : X.env.scope.names.lookup n = some .local) {elt : Expr} {gens : List Comprehension} {scope : Scope} {pos : Pos}
    (hsw : swapsWith (.ListComp elt gens scope pos) (some (.Name n py)) spos.line X.env = pure true) : PS X (.Assign [.Name n py] (.ListComp elt gens scope pos) spos) (tSt C (asgS i (lcV S sv st elt gens scope))) := by
  have no : PS X (.Assign [.Name n py] (.ListComp elt gens scope pos) spos) (tSt C (asgS i stuck)) := ⟨fun _ _ _ _ _ _ ⟨_, _, _, _, e, _⟩ => by cases e⟩
  unfold lcV
  split
  · rename_i v pv iter ifs
    split
    · rename_i k hk
      split
      · rename_i hb
        simp only [Bool.and_eq_true] at hb
        obtain ⟨⟨b1, b2⟩, b3⟩ := hb
        have hkN : X.N[k]? = some v := by rw [K.hN]; exact ixIn_get hk
        have nd : X.N.Nodup := by rw [K.hN]; exact K.nd
        have mk : ∀ (c : Den Bool), (∀ (s : Shared) (H : Hp) (A : Addr) (cl : List (Str × Addr)) (fp : List Addr), PTs (X.blk s H scope (compEnvC scope cl A X.env) fp) ifs (tIn C lB c)) → LcOk C X scope v k (.Name v pv) elt ifs (dE (sv (S.sub scope)) elt) c := fun c hc => by
          refine ⟨by rw [K.hN, K.sc]; exact ownOk_ok b1, fun s H A cl fp => ?_, fun s H A cl fp => pe_in fun W hW => dE_ok hv (K.blk W hW s H A cl fp scope) elt, hc⟩
          simp only [Bool.or_eq_true, Bool.and_eq_true, beq_iff_eq] at b3
          have es : (X.blk s H scope (compEnvC scope cl A X.env) fp).env.scope = relS scope S.sc := by show relS scope X.env.scope = _; rw [K.sc]
          refine pg_name nd hkN ?_ ?_
          · rcases b3 with z | z
            · exact .inl (by rw [es]; exact z)
            · exact .inr (by rw [es]; exact z.1)
          · rcases b3 with z | z
            · exact .inr (by rw [es]; exact z)
            · refine .inl ?_
              show (scope.names.lookup v == some .cell) = true
              rw [z.2]; rfl
        split
        · have L := mk (ret true) fun s H A cl fp => pts_in0
          split
          · rename_i f p a p'
            split
            · rename_i hf; subst hf
              split
              · rename_i hg
                simp only [Bool.and_eq_true] at hg
                exact ps_lcR K.calm nd hy hyl hsw L (K.gl hg.1.1) (K.blt _ hg.1.2) (dE_ok hv K a) hg.2
              · exact no
            · exact ps_lcD K.hK K.calm nd hy hyl hsw L (dE_ok hv K _) b2
          · exact ps_lcD K.hK K.calm nd hy hyl hsw L (dE_ok hv K _) b2
        · rename_i c
          have L := mk (st (S.sub scope) c) fun s H A cl fp => pts_in fun W hW => ht _ _ _ c (K.blk W hW s H A cl fp scope)
          split
          · rename_i f p a p'
            split
            · rename_i hf; subst hf
              split
              · rename_i hg
                simp only [Bool.and_eq_true] at hg
                exact ps_lcR K.calm nd hy hyl hsw L (K.gl hg.1.1) (K.blt _ hg.1.2) (dE_ok hv K a) hg.2
              · exact no
            · exact ps_lcD K.hK K.calm nd hy hyl hsw L (dE_ok hv K _) b2
          · exact ps_lcD K.hK K.calm nd hy hyl hsw L (dE_ok hv K _) b2
        · exact no
      · exact no
    · exact no
  · exact no
end
section
variable {S : SC} {C : Ck} {X : Cx}
theorem ps_noS {s : Stmt} : PS X s (tSt C noS) := ps_stuck
theorem lc_swap {elt : Expr} {gens : List Comprehension} {scope : Scope} {pos p : Pos} {n : Str} {l : Nat} {env : Env} : ∃ b, swapsWith (.ListComp elt gens scope pos) (some (.Name n p)) l env = pure b ∧ (b = true → env.kindOf n = some .local) := by
  refine ⟨env.blockKind == .function && env.kindOf n == some .local && p.line == pos.line && !(scope.names.any fun (m, k) => m == n && (k == .local || k == .cell)), rfl, fun h => ?_⟩
  simp only [Bool.and_eq_true, beq_iff_eq] at h
  exact h.1.1.2
theorem exSt_ok (K : Cpt S C X) (hf : ∀ x, X.fn x = true) {n : Nat} {self : SelfS} (hs : ∀ ss, PSs X ss (tSt C (self ss))) (s : Stmt) : PS X s (tSt C (exSt S n self s)) := by
  have V : ∀ e, PE X e (tG C lV (evP n S e).1) := fun e => (sound n S C X e K).1
  have T : ∀ e, PT X e (tG C lB (evP n S e).2) := fun e => (sound n S C X e K).2
  have Dv : ∀ e, PE X e (tG C lD (dE (fun e => (evP n S e).1) e)) := fun e => frzD_ok (V e)
  have nd : X.N.Nodup := by rw [K.hN]; exact K.nd
  unfold exSt
  dsimp only
  split
  · exact ps_passD
  · exact ps_brkD
  · exact ps_contD
  · exact ps_docD
  · split
    · rename_i i hi
      split
      · rename_i hm; subst hm
        split
        · rename_i hb
          simp only [Bool.and_eq_true] at hb
          obtain ⟨a, b⟩ := K.slot hi
          exact ps_appD a b (nmOk1 hb.1.1) (nmOk2 hb.1.1) (Dv _) hb.1.2 hb.2
        · exact ps_noS
      · exact ps_noS
    · exact ps_noS
  · split
    · rename_i h; exact ps_exprD (V _) (notComp_ok h)
    · exact ps_noS
  · exact ps_retNoneD
  · split
    · rename_i i hi
      split
      · rename_i hn
        obtain ⟨a, b⟩ := K.slot hi
        exact ps_retND a b (nmOk1 hn) (nmOk2 hn)
      · exact ps_noS
    · exact ps_retD (V _)
  · exact ps_retD (V _)
  · exact ps_ifD (T _) (hs _) (hs _)
  · rename_i x p e pos
    split
    · rename_i i hi
      obtain ⟨a, b⟩ := K.loc hi
      split
      · rename_i h
        by_cases hc : notComp e = true
        · exact ps_asgD nd a b (.inl (hf x)) (V _) (notComp_ok hc)
        · rw [Bool.or_eq_true] at h
          rcases h with h | h
          · exact absurd h hc
          · cases e <;> simp only [isLc, Bool.false_eq_true] at h
            rename_i elt gens scope lp
            obtain ⟨bb, hsw, hloc⟩ := lc_swap (elt := elt) (gens := gens) (scope := scope) (pos := lp) (p := p) (n := x) (l := pos.line) (env := X.env)
            cases bb with
            | false => exact ps_asgD nd a b (.inl (hf x)) (V _) hsw
            | true =>
              cases n with
              | zero => exact ⟨fun _ _ _ _ _ _ ⟨_, _, _, _, e, _⟩ => by cases e⟩
              | succ n =>
                exact lcS_ok (sv := fun S e => (evP n S e).1) (st := fun S e => (evP n S e).2) (fun S C X e K => (sound n S C X e K).1) (fun S C X e K => (sound n S C X e K).2) K a (hloc rfl) hsw
      · exact ps_noS
    · exact ps_noS
  · rename_i ts k p e pos
    split
    · rename_i h
      rw [Bool.and_eq_true] at h
      split
      · rename_i t ht
        exact ps_asgT (Dv _) (tgOf_ok K hf ht) (sole_ok h.1) (swapped_none h.2) rfl
      · exact ps_noS
    · exact ps_noS
  · split
    · rename_i i hi
      split
      · rename_i h
        simp only [Bool.and_eq_true] at h
        obtain ⟨a, b⟩ := K.slot hi
        exact ps_setIxD a b (nmOk1 h.1.1) (nmOk2 h.1.1) (Dv _) (Dv _) h.1.2 (sole_ok h.2) rfl rfl
      · exact ps_noS
    · exact ps_noS
  · rename_i tg iter b pos
    split
    · rename_i t ht
      split
      · rename_i f p a p'
        split
        · rename_i hff; subst hff
          split
          · rename_i hg
            simp only [Bool.and_eq_true] at hg
            exact ps_forR1 K.po K.calm (K.gl hg.1.1) (K.blt _ hg.1.2) (Dv _) hg.2 (tgOf_ok K hf ht) (hs _)
          · exact ps_noS
        · exact ps_forD K.hK K.po K.calm (Dv _) (tgOf_ok K hf ht) (hs _) rfl
      · rename_i f p a a2 p'
        split
        · rename_i hff; subst hff
          split
          · rename_i hg
            simp only [Bool.and_eq_true] at hg
            exact ps_forR2 K.po K.calm (K.gl hg.1.1.1) (K.blt _ hg.1.1.2) (Dv _) (Dv _) hg.1.2 hg.2 (tgOf_ok K hf ht) (hs _)
          · exact ps_noS
        · exact ps_forD K.hK K.po K.calm (Dv _) (tgOf_ok K hf ht) (hs _) rfl
      · split
        · rename_i h; exact ps_forD K.hK K.po K.calm (Dv _) (tgOf_ok K hf ht) (hs _) h
        · exact ps_noS
    · exact ps_noS
  · exact ps_whileD K.po S.F (T _) (hs _)
  · split
    · rename_i h
      simp only [Bool.and_eq_true] at h
      obtain ⟨A, f, fd, ps, k, h1, h2, h3, h4, h5, h6⟩ := K.exs _ h.1.1.2
      exact ps_raiseD K.calm K.tk h1 h3 h4 (K.room.mono h5) h6 (K.gl h.1.2) h2 (Dv _) (nmOk1 h.1.1.1) h.2
    · exact ps_noS
  · exact ps_noS
theorem exB_ok {f : Stmt → SDen} (h : ∀ s, PS X s (tSt C (f s))) : ∀ ss, PSs X ss (tSt C (exB f ss))
  | [] => pss_nilD
  | s :: ss => pss_consD (h s) (exB_ok h ss)
theorem exS_ok (K : Cpt S C X) (hf : ∀ x, X.fn x = true) (ne : Nat) : ∀ (n : Nat) (ss : List Stmt), PSs X ss (tSt C (exS S ne n ss))
  | 0, ss => ⟨fun _ _ _ _ _ _ ⟨_, _, _, _, e, _⟩ => by cases e⟩
  | n + 1, ss => exB_ok (exSt_ok K hf (exS_ok K hf ne n)) ss
end
end DI
set_option maxRecDepth 100000
set_option maxHeartbeats 4000000
namespace DI
open PySem PySem.Spec PyProof.Rows L2

/-! ### the combinators, applied -/
section
variable {α β : Type} {ρ : Rho} {i : Nat} {x : Den RV} {y : Den D} {t : Den Bool} {a b : SDen} {c c2 : Den CO} {d : D} {op : Operator} {o : CmpOp}
@[simp] theorem ev_ret {v : α} : DI.ret v ρ = some (.ok v ρ) := rfl
@[simp] theorem ev_bnd {x : Den α} {k : α → Den β} : bnd x k ρ = match x ρ with | none => none | some (.exc c d ρ') => some (.exc c d ρ') | some (.ok a ρ') => k a ρ' := rfl
@[simp] theorem ev_bS {x : Den α} {k : α → SDen} : bS x k ρ = match x ρ with
  | none => none
  | some (.exc c d ρ') => some (.exc c d ρ')
  | some (.ok a ρ') => k a ρ' := rfl
@[simp] theorem ev_frz : frzD x ρ = bnd x (fun r => DI.ret r.frz) ρ := rfl
@[simp] theorem ev_coD : coD y ρ = bnd y (fun d => DI.ret (.val d)) ρ := rfl
@[simp] theorem ev_slotV : slotV i ρ = match ρ[i]? with
  | some (.val d) => some (.ok (.val d) ρ)
  | some (.own m) => some (.ok (.val m.frz) (ρ.set i (.val m.frz)))
  | _ => none := rfl
@[simp] theorem ev_slotC : slotC i ρ = match ρ[i]? with
  | some (.val _) => some (.ok (.slot i) ρ)
  | some (.own _) => some (.ok (.slot i) ρ)
  | some (.ref _) => some (.ok (.slot i) ρ)
  | _ => none := rfl
@[simp] theorem ev_coV : coGet ρ (.val d) = some d := rfl
@[simp] theorem ev_coS : coGet ρ (.slot i) = match ρ[i]? with
    | some (.val d) => some d
    | some (.own m) => some m.frz
    | some (.ref m) => some m.frz
    | _ => none := rfl
@[simp] theorem ev_consA {x : Den D} {y : Den (List D)} : consA x y ρ = bnd x (fun d => bnd y fun ds => DI.ret (d :: ds)) ρ := rfl
@[simp] theorem ev_tupV {x : Den (List D)} : tupV x ρ = bnd x (fun ds => if ds.length ≤ 100000 then DI.ret (.val (.tup ds)) else stuck) ρ := rfl
@[simp] theorem ev_lstV {x : Den (List D)} : lstV x ρ = bnd x (fun ds => if ds.length ≤ 100000 then DI.ret (.new (.lst ds)) else stuck) ρ := rfl
@[simp] theorem ev_optV {v : Option RV} : optV v ρ = v.map fun r => .ok r ρ := rfl
@[simp] theorem ev_optD {v : Option D} : optD v ρ = v.map fun d => .ok (.val d) ρ := rfl
@[simp] theorem ev_optB {v : Option Bool} : optB v ρ = v.map fun d => .ok d ρ := rfl
theorem ev_binV (h : supOp op = true) : binV op c c2 ρ = bnd c (fun a => bnd c2 fun b => fun ρ => match coGet ρ a, coGet ρ b with
  | some d1, some d2 => optV (binD op d1 d2) ρ
  | _, _ => none) ρ := by
  unfold binV
  rw [if_pos h]
  try rfl
@[simp] theorem ev_add : binV .Add c c2 ρ = bnd c (fun a => bnd c2 fun b => fun ρ => match coGet ρ a, coGet ρ b with
  | some d1, some d2 => optV (binD .Add d1 d2) ρ
  | _, _ => none) ρ := ev_binV rfl
@[simp] theorem ev_sub : binV .Sub c c2 ρ = bnd c (fun a => bnd c2 fun b => fun ρ => match coGet ρ a, coGet ρ b with
  | some d1, some d2 => optV (binD .Sub d1 d2) ρ
  | _, _ => none) ρ := ev_binV rfl
@[simp] theorem ev_mul : binV .Mult c c2 ρ = bnd c (fun a => bnd c2 fun b => fun ρ => match coGet ρ a, coGet ρ b with
  | some d1, some d2 => optV (binD .Mult d1 d2) ρ
  | _, _ => none) ρ := ev_binV rfl
@[simp] theorem ev_mod : binV .Mod c c2 ρ = bnd c (fun a => bnd c2 fun b => fun ρ => match coGet ρ a, coGet ρ b with
  | some d1, some d2 => optV (binD .Mod d1 d2) ρ
  | _, _ => none) ρ := ev_binV rfl
@[simp] theorem ev_div : binV .FloorDiv c c2 ρ = bnd c (fun a => bnd c2 fun b => fun ρ => match coGet ρ a, coGet ρ b with
  | some d1, some d2 => optV (binD .FloorDiv d1 d2) ρ
  | _, _ => none) ρ := ev_binV rfl
@[simp] theorem ev_pow : binV .Pow c c2 ρ = bnd c (fun a => bnd c2 fun b => fun ρ => match coGet ρ a, coGet ρ b with
  | some d1, some d2 => optV (binD .Pow d1 d2) ρ
  | _, _ => none) ρ := ev_binV rfl
@[simp] theorem ev_cmpB : cmpB o y c ρ = bnd y (fun d1 => bnd c fun c => fun ρ => match coGet ρ c with
  | some d2 => optB (cmpD o d1 d2) ρ
  | none => none) ρ := rfl
@[simp] theorem ev_blV : blV t ρ = bnd t (fun b => DI.ret (.val (.bl b))) ρ := rfl
@[simp] theorem ev_truC : truC c ρ = bnd c (fun c => fun ρ => match coGet ρ c with
  | some d => optB (truthD d) ρ
  | none => none) ρ := rfl
@[simp] theorem ev_ixV : ixV c y ρ = bnd c (fun c => bnd y fun d2 => fun ρ => match coGet ρ c with
  | some d1 => optD (ixD d1 d2) ρ
  | none => none) ρ := rfl
@[simp] theorem ev_call1C {k : D → Option RV} : call1C k c ρ = bnd c (fun c => fun ρ => match coGet ρ c with
  | some d => optV (k d) ρ
  | none => none) ρ := rfl
@[simp] theorem ev_callA {k : List D → Option D} {x : Den (List D)} : callA k x ρ = bnd x (fun ds => optD (k ds)) ρ := rfl
@[simp] theorem ev_askV {k : D → Bool} : askV k c ρ = call1C (fun d => some (.val (.bl (k d)))) c ρ := rfl
@[simp] theorem ev_notB : notB t ρ = bnd t (fun b => DI.ret (!b)) ρ := rfl
@[simp] theorem ev_ifV {x z : Den RV} : ifV t x z ρ = bnd t (fun b => if b then x else z) ρ := rfl
@[simp] theorem ev_ite {p : Prop} [Decidable p] {x y : Den α} : (if p then x else y) ρ = if p then x ρ else y ρ := by split <;> rfl
@[simp] theorem ev_iteS {p : Prop} [Decidable p] {x y : SDen} : (if p then x else y) ρ = if p then x ρ else y ρ := by split <;> rfl
@[simp] theorem ev_stuck : (stuck : Den α) ρ = none := rfl
@[simp] theorem ev_seq : seqS a b ρ = match a ρ with
  | some (.next ρ') => b ρ'
  | o => o := rfl
@[simp] theorem ev_next : nextS ρ = some (.next ρ) := rfl
@[simp] theorem ev_brk : brkS ρ = some (.brk ρ) := rfl
@[simp] theorem ev_cont : contS ρ = some (.cont ρ) := rfl
@[simp] theorem ev_if : ifS t a b ρ = bS t (fun k => if k then a else b) ρ := rfl
@[simp] theorem ev_retS : retS x ρ = bS x (fun r ρ => some (.ret r ρ)) ρ := rfl
@[simp] theorem ev_retN : retN i ρ = match ρ[i]? with
  | some (.val d) => some (.ret (.val d) ρ)
  | some (.own m) => some (.ret (.new m) ρ)
  | _ => none := rfl
@[simp] theorem ev_raise {x : Str} {y : Den D} : raiseS x y ρ = bS y (fun d ρ => some (.exc x d ρ)) ρ := rfl
@[simp] theorem ev_asg : asgS i x ρ = bS x (fun r ρ => (storeR i r ρ).map .next) ρ := rfl
@[simp] theorem ev_setIx {x : Den D} {s : Nat} {y : Den D} : setIxS x s y ρ = bS x (fun d => bS (slotC s) fun _ => bS y fun k => fun ρ => match getM s ρ with
  | some m => match setIxM m k d with
    | some m' => (setM s m' ρ).map .next
    | none => none
  | none => none) ρ := rfl
@[simp] theorem ev_app {s : Nat} {x : Den D} : appS s x ρ = match getM s ρ with
  | some (.lst _) => bS x (fun d => fun ρ => match getM s ρ with
    | some (.lst ds) => if ds.length < 100000 then (setM s (.lst (ds ++ [d])) ρ).map .next else none
    | _ => none) ρ
  | _ => none := rfl
@[simp] theorem ev_nilC : nilC ρ = some (.ok [] ρ) := rfl
@[simp] theorem ev_consC {x : Den CO} {y : Den (List CO)} : consC x y ρ = bnd x (fun c => bnd y fun cs => DI.ret (c :: cs)) ρ := rfl
@[simp] theorem ev_run {n : Nat} {f : FM} {cs : List CO} : runFn n f cs ρ = match argsOf ρ cs with
  | none => none
  | some as => if (slotsOf cs).Nodup ∧ as.length = n then match f as with
      | some (.ret rv outs) => some (.ok rv (upA (updOf 0 cs outs) 0 ρ))
      | some (.exc c d outs) => some (.exc c d (upA (updOf 0 cs outs) 0 ρ))
      | none => none
    else none := rfl
@[simp] theorem ev_forS {x : Den D} {t : Tg} {body : SDen} : forS x t body ρ = bS x (fun d => fun ρ => match itemsD d with
  | some ds => forL body t ds ρ
  | none => none) ρ := rfl
@[simp] theorem ev_forR1 {x : Den D} {t : Tg} {body : SDen} : forR1 x t body ρ = bS x (fun d => fun ρ => match d with
  | .int j => if rngOk j then forL body t (rngL 0 j.toNat) ρ else none
  | _ => none) ρ := rfl
@[simp] theorem ev_slcV {x : Den CO} {lo hi : Den (Option Int)} : slcV x lo hi ρ = bnd x (fun c => bnd lo fun l => bnd hi fun h => fun ρ => match coGet ρ c with
  | some d => optV (slcD d l h) ρ
  | none => none) ρ := rfl
@[simp] theorem ev_noPart : noPart ρ = some (.ok none ρ) := rfl
@[simp] theorem ev_part {x : Den D} : part x ρ = bnd x (fun d => match d with
  | .int i => DI.ret (some i)
  | _ => stuck) ρ := rfl
end
/-! ### comparisons of plain things -/
theorem shaped_int {i : Int} : SeqAt.shaped (.int i) = true := by
  unfold SeqAt.shaped
  simp [PyData.canLay0, PyData.depth]
theorem shaped_str {i : Str} (h : PyData.strOk i = true) : SeqAt.shaped (.str i) = true := by
  unfold SeqAt.shaped
  simp [PyData.canLay0, PyData.depth, h]
theorem shaped_bl {i : Bool} : SeqAt.shaped (.bool i) = true := by
  unfold SeqAt.shaped
  simp [PyData.canLay0, PyData.depth]
theorem shaped_non : SeqAt.shaped .none = true := by
  unfold SeqAt.shaped
  simp [PyData.canLay0, PyData.depth]
@[simp] theorem eqD_int {i j : Int} : eqD (.int i) (.int j) = some (decide (i = j)) := by
  unfold eqD okD eqvD
  simp only [toPy, shaped_int, Bool.and_self, if_true, Option.some.injEq]
  by_cases h : i = j
  · subst h
    simp [PyData.eqv]
  · simp [PyData.eqv, h]
theorem eqD_str {i j : Str} (h1 : PyData.strOk i = true) (h2 : PyData.strOk j = true) : eqD (.str i) (.str j) = some (decide (i = j)) := by
  unfold eqD okD eqvD
  simp only [toPy, shaped_str h1, shaped_str h2, Bool.and_self, if_true, Option.some.injEq]
  by_cases h : i = j
  · subst h
    simp [PyData.eqv]
  · simp [PyData.eqv, h]
theorem eqD_bl {i j : Bool} : eqD (.bl i) (.bl j) = some (decide (i = j)) := by
  unfold eqD okD eqvD
  simp only [toPy, shaped_bl, Bool.and_self, if_true, Option.some.injEq]
  by_cases h : i = j
  · subst h
    simp [PyData.eqv]
  · simp [PyData.eqv, h]
/-! ### the data's steps -/
section
variable {ρ : Rho} {i j : Int} {k n tot : Nat} {r : RV} {d : D} {ds es : List D} {m : M} {b : Bool} {x y : D} {T : String} {bd : SDen} {as : List Arg} {cs : List CO} {u : List (Nat × M)}
@[simp] theorem ev_rvv : RV.frz (.val d) = d := rfl
@[simp] theorem ev_rvn : RV.frz (.new m) = m.frz := rfl
@[simp] theorem ev_ml : M.frz (.lst ds) = .lst ds := rfl
@[simp] theorem ev_mi {c : Str} {gs : List (Str × D)} : M.frz (.ins c gs) = .obj c gs := rfl
@[simp] theorem bi_add : binD .Add (.int i) (.int j) = some (.val (.int (i + j))) := rfl
@[simp] theorem bi_addT : binD .Add (.tup ds) (.tup es) = if ds.length + es.length ≤ 100000 then some (.val (.tup (ds ++ es))) else none := rfl
@[simp] theorem bi_addL : binD .Add (.lst ds) (.lst es) = if ds.length + es.length ≤ 100000 then some (.new (.lst (ds ++ es))) else none := rfl
@[simp] theorem bi_sub : binD .Sub (.int i) (.int j) = some (.val (.int (i - j))) := rfl
@[simp] theorem bi_mul : binD .Mult (.int i) (.int j) = if (-(2 ^ 64) < i ∧ i < 2 ^ 64) ∨ (-(2 ^ 64) < j ∧ j < 2 ^ 64) then some (.val (.int (i * j))) else none := rfl
@[simp] theorem bi_mod : binD .Mod (.int i) (.int j) = if 0 < j then some (.val (.int (i % j))) else none := rfl
@[simp] theorem bi_div : binD .FloorDiv (.int i) (.int j) = if 0 < j ∧ j < 1073741824 then some (.val (.int (i / j))) else none := rfl
@[simp] theorem bi_pow : binD .Pow (.int i) (.int j) = if 0 ≤ j ∧ j ≤ 1000000 ∧ i.natAbs < 2 ^ 64 then some (.val (.int (i ^ j.toNat))) else none := rfl
@[simp] theorem cm_eq : cmpD .Eq x y = eqD x y := rfl
@[simp] theorem cm_ne : cmpD .NotEq x y = (eqD x y).map (!·) := rfl
@[simp] theorem cm_lt : cmpD .Lt (.int i) (.int j) = some (decide (i < j)) := rfl
@[simp] theorem cm_le : cmpD .LtE (.int i) (.int j) = some (decide (i ≤ j)) := rfl
@[simp] theorem cm_gt : cmpD .Gt (.int i) (.int j) = some (decide (j < i)) := rfl
@[simp] theorem cm_ge : cmpD .GtE (.int i) (.int j) = some (decide (j ≤ i)) := rfl
@[simp] theorem cm_is : cmpD .Is x .non = some (match x with | .non => true | _ => false) := rfl
@[simp] theorem cm_isN : cmpD .IsNot x .non = some (match x with | .non => false | _ => true) := rfl
@[simp] theorem cm_in : cmpD .In x y = inD x y := rfl
@[simp] theorem cm_notIn : cmpD .NotIn x y = (inD x y).map (!·) := rfl
@[simp] theorem ix_l : ixD (.lst ds) (.int i) = L2.atI ds i := rfl
@[simp] theorem ix_f : ixD (.fls ds) (.int i) = L2.atI ds i := rfl
@[simp] theorem ix_t : ixD (.tup ds) (.int i) = L2.atI ds i := rfl
@[simp] theorem le_l : lenD (.lst ds) = some (.val (.int ds.length)) := rfl
@[simp] theorem le_f : lenD (.fls ds) = some (.val (.int ds.length)) := rfl
@[simp] theorem le_t : lenD (.tup ds) = some (.val (.int ds.length)) := rfl
@[simp] theorem in_i : DI.intD [.int i] = some (.int i) := rfl
@[simp] theorem in_b : DI.intD [.bl b] = some (.int (if b then 1 else 0)) := rfl
@[simp] theorem tr_b : truthD (.bl b) = some b := rfl
@[simp] theorem ist_n : isTn T .non = false := rfl
@[simp] theorem ist_b : isTn T (.bl b) = (T == "bool" || T == "int") := rfl
@[simp] theorem ist_i : isTn T (.int i) = (T == "int") := rfl
@[simp] theorem ist_s {z : Str} : isTn T (.str z) = (T == "str") := rfl
@[simp] theorem ist_l : isTn T (.lst ds) = (T == "list") := rfl
@[simp] theorem ist_f : isTn T (.fls ds) = (T == "list") := rfl
@[simp] theorem ist_t : isTn T (.tup ds) = (T == "tuple") := rfl
@[simp] theorem ev_semF : semF n tot bd as = if as.length = n then match bd (as.map Arg.sl ++ List.replicate (tot - n) .no) with
  | some (.next ρ) => (outsAt 0 as ρ).map (Res.ret (.val .non))
  | some (.ret r ρ) => (outsAt 0 as ρ).map (Res.ret r)
  | some (.exc c d ρ) => (outsAt 0 as ρ).map (Res.exc c d)
  | _ => none
  else none := rfl
@[simp] theorem ou_nil : outsAt k [] ρ = some [] := rfl
@[simp] theorem ou_ref {m0 : M} : outsAt k (.ref m0 :: as) (.ref m :: ρ) = (outsAt (k + 1) as ρ).map ((k, m) :: ·) := rfl
@[simp] theorem ou_val {s : Sl} : outsAt k (.val d :: as) (s :: ρ) = outsAt (k + 1) as ρ := rfl
@[simp] theorem sl_val : Arg.sl (.val d) = .val d := rfl
@[simp] theorem sl_ref : Arg.sl (.ref m) = .ref m := rfl
@[simp] theorem ev_storeR : storeR k r ρ = match ρ[k]? with
  | some (.ref _) => none
  | _ => some (ρ.set k (match r with | .val d => .val d | .new m => .own m)) := rfl
@[simp] theorem ev_storeV : storeV k d ρ = match ρ[k]? with
  | some (.ref _) => none
  | _ => some (ρ.set k (.val d)) := rfl
@[simp] theorem ev_getM : getM k ρ = match ρ[k]? with
  | some (.own m) => some m
  | some (.ref m) => some m
  | _ => none := rfl
@[simp] theorem ev_setM : setM k m ρ = match ρ[k]? with
  | some (.own _) => some (ρ.set k (.own m))
  | some (.ref _) => some (ρ.set k (.ref m))
  | _ => none := rfl
@[simp] theorem ev_setIxM : setIxM (.lst ds) (.int i) d = (ixN ds.length i).map fun j => .lst (ds.set j d) := rfl
@[simp] theorem ev_stN : stT (.name k) d ρ = storeV k d ρ := rfl
@[simp] theorem ev_stT {ts : List Tg} : stT (.tup ts) (.tup ds) ρ = stTs ts ds ρ := rfl
@[simp] theorem ev_sts0 : stTs [] [] ρ = some ρ := rfl
@[simp] theorem ev_sts1 {t : Tg} {ts : List Tg} : stTs (t :: ts) (d :: ds) ρ = match stT t d ρ with
  | some ρ' => stTs ts ds ρ'
  | none => none := rfl
@[simp] theorem ao_v : argOf ρ (.val d) = some (.val d) := rfl
@[simp] theorem ao_s : argOf ρ (.slot k) = (getM k ρ).map .ref := rfl
@[simp] theorem ao_0 : argsOf ρ [] = some [] := rfl
@[simp] theorem ao_1 {c : CO} : argsOf ρ (c :: cs) = match argOf ρ c, argsOf ρ cs with
  | some a, some as => some (a :: as)
  | _, _ => none := rfl
@[simp] theorem so_0 : slotsOf [] = [] := rfl
@[simp] theorem so_s : slotsOf (.slot k :: cs) = k :: slotsOf cs := rfl
@[simp] theorem so_v : slotsOf (.val d :: cs) = slotsOf cs := rfl
@[simp] theorem up_0 : updOf k [] u = [] := rfl
@[simp] theorem up_s {z : Nat} : updOf k (.slot z :: cs) u = match u.lookup k with
  | some m => (z, m) :: updOf (k + 1) cs u
  | none => updOf (k + 1) cs u := rfl
@[simp] theorem up_v : updOf k (.val d :: cs) u = updOf (k + 1) cs u := rfl
@[simp] theorem ua_0 : upA u k [] = [] := rfl
@[simp] theorem ua_1 {s : Sl} : upA u k (s :: ρ) = (match u.lookup k with | some m => s.put m | none => s) :: upA u (k + 1) ρ := rfl
@[simp] theorem pu_o {m0 : M} : Sl.put m (.own m0) = .own m := rfl
@[simp] theorem pu_r {m0 : M} : Sl.put m (.ref m0) = .ref m := rfl
@[simp] theorem pu_v : Sl.put m (.val d) = .val d := rfl
@[simp] theorem pu_n : Sl.put m .no = .no := rfl
@[simp] theorem lk_1 {a z : Nat} {l : List (Nat × M)} : ((a, m) :: l).lookup z = match z == a with
  | true => some m
  | false => l.lookup z := rfl
end
end DI
set_option maxRecDepth 100000
set_option maxHeartbeats 4000000
namespace DI
open PySem PySem.Spec PyProof.Rows L2

/-! ### a def of the text -/
structure Known (P : Program) (w : World) (K : Kc) (ca : Str → Option Addr) (mg : Str → Option Value) (base : Heap) (S : SC) : Prop where
  O : OwnT K
  blt : ∀ x, S.blt x = true → mg x = none
  con : ∀ x d, S.con x = some d → ∃ v u, mg x = some u ∧ RelV v u ∧ ∀ H, Rp K H v d
  fns : ∀ x e, S.fns x = some e → ∃ k f fd ps, k ≤ S.lvl ∧ mg x = some (.ref f) ∧ PySem.W.keepIn K.K (.ref f) = true ∧ Binds K.K fd ps [] ∧ FnOk P w K.K mg base (L2N.CX P w) k f fd ps (spOf K ca e.n e.f)
  cls : ∀ x, S.cls x = true → ∃ A, K.cl x = some A ∧ mg x = some (.ref A)
  exs : ∀ x, S.exn x = true → ∃ A f fd ps k, ca x = some A ∧ mg x = some (.ref A) ∧ EkC K.K A f ∧ FnOk P w K.K mg base (L2N.CX P w) k f fd ps (spAt A) ∧ k + 1 ≤ S.lvl ∧ Binds K.K fd ps []
section
variable {P : Program} {w : World} {K : Kc} {ca : Str → Option Addr} {mg : Str → Option Value} {base : Heap} {S : SC}
theorem cpt_of (Y : Known P w K ca mg base S) {N : List Str} {qual : Str} {st : Stmt} {f : Addr} {cdv : Value} {A : Around} {outer : List Env} {s : Shared} {H : Hp} {E : XK} {W : Wd} (hN : S.N = N) (hsc : S.sc = defScope st) (nd : N.Nodup) (hW : W.K = K)
    (hr : Room S.lvl (A.deeper (envOfC qual (defScope st) s.heap.objs.size f cdv))) :
    Cpt S ⟨W, fun cls d _ H => E cls d H, ca⟩ (cxOf (L2N.CX P w) P w K.K mg base N qual (defScope st) f cdv A outer s H E) where
  hK := by show K.K = W.K.K; rw [hW]
  hN := hN.symm
  nd := by rw [hN]; exact nd
  sc := hsc.symm
  calm := rfl
  un := by
    have := hr.un
    show (A.deeper (envOfC qual (defScope st) s.heap.objs.size f cdv)).units + 65 < cLine
    omega
  room := hr
  tk := L2N.takes_of rfl rfl rfl rfl
  po := passes_of rfl
  O := by show OwnT W.K; rw [hW]; exact Y.O
  blt := Y.blt
  con := fun x d h => by show ∃ v u, mg x = some u ∧ RelV v u ∧ ∀ H, Rp W.K H v d; rw [hW]; exact Y.con x d h
  fns := fun x e h => by
    obtain ⟨k, f, fd, ps, a, b, c, d, g⟩ := Y.fns x e h
    refine ⟨k, f, fd, ps, a, b, c, d, ?_⟩
    show FnOk P w K.K mg base (L2N.CX P w) k f fd ps (spOf W.K ca e.n e.f)
    rw [hW]; exact g
  cls := fun x h => by show ∃ A, W.K.cl x = some A ∧ mg x = some (.ref A); rw [hW]; exact Y.cls x h
  exs := Y.exs
theorem def_ok (Y : Known P w K ca mg base S) {x qual : Str} {st : Stmt} {dvs : List V} {kws : List (Str × V)} {f : Addr} {fd : FuncData} {N ps : List Str} {ne n : Nat} (F : FunD K.K x qual (defArgs st) (defBody st) (defScope st) dvs kws f fd)
    (SF : FnScope N ps (defScope st)) (hn : ps.length ≤ N.length) (hN : S.N = N) (hsc : S.sc = defScope st) : FnOk P w K.K mg base (L2N.CX P w) (S.lvl + 1) f fd ps (spOf K ca ps.length (semF ps.length N.length (exS S ne n (defBody st)))) :=
  fn_ok F SF hn fun cdv A outer s H E W hW hr => exS_ok (cpt_of Y hN hsc SF.nd hW hr) (fun _ => rfl) ne n (defBody st)
end
section
variable {α : Type} {p : Str → α → Prop}
theorem look_nil (x : Str) (e : α) (h : ([] : List (Str × α)).lookup x = some e) : p x e := by cases h
theorem look_cons {a : Str} {e0 : α} {l : List (Str × α)} (h0 : p a e0) (hl : ∀ x e, l.lookup x = some e → p x e) (x : Str) (e : α) (h : ((a, e0) :: l).lookup x = some e) : p x e := by
  rw [List.lookup_cons] at h
  split at h
  · rename_i q
    cases h
    rw [beq_iff_eq.mp q]
    exact h0
  · exact hl x e h
end
end DI
set_option maxRecDepth 100000
set_option maxHeartbeats 4000000
namespace DI
open PySem PySem.Spec PyProof.Rows L2

/-! ### what class a caught error is of; its field -/
/-- what isinstance asks of an error's class -/
structure EisC (K : PySem.W.Frag) (A : Addr) : Prop where
  kl : PySem.W.findIn K (.ref A) "__class__" = some (some (.builtin "object.__class__"))
  gs : PySem.W.specialIn K (.builtin "object.__class__") "__get__" = some (some (.builtin "getset_descriptor.__get__"))
  tk : PySem.W.takesIn K (.builtin "object.__class__") = some true
  ob : PySem.W.mroIn K A (.type "object") = some true
section
variable {prog : Program} {w : World} {A : Around} {E : Value → Shared → Prop} {s : Shared} {K : PySem.W.Frag} {x D f : Addr} {ox : Obj} {od : Obj}
open PySem.W in
theorem err_class {Q : Option Value → Shared → Prop} (T : EkC K D f) (U : EisC K D) (kin : K.In s.heap) (J : InstAt s.heap x ox D (some od)) (go : Q (some (.ref D)) { s with toks := s.toks + 1 }) : wpAny (model prog w) A (getAttr? (.ref x) "__class__") Q E s := by
  have cls : (clsIn K D).isSome = true := by
    obtain ⟨cd, hc, _⟩ := any_some T.hd
    rw [hc]
    rfl
  have found : findObj K D (some od) "__class__" = some (.bind (.builtin "getset_descriptor.__get__") (.builtin "object.__class__")) := findObj_data cls U.kl U.gs U.tk
  obtain ⟨hp, g, d, t, os⟩ := s
  have ty := J.type (M := model prog w)
  have l1 := looks_findIn (M := model prog w) kin T.ga
  have l2 := looks_findIn (M := model prog w) kin T.gg
  have l3 := looks_find (M := model prog w) kin J found
  have isB : Looks (model prog w) hp (isInstance (.ref x) (.type "BaseException")) true := ty.andThen (looks_subIn kin T.be)
  have n1 : (false && onTheHeap (Value.builtin "BaseException.__getattribute__")) = false := rfl
  have n2 : (onTheHeap (Value.ref D) && Value.builtin "BaseException.__getattribute__" == Value.builtin "object.__getattribute__") = false := by
    have e : (Value.builtin "BaseException.__getattribute__" == Value.builtin "object.__getattribute__") = false := by decide +kernel
    rw [e]
    rfl
  unfold getAttr? getAttrBy? getAttrBy
  refine wpAny_bind (wpAny_mkText (wpAny_bind (wpAny_attempt (wpAny_holding (wpAny_bind (ty.at (wpAny_bind (l1.at ?_))))))))
  show wpAny _ _ (if (onTheHeap (Value.ref D) && Value.builtin "BaseException.__getattribute__" == Value.builtin "object.__getattribute__") = true then _ else _) _ _ _
  rw [n2, if_neg Bool.false_ne_true]
  unfold getAttrByItsOwn hookBefore
  refine wpAny_bind ?_
  rw [if_pos (show onTheHeap (Value.ref D) = true from rfl)]
  refine l2.at (wpAny_bind (wpAny_attempt (wpAny_holding ?_)))
  unfold callGetattribute
  rw [n1, if_neg Bool.false_ne_true]
  unfold boundAndCalled
  rw [PySem.F.excAttr_ValueError.ga.bind (.ref x)]
  refine wpAny_bind (wpAny_pure ?_)
  show wpAny _ _ (call (.builtin "BaseException.__getattribute__") [.ref x, .str "__class__" t]) _ _ _
  refine wpAny_call (codeAny_call_builtin PySem.F.excAttr_ValueError.ga.plain PySem.F.entry_bexc_ga (@check_slot (model prog w) _ _ ⟨hp, g, d, t + 1, os⟩ "BaseException.__getattribute__" "BaseException" "__getattribute__" (.ref x) [.str "__class__" t] [] _ (by decide +kernel) (by decide +kernel) isB (PySem.F.args_bexc_ga (.ref x) (.str "__class__" t)) ?_))
  unfold Builtin.«object.__getattribute__»
  refine wpAny_bind (wpAny_of_eq (a := ((Value.ref x : Value), [Value.str "__class__" t])) (by first | rfl | (simp only [slotArgs]; rfl)) ?_)
  refine wpAny_bind (wpAny_pure (wpAny_bind (ty.at (wpAny_bind (l3.at ?_)))))
  show wpAny _ _ (holding [Value.builtin "object.__class__"] (call (.builtin "getset_descriptor.__get__") [.builtin "object.__class__", .ref x, .ref D]) >>= PySem.ret) _ _ _
  refine wpAny_bind (wpAny_holding (wpAny_call (class_get (s := ⟨hp, g, d, t + 1, os⟩) (ox := ox) (od := some od) kin J U.ob (wpAny_pure ?_))))
  show wpAny _ _ (handedOut (.ref D)) _ _ _
  rw [handedOut_of (v := .ref D) rfl]
  first
    | exact wpAny_pure (wpAny_pure go)
    | exact wpAny_pure go
    | exact wpAny_pure (wpAny_bind (wpAny_pure (wpAny_pure go)))
theorem err_kit (T : EkC K D f) (U : EisC K D) : PySem.W.KitX K (.ref x) (.ref D) (fun h => PySem.W.InstAt h x ox D (some od)) := by
  obtain ⟨cd, hc, _⟩ := PySem.W.any_some T.hd
  unfold PySem.W.clsIn at hc
  split at hc
  · rename_i c1 d1 cd1 sl1 there
    refine ⟨fun _ _ _ J => J.type, fun _ h kin _ => ?_, fun h tp dd its n sl kin htp => ?_, fun kin J k => err_class T U kin J k⟩
    · intro A' Q' E' s' k q
      unfold isType loadHead
      exact wpAny_bind (wpAny_loadPart (k _ _ (kin _ _ there)) (wpAny_pure q))
    · refine Bool.eq_false_iff.mpr fun q => ?_
      have e : D = tp := Value.ref.inj (beq_iff_eq.mp q)
      subst e
      have z := (kin _ _ there).symm.trans htp
      cases z
  · cases hc
end
/-- isinstance(error, c), error the one that the suite holds -/
def rErr (K : PySem.W.Frag) (a : Addr) (cls : Value) (d : Option Addr) : List V → Hp → VK → Prop := fun xs H Q => ∃ (D f dd : Addr) (fs : List (Str × V)) (c : V) (cv : Value) (b : Bool), cls = .ref D ∧ d = some dd ∧ EkC K D f ∧ EisC K D ∧ H dd = some (.xd fs) ∧ xs = [.ref a, c] ∧
  (∀ u, RelV c u → u = cv) ∧ PySem.W.kitOne K (.ref D) cv = some b ∧ Q (.bl b) H
theorem err_at {X : Cx} {pins : List (Addr × Obj)} {σ : L2.St} {H : Hp} {s : Shared} {a D dd : Addr} {oe : Obj} {fs : List (Str × V)} {pn : List (Addr × Obj)} (I : Inv (X.suite a ((a, oe) :: pn)) pins σ H s) (hc : oe.cls = .ref D) (hd : oe.dict = some dd) (hf : ∃ vs, oe.data = .fields vs)
    (ht : H dd = some (.xd fs)) : ∃ od, PySem.W.InstAt s.heap a oe D (some od) ∧ ∃ mA : Str → Option Value, (∀ z, RelO (fs.lookup z) (mA z)) ∧ ∀ z, PySem.W.lookIn z od = some (mA z) := by
  obtain ⟨hget, _⟩ := I.pin (a, oe) (List.mem_append.mpr (.inl List.mem_cons_self))
  obtain ⟨vs, hv⟩ := hf
  have x : ObjOk X.prog X.w H s.heap dd (.xd fs) := I.hok dd _ ht
  obtain ⟨mA, hns, hr⟩ := x
  obtain ⟨od, ho, hl⟩ := lookIn_ns hns
  refine ⟨od, ⟨hget, hc, ?_, ?_⟩, mA, hr, hl⟩
  · unfold PySem.W.notCls
    rw [hv]
  · rw [hd]
    exact ho
theorem call_isErr {X : Cx} {a : Addr} {oe : Obj} {cls : Value} {d : Option Addr} {pn : List (Addr × Obj)} (hz : Zc cls d oe) (hf : ∃ vs, oe.data = .fields vs) : CallR (X.suite a ((a, oe) :: pn)) (.builtin "isinstance") (rErr X.K a cls d) := by
  intro pins s σ H xs us Q I r h
  obtain ⟨D, f, dd, fs, c, cv, b, ec, ed, T, U, ht, ex, hcv, e, q⟩ := h
  subst ec ed ex
  cases r with
  | cons rx rr =>
  cases rr with
  | cons rc rn =>
  cases rn
  cases rx
  have eu := hcv _ rc
  subst eu
  obtain ⟨od, J, _⟩ := err_at I hz.1 hz.2 hf ht
  exact PySem.W.kia_one (err_kit T U) I.kIn J e (fun z => nomatch z) fun tk => ⟨.bl b, H, I.kept (t' := tk) fun _ _ z => z, rfl, q⟩
/-- error.at -/
def tErrAt (K : PySem.W.Frag) (a : Addr) (cls : Value) (d : Option Addr) (te : TE) : TE := fun σ H Q => te σ H fun x H1 => ∃ (D f dd : Addr) (fs : List (Str × V)) (v : V), x = .ref a ∧ cls = .ref D ∧ d = some dd ∧ EkC K D f ∧ H1 dd = some (.xd fs) ∧ fs.lookup ("at" : Str) = some v ∧ Q v H1
theorem pe_errAt {X : Cx} {a : Addr} {oe : Obj} {cls : Value} {d : Option Addr} {pn : List (Addr × Obj)} {e : Expr} {te : TE} {pos : Pos} (hz : Zc cls d oe) (hf : ∃ vs, oe.data = .fields vs) (he : PE (X.suite a ((a, oe) :: pn)) e te) (hb : attributeBase e "at" X.env (eval e X.env) = eval e X.env := by rfl) :
    PE (X.suite a ((a, oe) :: pn)) (.Attribute e "at" pos) (tErrAt X.K a cls d te) := by
  constructor
  intro pins s σ H Q I h
  refine attr_of hb (thn (he.run pins s σ H _ I h) fun u s1 hu => ?_)
  obtain ⟨x, H1, I1, rx, D, f, dd, fs, v, ex, ec, ed, T, ht, hl, q⟩ := hu
  subst ex ec ed
  obtain rfl : u = Value.ref a := rx
  obtain ⟨od, J, mA, hr, look⟩ := err_at I1 hz.1 hz.2 hf ht
  obtain ⟨u, hu, ru⟩ := RelO.some_of (v := v) (o := mA ("at" : Str)) (by rw [← hl]; exact hr _)
  exact HandSPX.exc_get I1.kIn J T.ga T.gg T.be (PySem.W.findObj_own T.hd T.na rfl (by rw [look, hu])) (handed_of ru) ⟨v, H1, I1.tok _, ru, q⟩
end DI
set_option maxRecDepth 100000
set_option maxHeartbeats 4000000
namespace DI
open PySem PySem.Spec PyProof.Rows L2 He

/-! ### the head's facts: defs, names, and one question of one's own -/
abbrev AlB : Type := AlD × Bool
def SaysB (fa : List Fa) (fn : List DefD) (ex : PySem.W.Frag → Bool) (K : PySem.W.Frag) : Prop := SaysD fa fn K ∧ ex K = true
def obsB (n : Nat) (fa : List Fa) (fn : List DefD) (ex : PySem.W.Frag → Bool) (g : Addr → Option Obj) : AlB := (obsDG n fa fn g, ex (frG g (asD g n)))
def hookB (n : Nat) (fa : List Fa) (fn : List DefD) (ex : PySem.W.Frag → Bool) : PySem.W.Hook where
  α := AlB
  obs := fun s => obsB n fa fn ex s.heap.get?
  val := fun _ => (He.valD fn, true)
  says := fun _ h => ∃ K : PySem.W.Frag, K.In h ∧ SaysB fa fn ex K
  of := fun _ _ e => ⟨_, frG_in, congrArg Prod.fst e, congrArg Prod.snd e⟩
  keeps := fun _ _ _ ⟨K, kin, c⟩ k => ⟨K, PySem.W.Frag.In.keeps kin k, c⟩
theorem obsB_eq {n : Nat} {fa : List Fa} {fn : List DefD} {ex : PySem.W.Frag → Bool} {g : Addr → Option Obj} {s : Shared} (h : ∀ a, g a = s.heap.get? a) : obsB n fa fn ex g = (hookB n fa fn ex).obs s := by
  have e : g = s.heap.get? := funext h
  subst e
  rfl
section
variable {fa : List Fa} {fn : List DefD} {ex : PySem.W.Frag → Bool} {K : PySem.W.Frag} {h : Heap} {mg : Str → Option Value}
theorem says_glo (kin : K.In h) (G : h.Ns mainGlobals mg) (c : SaysB fa fn ex K) {x : Str} (m : Fa.glo x ∈ fa) : mg x = some (.ref (ga K x)) := by
  obtain ⟨i, hi, e⟩ := List.mem_iff_getElem.mp m
  exact glo_ok kin G (c.1.fact i (by rw [List.getElem?_eq_getElem hi, e]))
theorem says_free (kin : K.In h) (G : h.Ns mainGlobals mg) (c : SaysB fa fn ex K) {x : Str} (m : Fa.free x ∈ fa) : mg x = none := by
  obtain ⟨i, hi, e⟩ := List.mem_iff_getElem.mp m
  exact free_ok kin G (c.1.fact i (by rw [List.getElem?_eq_getElem hi, e]))
end
/-- an error's class: all that is asked of it -/
def ekB (K : PySem.W.Frag) (A f : Addr) : Bool :=
  PySem.W.excInitIn K A exT "Exception.__new__" && (PySem.W.excOver K A exT && (decide (PySem.W.findIn K (.ref A) "__setattr__" = some (some (.builtin "object.__setattr__"))) &&
  (decide (PySem.W.subIn K (.ref A) (.type "BaseException") = some true) && (decide (PySem.W.typeIn K (.ref A) = some (.type "type")) && (PySem.W.keepIn K (.ref A) && (PySem.W.hasDictIn K A &&
  (decide (PySem.W.findIn K (.ref A) "at" = some none) && (decide (PySem.W.findIn K (.ref A) "__init__" = some (some (.ref f))) && (decide (PySem.W.typeIn K (.ref f) = some (.type "function")) &&
  (decide (PySem.W.findIn K (.ref A) "__getattribute__" = some (some (.builtin "BaseException.__getattribute__"))) && decide (PySem.W.findIn K (.ref A) "__getattr__" = some none)))))))))))
theorem ekB_ok {K : PySem.W.Frag} {A f : Addr} (h : ekB K A f = true) : EkC K A f := by
  unfold ekB at h
  simp only [Bool.and_eq_true, decide_eq_true_eq] at h
  obtain ⟨h1, h2, h3, h4, h5, h6, h7, h8, h9, h10, h11, h12⟩ := h
  exact ⟨h1, h2, h3, h4, h5, h6, h7, h8, h9, h10, h11, h12⟩
def eisB (K : PySem.W.Frag) (A : Addr) : Bool := decide (PySem.W.findIn K (.ref A) "__class__" = some (some (.builtin "object.__class__"))) && (decide (PySem.W.specialIn K (.builtin "object.__class__") "__get__" = some (some (.builtin "getset_descriptor.__get__"))) &&
  (decide (PySem.W.takesIn K (.builtin "object.__class__") = some true) && decide (PySem.W.mroIn K A (.type "object") = some true)))
theorem eisB_ok {K : PySem.W.Frag} {A : Addr} (h : eisB K A = true) : EisC K A := by
  unfold eisB at h
  simp only [Bool.and_eq_true, decide_eq_true_eq] at h
  obtain ⟨h1, h2, h3, h4⟩ := h
  exact ⟨h1, h2, h3, h4⟩
end DI
set_option maxRecDepth 100000
set_option maxHeartbeats 4000000
namespace K0
open PySem PySem.Spec PyProof.Rows L2 DI
def top (i : Nat) : Stmt := PySem.Challenge.pw_pagesonce_k00_errors.main.body.getD i (.Pass ⟨0, 0, 0, 0⟩)
def blts : List Str := ["len", "int", "range", "isinstance", "tuple", "bool", "str"]
def blt0 (x : Str) : Bool := blts.contains x
def con0 (_ : Str) : Option D := none
def cls0 (_ : Str) : Bool := false
def exns : List Str := ["BadValue", "BadLine", "BadSyntax"]
def exn0 (x : Str) : Bool := exns.contains x
/-! ### _law_numbers -/
abbrev N__law_numbers : List Str := ["script", "row", "cell", "left", "k", "mixed"]
def fns__law_numbers : List (Str × FE) := []
def S__law_numbers : SC := ⟨N__law_numbers, defScope (top 7), 0, blt0, con0, fun x => (fns__law_numbers).lookup x, cls0, (fun _ => false), 0⟩
def bd__law_numbers : SDen := exS S__law_numbers 20 20 (defBody (top 7))
theorem bd__law_numbers_eq : bd__law_numbers = (seqS (asgS 1 (lstV (ret []))) (seqS (forS (frzD (slcV (slotC 0) noPart (part (frzD (ret (.val (.int 63))))))) (.name 2)
    (seqS (ifS (cmpB .GtE (frzD (slotV 2)) (coD (frzD (binV .Pow (coD (frzD (ret (.val (.int 10))))) (coD (frzD (ret (.val (.int 18)))))))))
    (seqS (asgS 3 (slotV 2)) (seqS (forR1 (frzD (ret (.val (.int 60)))) (.name 4)
    (seqS (ifS (cmpB .Eq (frzD (slotV 3)) (coD (frzD (ret (.val (.int 0))))))
    (seqS brkS nextS)
    nextS) (seqS (appS 1 (frzD (binV .Mod (coD (frzD (callA intD (consA (frzD (slotV 3)) (ret []))))) (coD (frzD (ret (.val (.int 997)))))))) (seqS (asgS 3 (binV .FloorDiv (slotC 3) (coD (frzD (ret (.val (.int 997))))))) nextS)))) nextS))
    (seqS (forR1 (frzD (ret (.val (.int 4)))) (.name 4)
    (seqS (asgS 5 (binV .Mod (coD (frzD (callA intD (consA (frzD (binV .Add (coD (frzD (binV .Add (coD (frzD (binV .Mult (slotC 2) (coD (frzD (ret (.val (.int 48271)))))))) (coD (frzD (binV .Mult (slotC 4) (coD (frzD (ret (.val (.int 69621))))))))))) (coD (frzD (ret (.val (.int 11))))))) (ret []))))) (coD (frzD (ret (.val (.int 2147483647))))))) (seqS (appS 1 (frzD (binV .Mod (coD (frzD (callA intD (consA (frzD (binV .Add (coD (frzD (binV .Mult (slotC 5) (coD (frzD (ret (.val (.int 16807)))))))) (slotC 4))) (ret []))))) (coD (frzD (ret (.val (.int 2147483629)))))))) nextS))) nextS)) nextS)) (seqS (ifS (cmpB .Eq (frzD (call1C lenD (slotC 1))) (coD (frzD (ret (.val (.int 0))))))
    (seqS (appS 1 (frzD (ret (.val (.int 0))))) nextS)
    nextS) (seqS (retN 1) nextS)))) := by kernel_rfl
def f__law_numbers : FM := semF 1 6 bd__law_numbers
theorem sc__law_numbers : FnScope N__law_numbers ["script"] (defScope (top 7)) := ⟨rfl, rfl, rfl, by decide +kernel, rfl, by decide +kernel, by decide +kernel⟩

/-! ### _law_draw -/
abbrev N__law_draw : List Str := ["row", "at", "limit", "mixed"]
def fns__law_draw : List (Str × FE) := []
def S__law_draw : SC := ⟨N__law_draw, defScope (top 8), 0, blt0, con0, fun x => (fns__law_draw).lookup x, cls0, (fun _ => false), 0⟩
def bd__law_draw : SDen := exS S__law_draw 20 20 (defBody (top 8))
theorem bd__law_draw_eq : bd__law_draw = (seqS (ifS (cmpB .Lt (frzD (slotV 1)) (coD (frzD (call1C lenD (slotC 0)))))
    (seqS (retS (binV .Mod (coD (frzD (callA intD (consA (frzD (ixV (slotC 0) (frzD (slotV 1)))) (ret []))))) (slotC 2))) nextS)
    nextS) (seqS (asgS 3 (binV .Mod (coD (frzD (callA intD (consA (frzD (binV .Add (coD (frzD (binV .Add (coD (frzD (binV .Mult (coD (frzD (ixV (slotC 0) (frzD (binV .Mod (coD (frzD (callA intD (consA (frzD (slotV 1)) (ret []))))) (coD (frzD (call1C lenD (slotC 0))))))))) (coD (frzD (ret (.val (.int 40692)))))))) (coD (frzD (binV .Mult (slotC 1) (coD (frzD (ret (.val (.int 7919))))))))))) (coD (frzD (ret (.val (.int 3))))))) (ret []))))) (coD (frzD (ret (.val (.int 2147483399))))))) (seqS (retS (binV .Mod (coD (frzD (callA intD (consA (frzD (binV .Mod (coD (frzD (callA intD (consA (frzD (binV .Add (coD (frzD (binV .Mult (slotC 3) (coD (frzD (ret (.val (.int 48271)))))))) (slotC 1))) (ret []))))) (coD (frzD (ret (.val (.int 2147483647))))))) (ret []))))) (slotC 2))) nextS))) := by kernel_rfl
def f__law_draw : FM := semF 3 4 bd__law_draw
theorem sc__law_draw : FnScope N__law_draw ["row", "at", "limit"] (defScope (top 8)) := ⟨rfl, rfl, rfl, by decide +kernel, rfl, by decide +kernel, by decide +kernel⟩

/-! ### _law_take -/
abbrev N__law_take : List Str := ["row", "spot", "limit"]
def fns__law_take : List (Str × FE) := [(("_law_draw" : Str), ⟨3, [false, false, false], f__law_draw⟩)]
def S__law_take : SC := ⟨N__law_take, defScope (top 9), 1, blt0, con0, fun x => (fns__law_take).lookup x, cls0, (fun _ => false), 0⟩
def bd__law_take : SDen := exS S__law_take 20 20 (defBody (top 9))
theorem bd__law_take_eq : bd__law_take = (seqS (setIxS (frzD (binV .Add (coD (frzD (ixV (slotC 1) (frzD (ret (.val (.int 0))))))) (coD (frzD (ret (.val (.int 1))))))) 1 (frzD (ret (.val (.int 0))))) (seqS (retS (bnd (consC (coD (frzD (slotV 0))) (consC (coD (frzD (binV .Sub (coD (frzD (ixV (slotC 1) (frzD (ret (.val (.int 0))))))) (coD (frzD (ret (.val (.int 1)))))))) (consC (coD (frzD (slotV 2))) nilC))) (runFn 3 f__law_draw))) nextS)) := by kernel_rfl
def f__law_take : FM := semF 3 3 bd__law_take
theorem sc__law_take : FnScope N__law_take ["row", "spot", "limit"] (defScope (top 9)) := ⟨rfl, rfl, rfl, by decide +kernel, rfl, by decide +kernel, by decide +kernel⟩

/-! ### _law_wide -/
abbrev N__law_wide : List Str := ["row", "spot", "limit", "first", "second", "third"]
def fns__law_wide : List (Str × FE) := [(("_law_take" : Str), ⟨3, [false, true, false], f__law_take⟩)]
def S__law_wide : SC := ⟨N__law_wide, defScope (top 10), 2, blt0, con0, fun x => (fns__law_wide).lookup x, cls0, (fun _ => false), 0⟩
def bd__law_wide : SDen := exS S__law_wide 20 20 (defBody (top 10))
theorem bd__law_wide_eq : bd__law_wide = (seqS (asgS 3 (bnd (consC (coD (frzD (slotV 0))) (consC (slotC 1) (consC (coD (frzD (ret (.val (.int 997))))) nilC))) (runFn 3 f__law_take))) (seqS (asgS 4 (bnd (consC (coD (frzD (slotV 0))) (consC (slotC 1) (consC (coD (frzD (ret (.val (.int 997))))) nilC))) (runFn 3 f__law_take))) (seqS (asgS 5 (bnd (consC (coD (frzD (slotV 0))) (consC (slotC 1) (consC (coD (frzD (ret (.val (.int 997))))) nilC))) (runFn 3 f__law_take))) (seqS (retS (binV .Mod (coD (frzD (callA intD (consA (frzD (binV .Add (coD (frzD (binV .Add (coD (frzD (binV .Mult (slotC 3) (coD (frzD (ret (.val (.int 994009)))))))) (coD (frzD (binV .Mult (slotC 4) (coD (frzD (ret (.val (.int 997))))))))))) (slotC 5))) (ret []))))) (slotC 2))) nextS)))) := by kernel_rfl
def f__law_wide : FM := semF 3 6 bd__law_wide
theorem sc__law_wide : FnScope N__law_wide ["row", "spot", "limit"] (defScope (top 10)) := ⟨rfl, rfl, rfl, by decide +kernel, rfl, by decide +kernel, by decide +kernel⟩

/-! ### _law_raised -/
abbrev N__law_raised : List Str := ["kind", "value"]
def fns__law_raised : List (Str × FE) := []
def S__law_raised : SC := ⟨N__law_raised, defScope (top 11), 2, blt0, con0, fun x => (fns__law_raised).lookup x, cls0, exn0, 0⟩
def bd__law_raised : SDen := exS S__law_raised 20 20 (defBody (top 11))
theorem bd__law_raised_eq : bd__law_raised = (seqS (ifS (cmpB .Eq (frzD (slotV 0)) (coD (frzD (ret (.val (.int 0))))))
    (seqS (raiseS ("BadValue" : Str) (frzD (slotV 1))) nextS)
    nextS) (seqS (ifS (cmpB .Eq (frzD (slotV 0)) (coD (frzD (ret (.val (.int 1))))))
    (seqS (raiseS ("BadLine" : Str) (frzD (slotV 1))) nextS)
    nextS) (seqS (raiseS ("BadSyntax" : Str) (frzD (slotV 1))) nextS))) := by kernel_rfl
def f__law_raised : FM := semF 2 2 bd__law_raised
theorem sc__law_raised : FnScope N__law_raised ["kind", "value"] (defScope (top 11)) := ⟨rfl, rfl, rfl, by decide +kernel, rfl, by decide +kernel, by decide +kernel⟩

end K0
set_option maxRecDepth 100000
set_option maxHeartbeats 4000000
namespace K0
open PySem PySem.Spec PyProof.Rows L2 DI
section
def drawP (xs : List Int) (a l : Int) : Int :=
  if a < xs.length then xs.getD a.toNat 0 % l else ((xs.getD (a % xs.length).toNat 0 * 40692 + a * 7919 + 3) % 2147483399 * 48271 + a) % 2147483647 % l
theorem atI_map {xs : List Int} {i : Int} (h0 : 0 ≤ i) (h1 : i < xs.length) : L2.atI (xs.map D.int) i = some (.int (xs.getD i.toNat 0)) := by
  have e : ixN (xs.map D.int).length i = some i.toNat := by
    unfold ixN
    rw [if_pos h0, if_pos (by simpa using h1)]
  unfold L2.atI
  rw [e]
  have hl : i.toNat < xs.length := by omega
  simp [hl]
theorem draw_is {xs : List Int} {a l : Int} (h0 : 0 ≤ a) (hl : 0 < l) (hn : xs ≠ []) :
    f__law_draw [.val (.lst (xs.map .int)), .val (.int a), .val (.int l)] = some (.ret (.val (.int (drawP xs a l))) []) := by
  unfold f__law_draw
  rw [bd__law_draw_eq]
  unfold drawP
  have hp : 0 < (xs.length : Int) := by
    cases xs with
    | nil => exact absurd rfl hn
    | cons x r => simp
  have hp2 : 0 < xs.length := by omega
  by_cases h1 : a < xs.length
  · have e := atI_map h0 h1
    simp [h1, hl, e]
  · have e := atI_map (xs := xs) (i := a % xs.length) (Int.emod_nonneg _ (by omega)) (Int.emod_lt_of_pos _ hp)
    simp [h1, hp, hp2, hl, e]
end
end K0
set_option maxRecDepth 100000
set_option maxHeartbeats 4000000
namespace K0
open PySem PySem.Spec PyProof.Rows L2 DI
section
def digs : Nat → Int → List Int
  | 0, _ => []
  | n + 1, l => if l = 0 then [] else l % 997 :: digs n (l / 997)
theorem digs_len : ∀ (n : Nat) (l : Int), (digs n l).length ≤ n
  | 0, l => by simp [digs]
  | n + 1, l => by
    unfold digs
    split
    · simp
    · have := digs_len n (l / 997)
      simp; omega
def mixP (c : Int) (k : Int) : Int := ((c * 48271 + k * 69621 + 11) % 2147483647 * 16807 + k) % 2147483629
def cellP (c : Int) : List Int := if 10 ^ 18 ≤ c then digs 60 c else [mixP c 0, mixP c 1, mixP c 2, mixP c 3]
theorem cellP_len (c : Int) : (cellP c).length ≤ 60 := by
  unfold cellP
  split
  · exact digs_len 60 c
  · simp
def rowP (ns : List Int) : List Int := ns.flatMap cellP
def numP (ns : List Int) : List Int := if rowP (ns.take 63) = [] then [0] else rowP (ns.take 63)
theorem numP_ne (ns : List Int) : numP ns ≠ [] := by
  unfold numP
  split
  · simp
  · assumption
/-- not handed by reference -/
def Nr (s : Sl) : Prop := ∀ m, s ≠ .ref m
def bdDig : SDen := seqS (ifS (cmpB .Eq (frzD (slotV 3)) (coD (frzD (DI.ret (.val (.int 0)))))) (seqS brkS nextS) nextS)
  (seqS (appS 1 (frzD (binV .Mod (coD (frzD (callA DI.intD (consA (frzD (slotV 3)) (DI.ret []))))) (coD (frzD (DI.ret (.val (.int 997)))))))) (seqS (asgS 3 (binV .FloorDiv (slotC 3) (coD (frzD (DI.ret (.val (.int 997))))))) nextS))
theorem dig_loop : ∀ (ds : List D) (row : List Int) (l : Int) (sc : D) (s2 s4 s5 : Sl), Nr s4 → row.length + ds.length ≤ 99999 →
    ∃ s3 s4', Nr s3 ∧ Nr s4' ∧ forL bdDig (.name 4) ds [.val sc, .own (.lst (row.map .int)), s2, .val (.int l), s4, s5] = some (.next [.val sc, .own (.lst ((row ++ digs ds.length l).map .int)), s2, s3, s4', s5])
  | [], row, l, sc, s2, s4, s5, h4, hl => ⟨.val (.int l), s4, (fun m z => by cases z), h4, by simp [forL, digs]⟩
  | d :: ds, row, l, sc, s2, s4, s5, h4, hl => by
    have st : storeV 4 d [.val sc, .own (.lst (row.map .int)), s2, .val (.int l), s4, s5] = some [.val sc, .own (.lst (row.map .int)), s2, .val (.int l), .val d, s5] := by
      unfold storeV
      cases s4 with
      | ref m => exact absurd rfl (h4 m)
      | _ => rfl
    unfold forL
    rw [show stT (.name 4) d [.val sc, .own (.lst (row.map .int)), s2, .val (.int l), s4, s5] = _ from st]
    by_cases z : l = 0
    · subst z
      refine ⟨.val (.int 0), .val d, fun m z => ?_, fun m z => ?_, ?_⟩
      · cases z
      · cases z
      · simp [bdDig, digs]
    · obtain ⟨s3, s4', n3, n4, e⟩ := dig_loop ds (row ++ [l % 997]) (l / 997) sc s2 (.val d) s5 (fun m z => by cases z) (by simp at hl ⊢; omega)
      refine ⟨s3, s4', n3, n4, ?_⟩
      have hlt : row.length < 100000 := by simp at hl; omega
      simp [bdDig, digs, z, hlt]
      simpa [bdDig] using e
def bdMix : SDen := seqS (asgS 5 (binV .Mod (coD (frzD (callA DI.intD (consA (frzD (binV .Add (coD (frzD (binV .Add (coD (frzD (binV .Mult (slotC 2) (coD (frzD (DI.ret (.val (.int 48271)))))))) (coD (frzD (binV .Mult (slotC 4) (coD (frzD (DI.ret (.val (.int 69621))))))))))) (coD (frzD (DI.ret (.val (.int 11))))))) (DI.ret []))))) (coD (frzD (DI.ret (.val (.int 2147483647)))))))
  (seqS (appS 1 (frzD (binV .Mod (coD (frzD (callA DI.intD (consA (frzD (binV .Add (coD (frzD (binV .Mult (slotC 5) (coD (frzD (DI.ret (.val (.int 16807)))))))) (slotC 4))) (DI.ret []))))) (coD (frzD (DI.ret (.val (.int 2147483629)))))))) nextS)
theorem mix_turn {k : Int} {row : List Int} {c : Int} {sc : D} {s3 s5 : Sl} (h5 : Nr s5) (hl : row.length < 100000) :
    bdMix [.val sc, .own (.lst (row.map .int)), .val (.int c), s3, .val (.int k), s5] = some (.next [.val sc, .own (.lst ((row ++ [mixP c k]).map .int)), .val (.int c), s3, .val (.int k), .val (.int ((c * 48271 + k * 69621 + 11) % 2147483647))]) := by
  cases s5 with
  | ref m => exact absurd rfl (h5 m)
  | no => simp [bdMix, hl, mixP]
  | val d => simp [bdMix, hl, mixP]
  | own m => simp [bdMix, hl, mixP]
theorem mix_loop : ∀ (ks : List Int) (row : List Int) (c : Int) (sc : D) (s3 s4 s5 : Sl), Nr s4 → Nr s5 → row.length + ks.length ≤ 99999 →
    ∃ s4' s5', Nr s4' ∧ Nr s5' ∧ forL bdMix (.name 4) (ks.map .int) [.val sc, .own (.lst (row.map .int)), .val (.int c), s3, s4, s5] = some (.next [.val sc, .own (.lst ((row ++ ks.map (mixP c)).map .int)), .val (.int c), s3, s4', s5'])
  | [], row, c, sc, s3, s4, s5, h4, h5, hl => ⟨s4, s5, h4, h5, by simp [forL]⟩
  | k :: ks, row, c, sc, s3, s4, s5, h4, h5, hl => by
    have st : storeV 4 (.int k) [.val sc, .own (.lst (row.map .int)), .val (.int c), s3, s4, s5] = some [.val sc, .own (.lst (row.map .int)), .val (.int c), s3, .val (.int k), s5] := by
      unfold storeV
      cases s4 with
      | ref m => exact absurd rfl (h4 m)
      | _ => rfl
    obtain ⟨s4', s5', n4, n5, e⟩ := mix_loop ks (row ++ [mixP c k]) c sc s3 (.val (.int k)) (.val (.int ((c * 48271 + k * 69621 + 11) % 2147483647))) (fun m z => by cases z) (fun m z => by cases z) (by simp at hl ⊢; omega)
    refine ⟨s4', s5', n4, n5, ?_⟩
    rw [List.map_cons]
    unfold forL
    rw [show stT (.name 4) (.int k) [.val sc, .own (.lst (row.map .int)), .val (.int c), s3, s4, s5] = _ from st]
    dsimp only
    rw [mix_turn h5 (by simp at hl; omega)]
    dsimp only
    rw [e]
    simp
def bdCell : SDen := seqS (ifS (cmpB .GtE (frzD (slotV 2)) (coD (frzD (binV .Pow (coD (frzD (DI.ret (.val (.int 10))))) (coD (frzD (DI.ret (.val (.int 18)))))))))
  (seqS (asgS 3 (slotV 2)) (seqS (forR1 (frzD (DI.ret (.val (.int 60)))) (.name 4) bdDig) nextS))
  (seqS (forR1 (frzD (DI.ret (.val (.int 4)))) (.name 4) bdMix) nextS)) nextS
theorem rng4 : rngL 0 4 = [0, 1, 2, 3].map D.int := by rfl
theorem cell_turn {row : List Int} {c : Int} {sc : D} {s3 s4 s5 : Sl} (h3 : Nr s3) (h4 : Nr s4) (h5 : Nr s5) (hl : row.length + 60 ≤ 99999) :
    ∃ s3' s4' s5', Nr s3' ∧ Nr s4' ∧ Nr s5' ∧ bdCell [.val sc, .own (.lst (row.map .int)), .val (.int c), s3, s4, s5] = some (.next [.val sc, .own (.lst ((row ++ cellP c).map .int)), .val (.int c), s3', s4', s5']) := by
  have h3' : storeR 3 (.val (.int c)) [.val sc, .own (.lst (row.map .int)), .val (.int c), s3, s4, s5] = some [.val sc, .own (.lst (row.map .int)), .val (.int c), .val (.int c), s4, s5] := by
    unfold storeR
    cases s3 with
    | ref m => exact absurd rfl (h3 m)
    | _ => rfl
  by_cases hc : 10 ^ 18 ≤ c
  · obtain ⟨s3', s4', n3, n4, e⟩ := dig_loop (rngL 0 60) row c sc (.val (.int c)) s4 s5 h4 (by simp [rngL]; omega)
    refine ⟨s3', s4', s5, n3, n4, h5, ?_⟩
    rw [rngL_len] at e
    have hc2 : (1000000000000000000 : Int) ≤ c := hc
    have hk : cellP c = digs 60 c := if_pos hc
    rw [hk]
    simp [-ev_storeR, bdCell, hc2, h3', rngOk, e]
  · obtain ⟨s4', s5', n4, n5, e⟩ := mix_loop [0, 1, 2, 3] row c sc s3 s4 s5 h4 h5 (by simp; omega)
    refine ⟨s3, s4', s5', h3, n4, n5, ?_⟩
    rw [← rng4] at e
    have hc2 : ¬ (1000000000000000000 : Int) ≤ c := hc
    have hk : cellP c = [0, 1, 2, 3].map (mixP c) := if_neg hc
    rw [hk]
    simp [-ev_storeR, bdCell, hc2, rngOk, e]
theorem row_loop : ∀ (cs : List Int) (row : List Int) (sc : D) (s2 s3 s4 s5 : Sl), Nr s2 → Nr s3 → Nr s4 → Nr s5 → row.length + 60 * cs.length ≤ 90000 →
    ∃ s2' s3' s4' s5', Nr s2' ∧ forL bdCell (.name 2) (cs.map .int) [.val sc, .own (.lst (row.map .int)), s2, s3, s4, s5] = some (.next [.val sc, .own (.lst ((row ++ rowP cs).map .int)), s2', s3', s4', s5'])
  | [], row, sc, s2, s3, s4, s5, h2, h3, h4, h5, hl => ⟨s2, s3, s4, s5, h2, by simp [forL, rowP]⟩
  | c :: cs, row, sc, s2, s3, s4, s5, h2, h3, h4, h5, hl => by
    have st : storeV 2 (.int c) [.val sc, .own (.lst (row.map .int)), s2, s3, s4, s5] = some [.val sc, .own (.lst (row.map .int)), .val (.int c), s3, s4, s5] := by
      unfold storeV
      cases s2 with
      | ref m => exact absurd rfl (h2 m)
      | _ => rfl
    have hc := cellP_len c
    simp only [List.length_cons] at hl
    obtain ⟨s3', s4', s5', n3, n4, n5, e1⟩ := cell_turn (row := row) (c := c) (sc := sc) h3 h4 h5 (by omega)
    obtain ⟨t2, t3, t4, t5, n2, e⟩ := row_loop cs (row ++ cellP c) sc (.val (.int c)) s3' s4' s5' (fun m z => by cases z) n3 n4 n5 (by simp only [List.length_append]; omega)
    refine ⟨t2, t3, t4, t5, n2, ?_⟩
    rw [List.map_cons]
    unfold forL
    rw [show stT (.name 2) (.int c) [.val sc, .own (.lst (row.map .int)), s2, s3, s4, s5] = _ from st]
    dsimp only
    rw [e1]
    dsimp only
    rw [e, List.append_assoc]
    rfl
theorem cut63 (ns : List Int) : DI.cutD (ns.map D.int) none (some 63) = (ns.take 63).map D.int := by
  unfold DI.cutD
  rw [show (63 : Int) = ((63 : Nat) : Int) from rfl, HT.sIx_nat, HT.sIx_none]
  rw [List.drop_zero, Nat.sub_zero, List.map_take]
  by_cases h : 63 ≤ (ns.map D.int).length
  · rw [Nat.min_eq_left h]
  · rw [Nat.min_eq_right (by omega), List.take_length, List.take_of_length_le (by omega)]
theorem numbers_is (ns : List Int) : f__law_numbers [.val (.fls (ns.map .int))] = some (.ret (.new (.lst ((numP ns).map .int))) []) := by
  unfold f__law_numbers
  rw [show bd__law_numbers = seqS (asgS 1 (lstV (DI.ret []))) (seqS (forS (frzD (slcV (slotC 0) noPart (part (frzD (DI.ret (.val (.int 63))))))) (.name 2) bdCell)
    (seqS (ifS (cmpB .Eq (frzD (call1C lenD (slotC 1))) (coD (frzD (DI.ret (.val (.int 0)))))) (seqS (appS 1 (frzD (DI.ret (.val (.int 0))))) nextS) nextS) (seqS (retN 1) nextS))) from bd__law_numbers_eq.trans rfl]
  obtain ⟨s2, s3, s4, s5, n2, e⟩ := row_loop (ns.take 63) [] (.fls (ns.map .int)) .no .no .no .no (fun m z => by cases z) (fun m z => by cases z) (fun m z => by cases z) (fun m z => by cases z) (by
    have : (ns.take 63).length ≤ 63 := List.length_take_le _ _
    simp only [List.length_nil]
    omega)
  rw [List.nil_append, List.map_nil, List.map_take] at e
  by_cases h : rowP (ns.take 63) = []
  · have hn : numP ns = [0] := if_pos h
    rw [hn]
    rw [h] at e
    simp [slcD, cut63, itemsD, e, Option.bind]
  · have hn : numP ns = rowP (ns.take 63) := if_neg h
    rw [hn]
    have hz : (rowP (ns.take 63)).length ≠ 0 := fun z => h (List.length_eq_zero_iff.mp z)
    simp [slcD, cut63, itemsD, e, h]
end
end K0
set_option maxRecDepth 100000
set_option maxHeartbeats 4000000
namespace K0
open PySem PySem.Spec PyProof.Rows L2 DI
section
theorem ix1 (x : D) : L2.atI [x] 0 = some x := rfl
theorem ixN1 : ixN 1 0 = some 0 := rfl
theorem take_is {xs : List Int} {s l : Int} (h0 : 0 ≤ s) (hl : 0 < l) (hn : xs ≠ []) :
    f__law_take [.val (.lst (xs.map .int)), .ref (.lst [.int s]), .val (.int l)] = some (.ret (.val (.int (drawP xs s l))) [(1, .lst [.int (s + 1)])]) := by
  unfold f__law_take
  rw [bd__law_take_eq]
  have e := draw_is (xs := xs) h0 hl hn
  simp [ix1, ixN1, e]
def wideP (xs : List Int) (s l : Int) : Int := (drawP xs s 997 * 994009 + drawP xs (s + 1) 997 * 997 + drawP xs (s + 1 + 1) 997) % l
theorem wide_is {xs : List Int} {s l : Int} (h0 : 0 ≤ s) (hl : 0 < l) (hn : xs ≠ []) :
    f__law_wide [.val (.lst (xs.map .int)), .ref (.lst [.int s]), .val (.int l)] = some (.ret (.val (.int (wideP xs s l))) [(1, .lst [.int (s + 1 + 1 + 1)])]) := by
  unfold f__law_wide
  rw [bd__law_wide_eq]
  have e1 := take_is (xs := xs) (s := s) (l := 997) h0 (by decide) hn
  have e2 := take_is (xs := xs) (s := s + 1) (l := 997) (by omega) (by decide) hn
  have e3 := take_is (xs := xs) (s := s + 1 + 1) (l := 997) (by omega) (by decide) hn
  simp [e1, e2, e3, hl, wideP]
end
end K0
set_option maxRecDepth 100000
set_option maxHeartbeats 4000000
namespace K0
open PySem PySem.Spec PyProof.Rows L2 DI
section
def nmE (k : Int) : Str := if k = 0 then "BadValue" else if k = 1 then "BadLine" else "BadSyntax"
theorem raised_is (k v : Int) : f__law_raised [.val (.int k), .val (.int v)] = some (.exc (nmE k) (.int v) []) := by
  unfold f__law_raised
  rw [bd__law_raised_eq]
  by_cases h0 : k = 0
  · simp [h0, nmE]
  · by_cases h1 : k = 1
    · simp [h1, nmE]
    · simp [h0, h1, nmE]
end
/-! ### what the text says -/
/-- a def behind the top -/
abbrev FnP (K : PySem.W.Frag) (x : Str) (st : Stmt) (f : Addr) (fd : FuncData) : Prop := FunD K x x (defArgs st) (defBody st) (defScope st) [] [] f fd
/-- the maker of an error class, at the class's place in the text -/
def inner (st : Stmt) : Stmt := match st with
  | .ClassDef (body := b) .. => b.getD 0 (.Pass ⟨0, 0, 0, 0⟩)
  | _ => .Pass ⟨0, 0, 0, 0⟩
theorem sc_init2 : FnScope ["self", "at"] ["self", "at"] (defScope (inner (top 2))) := ⟨rfl, rfl, rfl, by decide +kernel, rfl, by decide +kernel, by decide +kernel⟩
theorem sc_init3 : FnScope ["self", "at"] ["self", "at"] (defScope (inner (top 3))) := ⟨rfl, rfl, rfl, by decide +kernel, rfl, by decide +kernel, by decide +kernel⟩
theorem sc_init4 : FnScope ["self", "at"] ["self", "at"] (defScope (inner (top 4))) := ⟨rfl, rfl, rfl, by decide +kernel, rfl, by decide +kernel, by decide +kernel⟩
section
variable {P : Program} {w : World} {K : PySem.W.Frag} {mg : Str → Option Value} {base : Heap}
theorem init_ok {x qual : Str} {st : Stmt} {f fx A : Addr} {fd : FuncData} {p p2 p3 p4 : Pos} (F : FunD K x qual (defArgs st) (defBody st) (defScope st) [] [] f fd) (T : EkC K A fx) (S : FnScope ["self", "at"] ["self", "at"] (defScope st))
    (hb : defBody st = [.Assign [.Attribute (.Name "self" p) "at" p2] (.Name "at" p3) p4]) (l1 : (defScope st).names.lookup ("self" : Str) = some NameKind.local) (l2 : (defScope st).names.lookup ("at" : Str) = some NameKind.local) : FnOk P w K mg base (L2N.CX P w) 1 f fd ["self", "at"] (spAt A) := by
  refine F.ok S (fun vs H Q E h => ?_) (fun cdv Ar outer s H vs Q E hr h => ⟨tAt K (tVar 0) (tVar 1), ?_, ?_⟩)
  · obtain ⟨a, y, rfl, _⟩ := h
    rfl
  · rw [hb]
    exact pss_one (ps_at (pe_var (i := 0) rfl (.inl l1) rfl rfl) (pe_var (i := 1) rfl (.inl l2) rfl rfl))
  · obtain ⟨a, y, rfl, ea, q⟩ := h
    exact ⟨y, rfl, .ref a, rfl, a, A, fx, rfl, T, ea, q⟩
end
end K0
set_option maxRecDepth 100000
set_option maxHeartbeats 4000000
namespace K0
open PySem PySem.Spec PyProof.Rows L2 DI
/-- what _law_so says of two integers -/
def spSo : Sp := fun vs _ Q _ => ∃ i j : Int, vs = [.int i, .int j] ∧ ∀ H', Q (.bl (decide (i = j))) H'
theorem sc_so : FnScope ["found", "meant", "k"] ["found", "meant"] (defScope (top 6)) := ⟨rfl, rfl, rfl, by decide +kernel, rfl, by decide +kernel, by decide +kernel⟩
def soT (T : String) (i : Nat) : Den Bool := truC (coD (frzD (askV (isTn T) (slotC i))))
def soR : Den RV := andV [askV (isTn "int") (slotC 0), blV (cmpB .Eq (frzD (slotV 0)) (slotC 1))]
def soD : SDen := seqS (ifS (cmpB .Is (frzD (slotV 1)) (coD (frzD (DI.ret (.val .non))))) noS nextS) (seqS (ifS (soT "tuple" 1) noS nextS) (seqS (ifS (orB [soT "bool" 1, soT "bool" 0]) noS nextS) (seqS (ifS (soT "int" 1) (seqS (retS soR) nextS) nextS) noS)))
section
theorem so_is (i j : Int) : soD [.val (.int i), .val (.int j), .no] = some (.ret (.val (.bl (decide (i = j)))) [.val (.int i), .val (.int j), .no]) := by
  simp [soD, soT, soR, orB, andV, isBl]
end
/-- the written part, no own classes -/
abbrev kc (K : PySem.W.Frag) : Kc := ⟨K, fun _ => none⟩
theorem own0 (K : PySem.W.Frag) : OwnT (kc K) := ⟨(fun _ _ h => nomatch h), (fun _ _ h => nomatch h), (fun _ _ h => nomatch h), (fun _ _ _ _ h => nomatch h)⟩
section
variable {X : Cx} {C : Ck}
theorem pt_soT (hK : X.K = C.W.K.K) (O : OwnT C.W.K) {T : String} {y x : Str} {i : Nat} {p p2 p3 pos : Pos} (hT : T ∈ five) (hg : Gl X "isinstance") (hm : X.mg "isinstance" = none) (hy : bootBuiltins y = some (.type T)) (hg2 : Gl X y) (hm2 : X.mg y = none)
    (hn : y ≠ "__name__") (hd : (y == ("__debug__" : Str)) = false) (hN : X.N[i]? = some x) (hv : Vis X.env.scope x) (hd1 : (x == ("__debug__" : Str)) = false) (hd2 : (x == ("__classdict__" : Str)) = false) :
    PT X (.Call (.Name "isinstance" p) [.Name x p2, .Name y p3] [] pos) (tG C lB (soT T i)) :=
  pt_truD hK (pe_coD (frzD_ok (pe_isTy hK O hT hg hm hy hg2 hm2 hn hd (pe_slotC hN hv hd1 hd2) rfl))) (plainT_ok rfl)
theorem pt_or2 {a b : Expr} {pos : Pos} {x y : Den Bool} (ha : PT X a (tG C lB x)) (hb : PT X b (tG C lB y)) : PT X (.BoolOp .Or [a, b] pos) (tG C lB (orB [x, y])) := (pw_orD (.cons ha (.cons hb .nil)) (by simp)).pt
theorem pe_and2 {a b : Expr} {pos : Pos} {x y : Den RV} (ha : PE X a (tG C lV x)) (hb : PE X b (tG C lV y)) : PE X (.BoolOp .And [a, b] pos) (tG C lV (andV [x, y])) := pe_andD (.cons ha (.cons hb .nil)) (by simp)
theorem pss_no {ss : List Stmt} : PSs X ss (tSt C noS) := ⟨fun _ _ _ _ _ _ ⟨_, _, _, _, e, _⟩ => by cases e⟩
end
section
variable {P : Program} {w : World} {K : PySem.W.Frag} {mg : Str → Option Value} {base : Heap} {f : Addr} {fd : FuncData}
theorem so_ok {k : Nat} (F : FnP K "_law_so" (top 6) f fd) (m1 : mg "isinstance" = none) (m2 : mg "tuple" = none) (m3 : mg "bool" = none) (m4 : mg "int" = none) : L2H.FnH P w K mg base (L2N.CX P w) (k + 1) f fd ["found", "meant"] spSo := by
  obtain ⟨oc, od, dV, kV, doc, pm, an, cdv, ct, osl, rfl, lk, hcd, _, _⟩ := F.ex
  refine L2H.fn_ofH lk hcd sc_so (fun vs H Q E h => ?_) (fun A outer s H vs Q E p hot hr h => ?_)
  · obtain ⟨i, j, rfl, _⟩ := h
    rfl
  · obtain ⟨i, j, rfl, q⟩ := h
    have hu : (A.deeper (envOfC "_law_so" (defScope (top 6)) s.heap.objs.size f cdv)).units + 65 < cLine := by
      have := hr.un
      omega
    have pa : Paired (ArgOk (kc K) (fun _ => none) H) [.val (.int i), .val (.int j)] [V.int i, V.int j] := .cons (.int i) (.cons (.int j) .nil)
    refine ⟨tSt ⟨⟨kc K, H, fun _ => none, rfF [.val (.int i), .val (.int j)] [V.int i, V.int j]⟩, fun _ _ _ _ => False, fun _ => none⟩ soD, ?_, ?_⟩
    · exact pss_consD (ps_ifD (pt_cmpD rfl hu (frzD_ok (pe_slotV (i := 1) rfl (.inl rfl) rfl rfl)) (pe_coD (frzD_ok (pe_const rfl))) rfl) pss_no pss_nilD)
        (pss_consD (ps_ifD (pt_soT (i := 1) rfl (own0 K) (by decide) rfl m1 PyProof.Rows.Boot.«tuple» rfl m2 (by decide) rfl rfl (.inl rfl) rfl rfl) pss_no pss_nilD)
        (pss_consD (ps_ifD (pt_or2 (pt_soT (i := 1) rfl (own0 K) (by decide) rfl m1 PyProof.Rows.Boot.«bool» rfl m3 (by decide) rfl rfl (.inl rfl) rfl rfl) (pt_soT (i := 0) rfl (own0 K) (by decide) rfl m1 PyProof.Rows.Boot.«bool» rfl m3 (by decide) rfl rfl (.inl rfl) rfl rfl)) pss_no pss_nilD)
        (pss_consD (ps_ifD (pt_soT (i := 1) rfl (own0 K) (by decide) rfl m1 PyProof.Rows.Boot.«int» rfl m4 (by decide) rfl rfl (.inl rfl) rfl rfl)
          (pss_consD (ps_retD (pe_and2 (pe_isTy rfl (own0 K) (by decide) rfl m1 PyProof.Rows.Boot.«int» rfl m4 (by decide) rfl (pe_slotC (i := 0) rfl (.inl rfl) rfl rfl) rfl)
            (pe_cmpD rfl hu (frzD_ok (pe_slotV (i := 0) rfl (.inl rfl) rfl rfl)) (pe_slotC (i := 1) rfl (.inl rfl) rfl rfl) rfl))) pss_nilD) pss_nilD) pss_no)))
    · refine ⟨fun _ => none, _, _, entry pa (fun _ _ h => nomatch h) (fun a b p h => ?_) (k := 1), so_is i j, fun v σ' Hf' H' S ex r => ?_⟩
      · unfold rfF at h
        rcases a with _ | _ | a <;> simp at h
      · cases (show Rp (kc K) Hf' v (.bl (decide (i = j))) from r)
        exact q H'
end
end K0
set_option maxRecDepth 100000
set_option maxHeartbeats 4000000
namespace K0
open PySem PySem.Spec PyProof.Rows L2 DI
/-! ### the law: its first four rows -/
abbrev N_law : List Str := ["script", "row", "spot", "kind", "value", "error", "own", "k"]
def fns_law : List (Str × FE) := [(("_law_numbers" : Str), ⟨1, [false], f__law_numbers⟩), (("_law_take" : Str), ⟨3, [false, true, false], f__law_take⟩), (("_law_wide" : Str), ⟨3, [false, true, false], f__law_wide⟩)]
def S_law : SC := ⟨N_law, defScope (top 12), 3, blt0, con0, fun x => fns_law.lookup x, cls0, (fun _ => false), 0⟩
theorem sc_law : FnScope N_law ["script"] (defScope (top 12)) := ⟨rfl, rfl, rfl, by decide +kernel, rfl, by decide +kernel, by decide +kernel⟩
def row (i : Nat) : Stmt := (defBody (top 12)).getD i (.Pass ⟨0, 0, 0, 0⟩)
def one (i : Nat) : SDen := exSt S_law 20 (exS S_law 20 19) (row i)
theorem one0 : one 0 = asgS 1 (bnd (consC (coD (frzD (slotV 0))) nilC) (runFn 1 f__law_numbers)) := by kernel_rfl
theorem one1 : one 1 = asgS 2 (lstV (consA (frzD (DI.ret (.val (.int 0)))) (DI.ret []))) := by kernel_rfl
theorem one2 : one 2 = asgS 3 (bnd (consC (coD (frzD (slotV 1))) (consC (slotC 2) (consC (coD (frzD (DI.ret (.val (.int 3))))) nilC))) (runFn 3 f__law_take)) := by kernel_rfl
theorem one3 : one 3 = asgS 4 (binV .Sub (coD (frzD (bnd (consC (coD (frzD (slotV 1))) (consC (slotC 2) (consC (coD (frzD (binV .Pow (coD (frzD (DI.ret (.val (.int 10))))) (coD (frzD (DI.ret (.val (.int 9)))))))) nilC))) (runFn 3 f__law_wide)))) (coD (frzD (binV .Mult (coD (frzD (DI.ret (.val (.int 5))))) (coD (frzD (binV .Pow (coD (frzD (DI.ret (.val (.int 10))))) (coD (frzD (DI.ret (.val (.int 8))))))))))))  := by kernel_rfl
def kindP (ns : List Int) : Int := drawP (numP ns) 0 3
def valueP (ns : List Int) : Int := wideP (numP ns) 1 1000000000 - 500000000
abbrev rho1 (ns : List Int) : Rho := [.val (.fls (ns.map .int)), .own (.lst ((numP ns).map .int)), .no, .no, .no, .no, .no, .no]
abbrev rho2 (ns : List Int) : Rho := [.val (.fls (ns.map .int)), .own (.lst ((numP ns).map .int)), .own (.lst [.int 0]), .no, .no, .no, .no, .no]
abbrev rho3 (ns : List Int) : Rho := [.val (.fls (ns.map .int)), .val (.lst ((numP ns).map .int)), .own (.lst [.int 1]), .val (.int (kindP ns)), .no, .no, .no, .no]
abbrev rho4 (ns : List Int) : Rho := [.val (.fls (ns.map .int)), .val (.lst ((numP ns).map .int)), .own (.lst [.int 4]), .val (.int (kindP ns)), .val (.int (valueP ns)), .no, .no, .no]
section
theorem ev0 (ns : List Int) : one 0 [.val (.fls (ns.map .int)), .no, .no, .no, .no, .no, .no, .no] = some (.next (rho1 ns)) := by
  rw [one0]
  simp [numbers_is]
theorem ev1 (ns : List Int) : one 1 (rho1 ns) = some (.next (rho2 ns)) := by
  rw [one1]
  simp
theorem ev2 (ns : List Int) : one 2 (rho2 ns) = some (.next (rho3 ns)) := by
  rw [one2]
  have e := take_is (xs := numP ns) (s := 0) (l := 3) (by decide) (by decide) (numP_ne ns)
  simp [e, kindP]
theorem ev3 (ns : List Int) : one 3 (rho3 ns) = some (.next (rho4 ns)) := by
  rw [one3]
  have e := wide_is (xs := numP ns) (s := 1) (l := 1000000000) (by decide) (by decide) (numP_ne ns)
  simp [e, valueP]
end
theorem draw_low {xs : List Int} {a l : Int} (hl : 0 < l) : 0 ≤ drawP xs a l ∧ drawP xs a l < l := by
  unfold drawP
  split <;> exact ⟨Int.emod_nonneg _ (by omega), Int.emod_lt_of_pos _ hl⟩
theorem kind_low (ns : List Int) : kindP ns = 0 ∨ kindP ns = 1 ∨ kindP ns = 2 := by
  have := draw_low (xs := numP ns) (a := 0) (l := 3) (by decide)
  unfold kindP
  omega
end K0
set_option maxRecDepth 100000
set_option maxHeartbeats 4000000
namespace K0
open PySem PySem.Spec PyProof.Rows L2 DI
theorem ite_no {b : Bool} {x y : Prop} (h : b = false) (hy : y) : if b = true then x else y := by
  subst h
  exact hy
/-! ### the law's except suite -/
def nm3 : Fin 3 → Str
  | 0 => "BadValue"
  | 1 => "BadLine"
  | 2 => "BadSyntax"
/-- what the text has of the errors' classes: A their places, f their makers' -/
structure Txt (K : PySem.W.Frag) (mg : Str → Option Value) (A f : Fin 3 → Addr) (CP : Addr) : Prop where
  ek : ∀ i, EkC K (A i) (f i)
  es : ∀ i, EisC K (A i)
  ga : ∀ i, mg (nm3 i) = some (.ref (A i))
  ex : ∀ i, PySem.W.exmOne K (.ref (A i)) (.ref CP) = some true
  gP : mg "PageError" = some (.ref CP)
  ii : ∀ i j, PySem.W.kitOne K (.ref (A i)) (.ref (A j)) = some (decide (i = j))
  iv : ∀ i, PySem.W.kitOne K (.ref (A i)) (.type "ValueError") = some false
  il : ∀ i, PySem.W.kitOne K (.ref (A i)) (.type "LookupError") = some false
  ia : ∀ i, PySem.W.kitOne K (.ref (A i)) (.type "ArithmeticError") = some false
def ca3 (A : Fin 3 → Addr) (c : Str) : Option Addr := if c = "BadValue" then some (A 0) else if c = "BadLine" then some (A 1) else if c = "BadSyntax" then some (A 2) else none
def tIs (K : PySem.W.Frag) (a : Addr) (cls : Value) (d : Option Addr) (v : V) : TE := tCB (rErr K a cls d) (tCons (tVar 5) (tCons (tC v) tNil))
def tIsT (K : PySem.W.Frag) (a : Addr) (cls : Value) (d : Option Addr) (T : String) : TT := fun σ H Q => tIs K a cls d (.ty T) σ H fun x H' => ∃ k, TruV K x H' k ∧ Q k H'
def noE : L2.St → XK := fun _ _ _ _ => False
/-- the suite's reading -/
def tSuite (K : PySem.W.Frag) (A : Fin 3 → Addr) (a : Addr) (cls : Value) (d : Option Addr) : TS :=
  tSeq (tAsg (tLst (tCons (tIs K a cls d (.ref (A 0))) (tCons (tIs K a cls d (.ref (A 1))) (tCons (tIs K a cls d (.ref (A 2))) tNil)))) (gName 6))
  (tSeq (tFor (iRng1 (tCons (tC (.int 3)) tNil)) (gName 7) (tIfS (tTest (tOp rNe (tOp (rIxL K) (tVar 6) (tVar 7)) (tOp rEq (tVar 7) (tVar 3)))) (tRet (tC (.bl false))) tNext))
  (tSeq (tIfS (tOr (tIsT K a cls d "ValueError") (tOr (tIsT K a cls d "LookupError") (tIsT K a cls d "ArithmeticError"))) (tRet (tC (.bl false))) tNext)
  (tRet (tCallS spSo noE (tCons (tErrAt K a cls d (tVar 5)) (tCons (tVar 4) tNil))))))
section
variable {K : PySem.W.Frag} {mg : Str → Option Value} {A f : Fin 3 → Addr} {CP : Addr}
theorem is_own (T : Txt K mg A f CP) {a dd : Addr} {m j : Fin 3} {fs : List (Str × V)} {σ : L2.St} {H : Hp} {Q : VK} (h5 : σ[5]? = some (some (.ref a))) (hd : H dd = some (.xd fs)) (q : Q (.bl (decide (m = j))) H) : tIs K a (.ref (A m)) (some dd) (.ref (A j)) σ H Q :=
  ⟨_, h5, A m, f m, dd, fs, _, .ref (A j), _, rfl, rfl, T.ek m, T.es m, hd, rfl, fun u r => r, T.ii m j, q⟩
theorem is_ty (T : Txt K mg A f CP) {a dd : Addr} {m : Fin 3} {N : String} {fs : List (Str × V)} {σ : L2.St} {H : Hp} {Q : Bool → Hp → Prop} (h5 : σ[5]? = some (some (.ref a))) (hd : H dd = some (.xd fs)) (hk : PySem.W.kitOne K (.ref (A m)) (.type N) = some false) (q : Q false H) : tIsT K a (.ref (A m)) (some dd) N σ H Q :=
  ⟨_, h5, A m, f m, dd, fs, _, .type N, _, rfl, rfl, T.ek m, T.es m, hd, rfl, fun u r => r, hk, false, rfl, q⟩
/-- what the suite does, the error of the m-th class, its field v -/
theorem suite_is (T : Txt K mg A f CP) {a dd : Addr} {m : Fin 3} {v : Int} {σ : L2.St} {H : Hp} {D : Ends} (hl : σ.length = 8) (h3 : σ[3]? = some (some (.int (m.val : Int)))) (h4 : σ[4]? = some (some (.int v))) (h5 : σ[5]? = some (some (.ref a))) (hd : H dd = some (.xd [(("at" : Str), .int v)]))
    (q : ∀ H', D.rt (.bl true) H') : tSuite K A a (.ref (A m)) (some dd) D σ H := by
  refine is_own T h5 hd (is_own T h5 hd (is_own T h5 hd ?_))
  refine ⟨by show 3 ≤ sizeLine; decide, fun p np => ?_⟩
  have nd : dd ≠ p := ne_of_none hd np
  have hd1 : (upd H p (.lst [.bl (decide (m = 0)), .bl (decide (m = 1)), .bl (decide (m = 2))])) dd = some (.xd [(("at" : Str), .int v)]) := by rw [upd_ne nd]; exact hd
  refine ⟨3, rfl, by decide, by decide, for_range (fun i σ' H' => σ'.length = 8 ∧ σ'[3]? = some (some (.int (m.val : Int))) ∧ σ'[4]? = some (some (.int v)) ∧ σ'[5]? = some (some (.ref a)) ∧ σ'[6]? = some (some (.ref p)) ∧ H' = upd H p (.lst [.bl (decide (m = 0)), .bl (decide (m = 1)), .bl (decide (m = 2))])) ?_ ?_ ?_⟩
  · refine ⟨by simp [hl], ?_, ?_, ?_, ?_, rfl⟩
    · rw [List.getElem?_set_ne (by decide)]; exact h3
    · rw [List.getElem?_set_ne (by decide)]; exact h4
    · rw [List.getElem?_set_ne (by decide)]; exact h5
    · rw [List.getElem?_set_self (by omega)]
  · rintro i σ' H' hi ⟨l', g3, g4, g5, g6, rfl⟩
    have s6 : (σ'.set 7 (some (V.int (0 + (i : Int)))))[6]? = some (some (.ref p)) := by rw [List.getElem?_set_ne (by decide)]; exact g6
    have s3 : (σ'.set 7 (some (V.int (0 + (i : Int)))))[3]? = some (some (.int (m.val : Int))) := by rw [List.getElem?_set_ne (by decide)]; exact g3
    have s7 : (σ'.set 7 (some (V.int (0 + (i : Int)))))[7]? = some (some (V.int (0 + (i : Int)))) := List.getElem?_set_self (by omega)
    have at_ : L2.atI [V.bl (decide (m = 0)), V.bl (decide (m = 1)), V.bl (decide (m = 2))] (0 + (i : Int)) = some (.bl (decide (((0 : Int) + (i : Int)) = (m.val : Int)))) := by
      obtain ⟨m, hm⟩ := m
      match i, m, hi, hm with
      | 0, 0, _, _ => rfl
      | 0, 1, _, _ => rfl
      | 0, 2, _, _ => rfl
      | 1, 0, _, _ => rfl
      | 1, 1, _, _ => rfl
      | 1, 2, _, _ => rfl
      | 2, 0, _, _ => rfl
      | 2, 1, _, _ => rfl
      | 2, 2, _, _ => rfl
    refine ⟨_, s6, _, s7, p, _, _, _, rfl, rfl, .inl (.inl upd_same), at_, _, s7, _, s3, rfl, rfl, _, rfl, ?_⟩
    have e : (!decide (V.bl (decide ((0 : Int) + (i : Int) = (m.val : Int))) = V.bl (decide (V.int ((0 : Int) + (i : Int)) = V.int (m.val : Int))))) = false := by
      have e2 : decide (V.int ((0 : Int) + (i : Int)) = V.int (m.val : Int)) = decide ((0 : Int) + (i : Int) = (m.val : Int)) := by
        simp only [V.int.injEq]
      rw [e2]
      simp
    refine ite_no e ?_
    refine ⟨by simp [l'], s3, ?_, ?_, s6, rfl⟩
    · rw [List.getElem?_set_ne (by decide)]; exact g4
    · rw [List.getElem?_set_ne (by decide)]; exact g5
  · rintro σ' H' ⟨l', g3, g4, g5, g6, rfl⟩
    refine is_ty T g5 hd1 (T.iv m) (ite_no rfl (is_ty T g5 hd1 (T.il m) (ite_no rfl (is_ty T g5 hd1 (T.ia m) (ite_no rfl ?_)))))
    refine ⟨_, g5, A m, f m, dd, _, .int v, rfl, rfl, rfl, T.ek m, hd1, rfl, _, g4, v, v, rfl, fun H2 => ?_⟩
    rw [decide_eq_true rfl]
    exact q H2
end
end K0
set_option maxRecDepth 100000
set_option maxHeartbeats 4000000
namespace K0
open PySem PySem.Spec PyProof.Rows L2 DI
abbrev ckL (K : PySem.W.Frag) (A : Fin 3 → Addr) (a : Addr) (ns : List Int) (H : Hp) (E : XK) : Ck := ⟨⟨kc K, H, H, rfF [.val (.fls (ns.map .int))] [V.ref a]⟩, fun cls d _ H => E cls d H, ca3 A⟩
def tTry (K : PySem.W.Frag) (A : Fin 3 → Addr) (CP : Addr) : TS := fun D σ H => tDrop (tCallS (spOf (kc K) (ca3 A) 2 f__law_raised) (WE (wAs K (.ref CP) 5 (tSuite K A) (fun _ _ _ _ => False) D)) (tCons (tVar 3) (tCons (tVar 4) tNil))) D σ H
def tLaw (K : PySem.W.Frag) (A : Fin 3 → Addr) (CP : Addr) (C : Ck) : TS := tSeq (tSt C (one 0)) (tSeq (tSt C (one 1)) (tSeq (tSt C (one 2)) (tSeq (tSt C (one 3)) (tSeq (tTry K A CP) (tRet (tC (.bl false)))))))
def spLaw (K : PySem.W.Frag) : Sp := fun vs H Q _ => ∃ (a : Addr) (ns : List Int), vs = [.ref a] ∧ SqL K H a (ns.map V.int) ∧ ∀ H', Q (.bl true) H'
theorem pt_or3 {X : Cx} {a b c : Expr} {pos : Pos} {t u v : TT} (ha : PT X a t) (hb : PT X b u) (hc : PT X c v) : PT X (.BoolOp .Or [a, b, c] pos) (tOr t (tOr u v)) := (pw_or ha (pw_or hb (pw_or1 hc))).pt
/-- a def that is called -/
structure Cld (P : Program) (w : World) (K : PySem.W.Frag) (mg : Str → Option Value) (base : Heap) (k : Nat) (x : Str) (n : Nat) (ca : Str → Option Addr) (fm : FM) : Prop where
  ex : ∃ f fd ps, mg x = some (.ref f) ∧ PySem.W.keepIn K (.ref f) = true ∧ Binds K fd ps [] ∧ FnOk P w K mg base (L2N.CX P w) k f fd ps (spOf (kc K) ca n fm)
structure Env0 (P : Program) (w : World) (K : PySem.W.Frag) (mg : Str → Option Value) (base : Heap) (A f : Fin 3 → Addr) (CP : Addr) : Prop where
  T : Txt K mg A f CP
  bl : ∀ x, blt0 x = true → mg x = none
  m1 : mg "ValueError" = none
  m2 : mg "LookupError" = none
  m3 : mg "ArithmeticError" = none
  nu : Cld P w K mg base 1 "_law_numbers" 1 (ca3 A) f__law_numbers
  ta : Cld P w K mg base 2 "_law_take" 3 (ca3 A) f__law_take
  wi : Cld P w K mg base 3 "_law_wide" 3 (ca3 A) f__law_wide
  ra : Cld P w K mg base 3 "_law_raised" 2 (ca3 A) f__law_raised
  so : ∃ fs fds, mg "_law_so" = some (.ref fs) ∧ PySem.W.keepIn K (.ref fs) = true ∧ Binds K fds ["found", "meant"] [] ∧ L2H.FnH P w K mg base (L2N.CX P w) 1 fs fds ["found", "meant"] spSo
theorem ints_are {K : Kc} {H : Hp} : ∀ ns : List Int, RpA K H (ns.map V.int) (ns.map D.int)
  | [] => .nil
  | n :: ns => .cons (.int n) (ints_are ns)
theorem nmE_fin {ns : List Int} : ∃ m : Fin 3, kindP ns = (m.val : Int) ∧ ∀ A : Fin 3 → Addr, ca3 A (nmE (kindP ns)) = some (A m) := by
  rcases kind_low ns with h | h | h
  · refine ⟨0, h, fun A => ?_⟩
    rw [h]
    rfl
  · refine ⟨1, h, fun A => ?_⟩
    rw [h]
    rfl
  · refine ⟨2, h, fun A => ?_⟩
    rw [h]
    rfl
theorem try_is {K : PySem.W.Frag} {mg : Str → Option Value} {A f : Fin 3 → Addr} {CP a : Addr} {ns : List Int} {H H4 Hf4 : Hp} {E : XK} {σ4 : L2.St} {Q : VK} (T : Txt K mg A f CP) (S4 : Stt (ckL K A a ns H E).W Hf4 H4 σ4 (rho4 ns)) (q : ∀ H', Q (.bl true) H') :
    tSeq (tTry K A CP) (tRet (tC (.bl false))) { nx := fun _ H' => Q .non H', rt := Q } σ4 H4 := by
  obtain ⟨v3, h3, r3⟩ := S4.val 3 _ rfl
  obtain ⟨v4, h4, r4⟩ := S4.val 4 _ rfl
  cases r3
  cases r4
  obtain ⟨m, hm, hca⟩ := nmE_fin (ns := ns)
  refine ⟨_, h3, _, h4, fun _ => none, [.val (.int (kindP ns)), .val (.int (valueP ns))], _, rfl, .cons (.int _) (.cons (.int _) .nil), (fun _ _ h => nomatch h), (fun i j p h => ?_), raised_is _ _, ?_⟩
  · unfold rfF at h
    rcases i with _ | _ | i <;> simp at h
  · intro Hf' H' C dd v B hc hd hn r
    rw [hca A] at hc
    cases hc
    cases r
    refine ⟨true, T.ex m, fun _ b nb => ?_, fun z => nomatch z⟩
    have len : σ4.length = 8 := S4.len
    refine suite_is T (by simpa using len) ?_ ?_ (List.getElem?_set_self (by omega)) hd q
    · rw [List.getElem?_set_ne (by decide), h3, hm]
    · rw [List.getElem?_set_ne (by decide), h4]
section
variable {P : Program} {w : World} {K : PySem.W.Frag} {mg : Str → Option Value} {base : Heap} {A f : Fin 3 → Addr} {CP fl : Addr} {fdl : FuncData}
theorem known_law (Y : Env0 P w K mg base A f CP) : Known P w (kc K) (ca3 A) mg base S_law where
  O := own0 K
  blt := Y.bl
  con := fun _ _ h => nomatch h
  cls := fun _ h => nomatch h
  exs := fun _ h => nomatch h
  fns := look_cons (by
      obtain ⟨g, fd, ps, a, b, c, d⟩ := Y.nu.ex
      exact ⟨1, g, fd, ps, by decide, a, b, c, d⟩)
    (look_cons (by
      obtain ⟨g, fd, ps, a, b, c, d⟩ := Y.ta.ex
      exact ⟨2, g, fd, ps, by decide, a, b, c, d⟩)
    (look_cons (by
      obtain ⟨g, fd, ps, a, b, c, d⟩ := Y.wi.ex
      exact ⟨3, g, fd, ps, by decide, a, b, c, d⟩) look_nil))
theorem law_ok (Y : Env0 P w K mg base A f CP) (F : FnP K "law" (top 12) fl fdl) : FnOk P w K mg base (L2N.CX P w) 4 fl fdl ["script"] (spLaw K) := by
  obtain ⟨fr, fdr, psr, ra1, ra2, ra3, ra4⟩ := Y.ra.ex
  obtain ⟨fs, fds, so1, so2, so3, so4⟩ := Y.so
  refine F.ok sc_law (fun vs H Q E h => ?_) (fun cdv Ar outer s H vs Q E hr h => ?_)
  · obtain ⟨a, ns, rfl, _⟩ := h
    rfl
  · obtain ⟨a, ns, rfl, hS, q⟩ := h
    have Z : Cpt S_law (ckL K A a ns H E) (cxOf (L2N.CX P w) P w K mg base N_law "law" (defScope (top 12)) fl cdv Ar outer s H E) := cpt_of (known_law Y) rfl rfl sc_law.nd rfl hr
    have st : ∀ i, PS (cxOf (L2N.CX P w) P w K mg base N_law "law" (defScope (top 12)) fl cdv Ar outer s H E) (row i) (tSt (ckL K A a ns H E) (one i)) := fun i => exSt_ok Z (fun _ => rfl) (exS_ok Z (fun _ => rfl) 20 19) (row i)
    refine ⟨tLaw K A CP (ckL K A a ns H E), ?_, ?_⟩
    · refine pss_cons (st 0) (pss_cons (st 1) (pss_cons (st 2) (pss_cons (st 3) (pss_cons ?_ (pss_one (ps_ret pe_bl))))))
      exact L2N.ps_try_as (i := 5) (tb := fun W => tDrop (tCallS (spOf (kc K) (ca3 A) 2 f__law_raised) (WE W) (tCons (tVar 3) (tCons (tVar 4) tNil)))) (ts := tSuite K A) (Wout := fun _ _ _ _ => False) rfl rfl sc_law.nd rfl rfl ⟨rfl, rfl, .inl Y.T.gP⟩ takesNo
        (fun W pn xe tk _ => pss_one (ps_expr (pe_callS ra4 hr rfl ra1 ra2 ra3 (fun σ => L2N.passAt tk σ) (by exact (pa_cons (pv 3) (pa_cons (pv 4) pa_nil))))))
        (fun a oe cls d pn hz hf => by
          have hot : L2H.HotC ((cxOf (L2N.CX P w) P w K mg base N_law "law" (defScope (top 12)) fl cdv Ar outer s H E).suite a ((a, oe) :: pn)) := by
            obtain ⟨vs, hv⟩ := hf
            exact ⟨(a, oe), ⟨rfl, vs, hv, hz.2.2 vs hv⟩, List.mem_cons_self⟩
          have is3 : ∀ (x : Str) (p p2 p3 pos : Pos) (v : V), PE ((cxOf (L2N.CX P w) P w K mg base N_law "law" (defScope (top 12)) fl cdv Ar outer s H E).suite a ((a, oe) :: pn)) (.Name x p3) (tC v) → notStar (.Name x p3) = true →
              PE ((cxOf (L2N.CX P w) P w K mg base N_law "law" (defScope (top 12)) fl cdv Ar outer s H E).suite a ((a, oe) :: pn)) (.Call (.Name "isinstance" p) [.Name "error" p2, .Name x p3] [] pos) (tIs K a cls d v) := fun x p p2 p3 pos v hx _ =>
            pe_callB (call_isErr hz.zc hf) rfl (Y.bl "isinstance" (by decide +kernel)) PyProof.Rows.boot_isinstance (pa_cons (pv 5) (pa_cons hx pa_nil))
          have is4 : ∀ (x : Str) (p p2 p3 pos : Pos) (T : String), bootBuiltins x = some (.type T) → Gl ((cxOf (L2N.CX P w) P w K mg base N_law "law" (defScope (top 12)) fl cdv Ar outer s H E).suite a ((a, oe) :: pn)) x → mg x = none → x ≠ "__name__" → (x == ("__debug__" : Str)) = false →
              PT ((cxOf (L2N.CX P w) P w K mg base N_law "law" (defScope (top 12)) fl cdv Ar outer s H E).suite a ((a, oe) :: pn)) (.Call (.Name "isinstance" p) [.Name "error" p2, .Name x p3] [] pos) (tIsT K a cls d T) := fun x p p2 p3 pos T hb hg hm hn hd =>
            pt_truth (is3 x p p2 p3 pos _ (tyName T x hb hg hm hn hd) rfl) (plainT_ok rfl)
          exact pss_cons (ps_set (i := 6) sc_law.nd rfl (.inl rfl) (pe_lst (pa_cons (is3 _ _ _ _ _ _ (pe_glob (v := .ref (A 0)) rfl (Y.T.ga 0) rfl rfl) rfl) (pa_cons (is3 _ _ _ _ _ _ (pe_glob (v := .ref (A 1)) rfl (Y.T.ga 1) rfl rfl) rfl) (pa_cons (is3 _ _ _ _ _ _ (pe_glob (v := .ref (A 2)) rfl (Y.T.ga 2) rfl rfl) rfl) pa_nil)))))
            (pss_cons (L2H.ps_forH PassesOwn.never hot (L2H.pi_range1H rfl (Y.bl "range" (by decide +kernel)) (pa_cons pe_int pa_nil)) (pg_name (i := 7) sc_law.nd rfl (.inl rfl))
              (pss_one (ps_if (pt_cmpR op_ne (pe_ix ix_list (pv 6) (pv 7) (notSlice_ok rfl)) (pe_cmpR op_eq (pv 7) (pv 3) rfl) rfl) (pss_one (ps_ret pe_bl)) pss_nil)))
            (pss_cons (ps_if (pt_or3 (is4 _ _ _ _ _ "ValueError" PyProof.Rows.Boot.«ValueError» rfl Y.m1 (by decide) rfl) (is4 _ _ _ _ _ "LookupError" PyProof.Rows.Boot.«LookupError» rfl Y.m2 (by decide) rfl) (is4 _ _ _ _ _ "ArithmeticError" PyProof.Rows.Boot.«ArithmeticError» rfl Y.m3 (by decide) rfl)) (pss_one (ps_ret pe_bl)) pss_nil)
            (pss_one (ps_ret (L2H.pe_callH so4 (L2H.roomH_mark (hr.mono (by decide)) _) hot rfl so1 so2 so3 (fun σ => fun _ _ _ _ _ _ z => by
              obtain ⟨_, _, _, _, _, _, _, _, _, _, _, _, no⟩ := z
              exact no.elim) (pa_cons (pe_errAt hz.zc hf (pv 5)) (pa_cons (pv 4) pa_nil))))))))
    · have pa : Paired (ArgOk (kc K) H H) [.val (.fls (ns.map .int))] [V.ref a] := .cons (.fls hS (ints_are ns)) .nil
      have S0 : Stt (ckL K A a ns H E).W H H (L2.start N_law [V.ref a]) [.val (.fls (ns.map .int)), .no, .no, .no, .no, .no, .no, .no] := entry pa (Evl.Ex.refl _) (fun i j p h => by
        unfold rfF at h
        rcases i with _ | i <;> simp at h) (k := 7)
      refine ⟨_, _, _, S0, ev0 ns, fun σ1 Hf1 H1 S1 _ => ⟨_, _, _, S1, ev1 ns, fun σ2 Hf2 H2 S2 _ => ⟨_, _, _, S2, ev2 ns, fun σ3 Hf3 H3 S3 _ => ⟨_, _, _, S3, ev3 ns, fun σ4 Hf4 H4 S4 _ => ?_⟩⟩⟩⟩
      exact try_is Y.T S4 q
end
end K0
set_option maxRecDepth 100000
set_option maxHeartbeats 0
namespace K0
open PySem PySem.Spec PyProof.Rows L2 DI He
/-! ### the head -/
def df (x : Str) (i : Nat) : DefD := ⟨(x, none), x, x, defArgs (top i), defBody (top i), defScope (top i), [], []⟩
def di (x q : Str) (i : Nat) : DefD := ⟨(x, some "__init__"), "__init__", q, defArgs (inner (top i)), defBody (inner (top i)), defScope (inner (top i)), [], []⟩
def fn : List DefD := [df "_law_so" 6, df "_law_numbers" 7, df "_law_draw" 8, df "_law_take" 9, df "_law_wide" 10, df "_law_raised" 11, df "law" 12, di "BadValue" "BadValue.__init__" 2, di "BadLine" "BadLine.__init__" 3, di "BadSyntax" "BadSyntax.__init__" 4]
def globs : List Str := ["PageError", "BadValue", "BadLine", "BadSyntax", "_law_so", "_law_numbers", "_law_draw", "_law_take", "_law_wide", "_law_raised", "law"]
def frees : List Str := ["len", "int", "range", "isinstance", "tuple", "bool", "str", "ValueError", "LookupError", "ArithmeticError"]
def fa : List Fa := globs.map Fa.glo ++ frees.map Fa.free
def clA (K : PySem.W.Frag) (i : Fin 3) : Addr := ga K (nm3 i)
def clF (K : PySem.W.Frag) (i : Fin 3) : Addr := ma K (ga K (nm3 i)) "__init__"
def fins : List (Fin 3) := [0, 1, 2]
def exB (K : PySem.W.Frag) : Bool := fins.all fun i => ekB K (clA K i) (clF K i) && (eisB K (clA K i) && (decide (PySem.W.exmOne K (.ref (clA K i)) (.ref (ga K "PageError")) = some true) &&
  (decide (PySem.W.kitOne K (.ref (clA K i)) (.type "ValueError") = some false) && (decide (PySem.W.kitOne K (.ref (clA K i)) (.type "LookupError") = some false) && (decide (PySem.W.kitOne K (.ref (clA K i)) (.type "ArithmeticError") = some false) &&
  fins.all fun j => decide (PySem.W.kitOne K (.ref (clA K i)) (.ref (clA K j)) = some (decide (i = j))))))))
abbrev R : PySem.W.OpenRow := PySem.W.OpenLaw.row PySem.Challenge.rw_pagesonce_k00_errors
abbrev hk : PySem.W.Hook := hookB 5 fa fn exB
def ob (s : PySem.W.SharedT) : AlB := obsB 5 fa fn exB (HandSHeadRun.getT s)
theorem ob_eq (s : PySem.W.SharedT) : ob s = hk.obs s.abs := obsB_eq (HandSHeadRun.getT_eq s)
def loose : List Str := ["PageError", "BadValue", "BadLine", "BadSyntax", "_law_so", "_law_numbers", "_law_draw", "_law_take", "_law_wide", "_law_raised"]
theorem run (w : World) : HandSHeadRun.RunEq R (PySem.W.view R.prog [12]) hk ob 3000 loose w := by
  intro os
  kernel_rfl
end K0
set_option maxRecDepth 100000
set_option maxHeartbeats 0
namespace K0
open PySem PySem.Spec PyProof.Rows L2 DI He
section
variable {P : Program} {w : World} {K : PySem.W.Frag} {h : Heap} {mg : Str → Option Value} {base : Heap}
theorem fin_mem : ∀ i : Fin 3, i ∈ fins := by decide
theorem glob_of (kin : K.In h) (G : h.Ns mainGlobals mg) (c : SaysB fa fn exB K) {x : Str} (m : x ∈ globs) : mg x = some (.ref (ga K x)) := says_glo kin G c (List.mem_append_left _ (List.mem_map_of_mem m))
theorem free_of (kin : K.In h) (G : h.Ns mainGlobals mg) (c : SaysB fa fn exB K) {x : Str} (m : x ∈ frees) : mg x = none := says_free kin G c (List.mem_append_right _ (List.mem_map_of_mem m))
theorem txt_of (kin : K.In h) (G : h.Ns mainGlobals mg) (c : SaysB fa fn exB K) : Txt K mg (clA K) (clF K) (ga K "PageError") := by
  have e := c.2
  unfold exB at e
  rw [List.all_eq_true] at e
  have at_ := fun i => e i (fin_mem i)
  simp only [Bool.and_eq_true, decide_eq_true_eq, List.all_eq_true] at at_
  refine ⟨fun i => ekB_ok (at_ i).1, fun i => eisB_ok (at_ i).2.1, fun i => ?_, fun i => (at_ i).2.2.1, glob_of kin G c (by decide +kernel), fun i j => (at_ i).2.2.2.2.2.2 j (fin_mem j), fun i => (at_ i).2.2.2.1, fun i => (at_ i).2.2.2.2.1, fun i => (at_ i).2.2.2.2.2.1⟩
  obtain ⟨i, hi⟩ := i
  match i, hi with
  | 0, _ => exact glob_of kin G c (x := "BadValue") (by decide +kernel)
  | 1, _ => exact glob_of kin G c (x := "BadLine") (by decide +kernel)
  | 2, _ => exact glob_of kin G c (x := "BadSyntax") (by decide +kernel)
theorem blt_of (kin : K.In h) (G : h.Ns mainGlobals mg) (c : SaysB fa fn exB K) (x : Str) (hx : blt0 x = true) : mg x = none := by
  refine free_of kin G c ?_
  unfold blt0 at hx
  have m : x ∈ blts := by simpa using hx
  have sub : ∀ y ∈ blts, y ∈ frees := by decide +kernel
  exact sub x m
theorem kp_of {x q : Str} {a : Arguments} {b : List Stmt} {sc : Scope} {g : Addr} {fd : FuncData} (F : FunD K x q a b sc [] [] g fd) : PySem.W.keepIn K (.ref g) = true := F.kp
theorem env_of (kin : K.In h) (G : h.Ns mainGlobals mg) (c : SaysB fa fn exB K) : Env0 P w K mg base (clA K) (clF K) (ga K "PageError") := by
  have T := txt_of kin G c
  have bl := blt_of kin G c
  obtain ⟨d0, F0⟩ := c.1.def_ 0 (d := df "_law_so" 6) rfl
  obtain ⟨d1, F1⟩ := c.1.def_ 1 (d := df "_law_numbers" 7) rfl
  obtain ⟨d2, F2⟩ := c.1.def_ 2 (d := df "_law_draw" 8) rfl
  obtain ⟨d3, F3⟩ := c.1.def_ 3 (d := df "_law_take" 9) rfl
  obtain ⟨d4, F4⟩ := c.1.def_ 4 (d := df "_law_wide" 10) rfl
  obtain ⟨d5, F5⟩ := c.1.def_ 5 (d := df "_law_raised" 11) rfl
  obtain ⟨i0, I0⟩ := c.1.def_ 7 (d := di "BadValue" "BadValue.__init__" 2) rfl
  obtain ⟨i1, I1⟩ := c.1.def_ 8 (d := di "BadLine" "BadLine.__init__" 3) rfl
  obtain ⟨i2, I2⟩ := c.1.def_ 9 (d := di "BadSyntax" "BadSyntax.__init__" 4) rfl
  have b0 : Binds K d0 ["found", "meant"] [] := F0.bindsN fun _ _ _ _ _ _ us hl => match us, hl with | [_, _], _ => rfl
  have b1 : Binds K d1 ["script"] [] := F1.bindsN fun _ _ _ _ _ _ us hl => match us, hl with | [_], _ => rfl
  have b2 : Binds K d2 ["row", "at", "limit"] [] := F2.bindsN fun _ _ _ _ _ _ us hl => match us, hl with | [_, _, _], _ => rfl
  have b3 : Binds K d3 ["row", "spot", "limit"] [] := F3.bindsN fun _ _ _ _ _ _ us hl => match us, hl with | [_, _, _], _ => rfl
  have b4 : Binds K d4 ["row", "spot", "limit"] [] := F4.bindsN fun _ _ _ _ _ _ us hl => match us, hl with | [_, _, _], _ => rfl
  have b5 : Binds K d5 ["kind", "value"] [] := F5.bindsN fun _ _ _ _ _ _ us hl => match us, hl with | [_, _], _ => rfl
  have c0 : Binds K i0 ["self", "at"] [] := I0.bindsN fun _ _ _ _ _ _ us hl => match us, hl with | [_, _], _ => rfl
  have c1 : Binds K i1 ["self", "at"] [] := I1.bindsN fun _ _ _ _ _ _ us hl => match us, hl with | [_, _], _ => rfl
  have c2 : Binds K i2 ["self", "at"] [] := I2.bindsN fun _ _ _ _ _ _ us hl => match us, hl with | [_, _], _ => rfl
  have O0 : FnOk P w K mg base (L2N.CX P w) 1 (clF K 0) i0 ["self", "at"] (spAt (clA K 0)) := init_ok I0 (T.ek 0) sc_init2 rfl rfl rfl
  have O1 : FnOk P w K mg base (L2N.CX P w) 1 (clF K 1) i1 ["self", "at"] (spAt (clA K 1)) := init_ok I1 (T.ek 1) sc_init3 rfl rfl rfl
  have O2 : FnOk P w K mg base (L2N.CX P w) 1 (clF K 2) i2 ["self", "at"] (spAt (clA K 2)) := init_ok I2 (T.ek 2) sc_init4 rfl rfl rfl
  have nu : Cld P w K mg base 1 "_law_numbers" 1 (ca3 (clA K)) f__law_numbers := by
    have Y : Known P w (kc K) (ca3 (clA K)) mg base S__law_numbers := ⟨own0 K, bl, (fun _ _ e => nomatch e), look_nil, (fun _ e => nomatch e), (fun _ e => nomatch e)⟩
    exact ⟨_, d1, _, glob_of kin G c (by decide +kernel), F1.kp, b1, def_ok (ne := 20) (n := 20) Y F1 sc__law_numbers (by decide) rfl rfl⟩
  have dr : Cld P w K mg base 1 "_law_draw" 3 (ca3 (clA K)) f__law_draw := by
    have Y : Known P w (kc K) (ca3 (clA K)) mg base S__law_draw := ⟨own0 K, bl, (fun _ _ e => nomatch e), look_nil, (fun _ e => nomatch e), (fun _ e => nomatch e)⟩
    exact ⟨_, d2, _, glob_of kin G c (by decide +kernel), F2.kp, b2, def_ok (ne := 20) (n := 20) Y F2 sc__law_draw (by decide) rfl rfl⟩
  have ta : Cld P w K mg base 2 "_law_take" 3 (ca3 (clA K)) f__law_take := by
    have Y : Known P w (kc K) (ca3 (clA K)) mg base S__law_take := ⟨own0 K, bl, (fun _ _ e => nomatch e), look_cons (by
      obtain ⟨g, fd, ps, x1, x2, x3, x4⟩ := dr.ex
      exact ⟨1, g, fd, ps, by decide, x1, x2, x3, x4⟩) look_nil, (fun _ e => nomatch e), (fun _ e => nomatch e)⟩
    exact ⟨_, d3, _, glob_of kin G c (by decide +kernel), F3.kp, b3, def_ok (ne := 20) (n := 20) Y F3 sc__law_take (by decide) rfl rfl⟩
  have wi : Cld P w K mg base 3 "_law_wide" 3 (ca3 (clA K)) f__law_wide := by
    have Y : Known P w (kc K) (ca3 (clA K)) mg base S__law_wide := ⟨own0 K, bl, (fun _ _ e => nomatch e), look_cons (by
      obtain ⟨g, fd, ps, x1, x2, x3, x4⟩ := ta.ex
      exact ⟨2, g, fd, ps, by decide, x1, x2, x3, x4⟩) look_nil, (fun _ e => nomatch e), (fun _ e => nomatch e)⟩
    exact ⟨_, d4, _, glob_of kin G c (by decide +kernel), F4.kp, b4, def_ok (ne := 20) (n := 20) Y F4 sc__law_wide (by decide) rfl rfl⟩
  have ra : Cld P w K mg base 3 "_law_raised" 2 (ca3 (clA K)) f__law_raised := by
    have Y : Known P w (kc K) (ca3 (clA K)) mg base S__law_raised := ⟨own0 K, bl, (fun _ _ e => nomatch e), look_nil, (fun _ e => nomatch e), fun x hx => by
      unfold S__law_raised exn0 exns at hx
      simp only [List.contains_cons, Bool.or_eq_true, beq_iff_eq, List.contains_nil, Bool.false_eq_true, or_false] at hx
      rcases hx with rfl | rfl | rfl
      · exact ⟨_, _, _, _, 1, rfl, T.ga 0, T.ek 0, O0, by decide, c0⟩
      · exact ⟨_, _, _, _, 1, rfl, T.ga 1, T.ek 1, O1, by decide, c1⟩
      · exact ⟨_, _, _, _, 1, rfl, T.ga 2, T.ek 2, O2, by decide, c2⟩⟩
    exact ⟨_, d5, _, glob_of kin G c (by decide +kernel), F5.kp, b5, def_ok (ne := 20) (n := 20) Y F5 sc__law_raised (by decide) rfl rfl⟩
  exact ⟨T, bl, free_of kin G c (by decide +kernel), free_of kin G c (by decide +kernel), free_of kin G c (by decide +kernel), nu, ta, wi, ra,
    ⟨_, d0, glob_of kin G c (by decide +kernel), F0.kp, b0, so_ok F0 (bl _ (by decide +kernel)) (bl _ (by decide +kernel)) (bl _ (by decide +kernel)) (bl _ (by decide +kernel))⟩⟩
/-- a def that lets nothing out -/
theorem to_cx0 {k : Nat} {g : Addr} {fd : FuncData} {ps : List Str} {sp : Sp} (F : FnOk P w K mg base (L2N.CX P w) k g fd ps sp) (any : ∀ vs H Q E E', sp vs H Q E → sp vs H Q E') : FnOk P w K mg base CX0 k g fd ps sp := by
  refine ⟨F.len, fun A outer s H args us vs Q E hr he hb hv hs => ?_⟩
  refine codeAny_mono (F.run A outer s H args us vs Q (fun _ _ _ => False) hr he hb hv (any _ _ _ _ _ hs)) fun r s' z => ?_
  cases r with
  | ok fl => cases fl <;> exact z
  | error e =>
    obtain ⟨_, _, _, _, _, _, _, _, _, _, _, _, no⟩ := z
    exact no.elim
theorem facts {fa' : Addr} (kin : K.In h) (G : h.Ns mainGlobals mg) (hfa : mg ("law" : Str) = some (.ref fa')) (c : SaysB fa fn exB K) :
    ∃ fd : FuncData, (∀ (s : Shared) (v : Value), BindsTo s fd ⟨[v], []⟩ [("script", v)]) ∧ ∀ base : Heap, K.In base → base.Ns mainGlobals mg → FnOk P w K mg base CX0 4 fa' fd ["script"] (spLaw K) := by
  obtain ⟨fd, F⟩ := c.1.def_ 6 (d := df "law" 12) rfl
  have e := hfa.symm.trans (glob_of kin G c (by decide +kernel))
  cases e
  have b := FunD.bindsA (ps := ["script"]) F fun _ _ _ _ _ _ us hl => match us, hl with | [_], _ => rfl
  exact ⟨fd, fun s v => b s [v] rfl, fun base _ _ => to_cx0 (law_ok (env_of kin G c) F) fun _ _ _ _ _ z => z⟩
end
end K0
open PySem PySem.W PySem.Calls PyProof.Rows
theorem PySem.Challenge.cw_pagesonce_k00_errors_holds : PySem.Challenge.rw_pagesonce_k00_errors.Holds := by
  w_on; o_law
  refine HandSHeadRun.head_any (r := OpenLaw.row PySem.Challenge.rw_pagesonce_k00_errors) (q := view (OpenLaw.row PySem.Challenge.rw_pagesonce_k00_errors).prog [12]) (H := K0.hk) (ob := K0.ob) (M := 3000) (loose := K0.loose) (d := HandSHeadRun.topDef (OpenLaw.row PySem.Challenge.rw_pagesonce_k00_errors).prog 12) (kwd := []) K0.ob_eq
    (by kernel_rfl) (fun s => by kernel_rfl) K0.run (by kernel_rfl) (by kernel_rfl) (by kernel_rfl) (by rfl) (by first | assumption | decide +kernel) (by decide +kernel) ⟨rfl, rfl, rfl, rfl, rfl, by decide +kernel⟩ ?hw ?hc
  case hw => w_witness2
  case hc =>
    refine L2.walk_ofE (l := PySem.Challenge.rw_pagesonce_k00_errors) (n := 63) (k := 4) (x := "script") (CX := L2.CX0) rfl (by decide) (by kernel_rfl) ⟨rfl, by decide, by decide⟩ ?F (fun _ _ _ _ z => z)
    intro w mg fa' h Y G hmg0
    obtain ⟨K, kin, c⟩ := Y
    have hmg : mg ("law" : PySem.Str) = some (.ref fa') := by
      have e : (HandSHeadRun.topDef (OpenLaw.row PySem.Challenge.rw_pagesonce_k00_errors).prog 12).name = ("law" : PySem.Str) := by kernel_rfl
      rw [← e]
      exact hmg0
    obtain ⟨fd, hb, hF⟩ := K0.facts (P := (PySem.Challenge.rw_pagesonce_k00_errors).prog) (w := w) kin G hmg c
    exact ⟨K, fd, K0.spLaw K, kin, hb, fun H a ns hl _ hS => ⟨a, ns, rfl, hS, fun _ => rfl⟩, hF⟩
