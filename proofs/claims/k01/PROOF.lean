import PyProof.Rows.All
import Wide.All
import OpenK.AllK
import Wide.FinOn
import PyProof.EqAt
import PyProof.EqKinds
import PyProof.TupleCall
import HandS.ForMost
import HandS.ForExc
import HandS.Evl
import HandS.Deep
import HandS.IsInst
import HandS.CallSlots
import HandS.Property
import HandS.ExcInit
import HandS.ExcField
import HandS.ExcIs
import HandS.OwnEq
import HandS.TupAny
import HandS.Defaults
import HandS.ExcCtx
import HandS.HotCalls
import HandS.ExcInitHot
import HandS.Head0
import HandS.Head1
import HandS.Head2
import HandS.HeadEnd
import HandS.HeadHook1
import HandS.HeadHook2
import KE.KExcInit
import HandS.TupMul
import PyProof.StrOps2
import KE.GoesEnum
import KE.GoesZip
import HandS.RaiseMore
import PySem.Challenge.RW_pagesonce_k01_printers_and_plans_as_give
set_option Elab.async false
set_option linter.all false
set_option maxRecDepth 100000
set_option maxHeartbeats 4000000
namespace DI
open PySem PySem.Spec PyProof.Rows L2

/-- plain data: what a value stands for, without addresses -/
inductive D where
  | non
  | bl (b : Bool)
  | int (i : Int)
  | str (s : Str)
  | lst (xs : List D)
  | fls (xs : List D)
  | tup (xs : List D)
  | obj (C : Str) (fs : List (Str × D))

/-- the written part, and where the own classes stand -/
structure Kc where
  K : PySem.W.Frag
  cl : Str → Option Addr

mutual
/-- v stands for d in the heap H -/
inductive Rp (K : Kc) (H : Hp) : V → D → Prop
  | non : Rp K H .non .non
  | bl (b : Bool) : Rp K H (.bl b) (.bl b)
  | int (i : Int) : Rp K H (.int i) (.int i)
  | str (x : Str) : Rp K H (.str x) (.str x)
  | lst {a : Addr} {xs : List V} {ds : List D} : H a = some (.lst xs) → RpA K H xs ds → Rp K H (.ref a) (.lst ds)
  | fls {a : Addr} {xs : List V} {ds : List D} : SqL K.K H a xs → RpA K H xs ds → Rp K H (.ref a) (.fls ds)
  | tup {a : Addr} {xs : List V} {ds : List D} : SqT K.K H a xs → RpA K H xs ds → Rp K H (.ref a) (.tup ds)
  | obj {a C dx : Addr} {c : Str} {fs : List (Str × V)} {gs : List (Str × D)} : K.cl c = some C → H a = some (.ins C dx fs) → RpF K H fs gs → Rp K H (.ref a) (.obj c gs)
inductive RpA (K : Kc) (H : Hp) : List V → List D → Prop
  | nil : RpA K H [] []
  | cons {v : V} {vs : List V} {d : D} {ds : List D} : Rp K H v d → RpA K H vs ds → RpA K H (v :: vs) (d :: ds)
inductive RpF (K : Kc) (H : Hp) : List (Str × V) → List (Str × D) → Prop
  | nil : RpF K H [] []
  | cons {x : Str} {v : V} {fs : List (Str × V)} {d : D} {gs : List (Str × D)} : Rp K H v d → RpF K H fs gs → RpF K H ((x, v) :: fs) ((x, d) :: gs)
end

abbrev Ex := Evl.Ex

section
variable {K : Kc} {H H' : Hp}
mutual
theorem Rp.mono (e : Ex H H') : ∀ {d : D} {v : V}, Rp K H v d → Rp K H' v d
  | .non, _, h => by cases h; exact .non
  | .bl b, _, h => by cases h; exact .bl b
  | .int i, _, h => by cases h; exact .int i
  | .str x, _, h => by cases h; exact .str x
  | .lst ds, _, h => by cases h with | lst a b => exact .lst (e _ _ a) (RpA.mono e b)
  | .fls ds, _, h => by cases h with | fls a b => exact .fls (Evl.ex_l e a) (RpA.mono e b)
  | .tup ds, _, h => by cases h with | tup a b => exact .tup (Evl.ex_t e a) (RpA.mono e b)
  | .obj C gs, _, h => by cases h with | obj z a b => exact .obj z (e _ _ a) (RpF.mono e b)
theorem RpA.mono (e : Ex H H') : ∀ {ds : List D} {vs : List V}, RpA K H vs ds → RpA K H' vs ds
  | [], _, h => by cases h; exact .nil
  | d :: ds, _, h => by cases h with | cons a b => exact .cons (Rp.mono e a) (RpA.mono e b)
theorem RpF.mono (e : Ex H H') : ∀ {gs : List (Str × D)} {fs : List (Str × V)}, RpF K H fs gs → RpF K H' fs gs
  | [], _, h => by cases h; exact .nil
  | (x, d) :: gs, _, h => by cases h with | cons a b => exact .cons (Rp.mono e a) (RpF.mono e b)
end
theorem RpA.length : ∀ {ds : List D} {vs : List V}, RpA K H vs ds → vs.length = ds.length
  | [], _, h => by cases h; rfl
  | d :: ds, _, h => by cases h with | cons a b => simp [RpA.length b]
theorem RpA.get : ∀ {ds : List D} {vs : List V} {i : Nat} {d : D}, RpA K H vs ds → ds[i]? = some d → ∃ v, vs[i]? = some v ∧ Rp K H v d
  | [], _, _, _, _, e => by simp at e
  | d :: ds, _, 0, _, h, e => by
    cases h with | cons a b => simp at e; subst e; exact ⟨_, rfl, a⟩
  | d :: ds, _, i + 1, _, h, e => by
    cases h with | cons a b =>
      obtain ⟨v, h1, h2⟩ := RpA.get (i := i) b (by simpa using e)
      exact ⟨v, by simpa using h1, h2⟩
theorem RpA.get' : ∀ {ds : List D} {vs : List V} {i : Nat} {v : V}, RpA K H vs ds → vs[i]? = some v → ∃ d, ds[i]? = some d ∧ Rp K H v d
  | [], _, _, _, h, e => by cases h; simp at e
  | d :: ds, _, 0, _, h, e => by
    cases h with | cons a b => simp at e; subst e; exact ⟨_, rfl, a⟩
  | d :: ds, _, i + 1, _, h, e => by
    cases h with | cons a b =>
      obtain ⟨v, h1, h2⟩ := RpA.get' (i := i) b (by simpa using e)
      exact ⟨v, by simpa using h1, h2⟩
theorem RpA.append : ∀ {ds es : List D} {vs ws : List V}, RpA K H vs ds → RpA K H ws es → RpA K H (vs ++ ws) (ds ++ es)
  | [], _, _, _, h, g => by cases h; exact g
  | d :: ds, _, _, _, h, g => by cases h with | cons a b => exact .cons a (RpA.append b g)
theorem RpA.take : ∀ {ds : List D} {vs : List V} (n : Nat), RpA K H vs ds → RpA K H (vs.take n) (ds.take n)
  | _, _, 0, _ => by simpa using .nil
  | [], _, n + 1, h => by cases h; exact .nil
  | d :: ds, _, n + 1, h => by cases h with | cons a b => exact .cons a (RpA.take n b)
theorem RpA.drop : ∀ {ds : List D} {vs : List V} (n : Nat), RpA K H vs ds → RpA K H (vs.drop n) (ds.drop n)
  | _, _, 0, h => by simpa using h
  | [], _, n + 1, h => by cases h; exact .nil
  | d :: ds, _, n + 1, h => by cases h with | cons a b => exact RpA.drop n b
theorem RpA.set {d : D} {v : V} (r : Rp K H v d) : ∀ {ds : List D} {vs : List V} (n : Nat), RpA K H vs ds → RpA K H (vs.set n v) (ds.set n d)
  | [], _, _, h => by cases h; exact .nil
  | e :: ds, _, 0, h => by cases h with | cons a b => exact .cons r b
  | e :: ds, _, n + 1, h => by cases h with | cons a b => exact .cons a (RpA.set r n b)
theorem RpF.lookup {x : Str} {d : D} : ∀ {gs : List (Str × D)} {fs : List (Str × V)}, RpF K H fs gs → gs.lookup x = some d → ∃ v, fs.lookup x = some v ∧ Rp K H v d
  | [], _, _, e => by simp at e
  | (y, e) :: gs, _, h, q => by
    cases h with | cons a b =>
      simp only [List.lookup_cons] at q ⊢
      cases z : x == y with
      | true => rw [z] at q; simp only [Option.some.injEq] at q; subst q; exact ⟨_, rfl, a⟩
      | false => rw [z] at q; exact RpF.lookup b q
theorem RpF.none {x : Str} : ∀ {gs : List (Str × D)} {fs : List (Str × V)}, RpF K H fs gs → gs.lookup x = .none → fs.lookup x = .none
  | [], _, h, e => by cases h; rfl
  | (y, e) :: gs, _, h, q => by
    cases h with | cons a b =>
      simp only [List.lookup_cons] at q ⊢
      cases z : x == y with
      | true => rw [z] at q; simp at q
      | false => rw [z] at q; exact RpF.none b q
theorem RpF.length : ∀ {gs : List (Str × D)} {fs : List (Str × V)}, RpF K H fs gs → fs.length = gs.length
  | [], _, h => by cases h; rfl
  | (x, d) :: ds, _, h => by cases h with | cons a b => simp [RpF.length b]
end

/-! ### plain data as the library has it (for ==, in) -/
mutual
def toPy : D → Option PyData
  | .non => some .none
  | .bl b => some (.bool b)
  | .int i => some (.int i)
  | .str x => some (.str x)
  | .lst xs => (toPyA xs).map .list
  | .fls _ => none
  | .tup xs => (toPyA xs).map .tuple
  | .obj _ _ => none
def toPyA : List D → Option (List PyData)
  | [] => some []
  | d :: ds => match toPy d, toPyA ds with
    | some p, some ps => some (p :: ps)
    | _, _ => none
end
section
variable {K : Kc} {H : Hp}
mutual
theorem Rp.dp : ∀ {d : D} {v : V} {p : PyData}, Rp K H v d → toPy d = some p → Dp K.K H v p
  | .non, _, _, h, e => by cases h; simp only [toPy, Option.some.injEq] at e; subst e; exact .non
  | .bl b, _, _, h, e => by cases h; simp only [toPy, Option.some.injEq] at e; subst e; exact .bl b
  | .int i, _, _, h, e => by cases h; simp only [toPy, Option.some.injEq] at e; subst e; exact .int i
  | .str x, _, _, h, e => by cases h; simp only [toPy, Option.some.injEq] at e; subst e; exact .str x
  | .lst ds, _, _, h, e => by
    cases h with | lst a b =>
      simp only [toPy, Option.map_eq_some_iff] at e
      obtain ⟨ps, e, rfl⟩ := e
      exact .lst (.inl (.inl a)) (RpA.dp b e)
  | .fls ds, _, _, h, e => by simp [toPy] at e
  | .tup ds, _, _, h, e => by
    cases h with | tup a b =>
      simp only [toPy, Option.map_eq_some_iff] at e
      obtain ⟨ps, e, rfl⟩ := e
      exact .tup a (RpA.dp b e)
  | .obj C gs, _, _, h, e => by simp [toPy] at e
theorem RpA.dp : ∀ {ds : List D} {vs : List V} {ps : List PyData}, RpA K H vs ds → toPyA ds = some ps → DpAll K.K H vs ps
  | [], _, _, h, e => by cases h; simp only [toPyA, Option.some.injEq] at e; subst e; exact .nil
  | d :: ds, _, _, h, e => by
    cases h with | cons a b =>
      simp only [toPyA] at e
      cases h1 : toPy d with
      | none => rw [h1] at e; simp at e
      | some p =>
        cases h2 : toPyA ds with
        | none => rw [h1, h2] at e; simp at e
        | some ps =>
          rw [h1, h2] at e; simp only [Option.some.injEq] at e; subst e
          exact .cons (Rp.dp a h1) (RpA.dp b h2)
end
end
end DI
set_option maxRecDepth 100000
set_option maxHeartbeats 4000000
namespace DI
open PySem PySem.Spec PyProof.Rows L2

/-- what a name alone holds and may change -/
inductive M where
  | lst (ds : List D)
  | ins (C : Str) (fs : List (Str × D))
def M.frz : M → D
  | .lst ds => .lst ds
  | .ins C gs => .obj C gs
inductive MOk (K : Kc) (Hf H : Hp) : Addr → M → Prop
  | lst {p : Addr} {xs : List V} {ds : List D} : Hf p = none → H p = some (.lst xs) → RpA K Hf xs ds → MOk K Hf H p (.lst ds)
  | ins {p C dx : Addr} {c : Str} {fs : List (Str × V)} {gs : List (Str × D)} : K.cl c = some C → Hf p = none → H p = some (.ins C dx fs) → RpF K Hf fs gs → MOk K Hf H p (.ins c gs)
theorem MOk.no {K : Kc} {Hf H : Hp} {p : Addr} {m : M} (h : MOk K Hf H p m) : Hf p = none := by cases h <;> assumption
theorem MOk.there {K : Kc} {Hf H : Hp} {p : Addr} {m : M} (h : MOk K Hf H p m) : ∃ o, H p = some o := by cases h with | lst _ e _ => exact ⟨_, e⟩ | ins _ _ e _ => exact ⟨_, e⟩
theorem MOk.mono {K : Kc} {Hf H Hf' H' : Hp} {p : Addr} {m : M} (h : MOk K Hf H p m) (e : Ex Hf Hf') (n : Hf' p = none) (k : ∀ o, H p = some o → H' p = some o) : MOk K Hf' H' p m := by
  cases h with
  | lst a b c => exact .lst n (k _ b) (c.mono e)
  | ins z a b c => exact .ins z n (k _ b) (c.mono e)
/-- frozen: it is plain data from then on -/
theorem MOk.frz {K : Kc} {Hf H : Hp} {p : Addr} {m : M} (h : MOk K Hf H p m) : ∃ o, H p = some o ∧ Rp K (upd Hf p o) (.ref p) m.frz := by
  cases h with
  | lst a b c => exact ⟨_, b, .lst upd_same (c.mono (Evl.Ex.new a))⟩
  | ins z a b c => exact ⟨_, b, .obj z upd_same (c.mono (Evl.Ex.new a))⟩
/-- as it stands now -/
theorem MOk.now {K : Kc} {Hf H : Hp} {p : Addr} {m : M} (h : MOk K Hf H p m) (e : Ex Hf H) : Rp K H (.ref p) m.frz := by
  cases h with
  | lst a b c => exact .lst b (c.mono e)
  | ins z a b c => exact .obj z b (c.mono e)

inductive Sl where
  | no
  | val (d : D)
  | own (m : M)
  | ref (m : M)
abbrev Rho := List Sl

/-- the entry: the heap, its plain part, the slots that are handed by reference -/
structure Wd where
  K : Kc
  H0 : Hp
  Hf0 : Hp
  rf : Nat → Option Addr

structure Stt (W : Wd) (Hf H : Hp) (σ : L2.St) (ρ : Rho) : Prop where
  ex : Ex Hf H
  grow : Ex W.Hf0 Hf
  frozen : ∀ a o, Hf a = some o → W.Hf0 a = some o ∨ W.H0 a = none
  keep : ∀ a o, W.H0 a = some o → (∀ i, W.rf i ≠ some a) → H a = some o
  live : ∀ a o, W.H0 a = some o → ∃ o', H a = some o'
  len : σ.length = ρ.length
  val : ∀ (i : Nat) (d : D), ρ[i]? = some (Sl.val d) → ∃ v, σ[i]? = some (some v) ∧ Rp W.K Hf v d
  own : ∀ (i : Nat) (m : M), ρ[i]? = some (Sl.own m) → ∃ p : Addr, σ[i]? = some (some (V.ref p)) ∧ W.H0 p = none ∧ MOk W.K Hf H p m
  ref : ∀ (i : Nat) (m : M), ρ[i]? = some (Sl.ref m) → ∃ p : Addr, σ[i]? = some (some (V.ref p)) ∧ W.rf i = some p ∧ MOk W.K Hf H p m
  sep : ∀ (i j : Nat) (m m' : M) (p : Addr), i ≠ j → ρ[i]? = some (Sl.own m) → ρ[j]? = some (Sl.own m') → σ[i]? = some (some (V.ref p)) → σ[j]? ≠ some (some (V.ref p))
  inj : ∀ i j p, W.rf i = some p → W.rf j = some p → i = j
  rfH : ∀ i p, W.rf i = some p → ∃ o, W.H0 p = some o

/-- an address that no name holds for itself -/
def Apart (σ : L2.St) (ρ : Rho) (p : Addr) : Prop := ∀ (i : Nat) (m : M), ρ[i]? = some (Sl.own m) → σ[i]? ≠ some (some (V.ref p))

section
variable {W : Wd} {Hf H Hf' H' : Hp} {σ : L2.St} {ρ : Rho} {p : Addr} {o : HO} {i : Nat} {m : M} {d : D} {v : V}

/-- the plain part grows, nothing that is tracked is lost -/
theorem Stt.step (S : Stt W Hf H σ ρ) (e1 : Ex Hf Hf') (e2 : Ex Hf' H') (k : Ex H H') (fr : ∀ a o, Hf' a = some o → Hf a = some o ∨ H a = none) : Stt W Hf' H' σ ρ := by
  have no : ∀ {q : Addr} {n : M}, MOk W.K Hf H q n → Hf' q = none := fun {q n} h => by
    cases z : Hf' q with
    | none => rfl
    | some u =>
      rcases fr q u z with y | y
      · rw [h.no] at y; cases y
      · obtain ⟨o, e⟩ := h.there; rw [e] at y; cases y
  refine ⟨e2, S.grow.trans e1, fun a o h => ?_, fun a o h n => k _ _ (S.keep a o h n), fun a o h => ?_, S.len, fun i d h => ?_, fun i m h => ?_, fun i m h => ?_, S.sep, S.inj, S.rfH⟩
  · rcases fr a o h with z | z
    · exact S.frozen a o z
    · refine .inr ?_
      cases y : W.H0 a with
      | none => rfl
      | some u => obtain ⟨o', e⟩ := S.live a u y; rw [e] at z; cases z
  · obtain ⟨o', e⟩ := S.live a o h; exact ⟨o', k _ _ e⟩
  · obtain ⟨v, a, b⟩ := S.val i d h; exact ⟨v, a, b.mono e1⟩
  · obtain ⟨p, a, b, c⟩ := S.own i m h; exact ⟨p, a, b, c.mono e1 (no c) (k _)⟩
  · obtain ⟨p, a, b, c⟩ := S.ref i m h; exact ⟨p, a, b, c.mono e1 (no c) (k _)⟩
/-- a new plain object -/
theorem Stt.laid (S : Stt W Hf H σ ρ) (n : H p = none) : Stt W (upd Hf p o) (upd H p o) σ ρ ∧ Ex Hf (upd Hf p o) ∧ Ex H (upd H p o) := by
  have nf : Hf p = none := Evl.fresh_back S.ex n
  have e1 : Ex Hf (upd Hf p o) := Evl.Ex.new nf
  refine ⟨S.step e1 (fun a u h => ?_) (Evl.Ex.new n) (fun a u h => ?_), e1, Evl.Ex.new n⟩
  · by_cases z : a = p
    · subst z; rw [upd_same] at h ⊢; exact h
    · rw [upd_ne z] at h ⊢; exact S.ex _ _ h
  · by_cases z : a = p
    · subst z; exact .inr n
    · rw [upd_ne z] at h; exact .inl h
/-- a new object that may change -/
theorem Stt.made (S : Stt W Hf H σ ρ) (n : H p = none) : Stt W Hf (upd H p o) σ ρ :=
  S.step (Evl.Ex.refl _) (S.ex.trans (Evl.Ex.new n)) (Evl.Ex.new n) fun a u h => .inl h
theorem Stt.apart (S : Stt W Hf H σ ρ) (n : H p = none) : Apart σ ρ p := fun i m h e => by
  obtain ⟨q, a, b, c⟩ := S.own i m h
  rw [e] at a; cases a
  obtain ⟨o, z⟩ := c.there; rw [n] at z; cases z
theorem Stt.H0none (S : Stt W Hf H σ ρ) (n : H p = none) : W.H0 p = none := by
  cases y : W.H0 p with
  | none => rfl
  | some u => obtain ⟨o', e⟩ := S.live p u y; rw [n] at e; cases e
theorem Stt.notRef (S : Stt W Hf H σ ρ) (n : W.H0 p = none) : W.rf i ≠ some p := fun h => by
  obtain ⟨o, e⟩ := S.rfH i p h; rw [n] at e; cases e

/-- what is at p, held by no name, becomes plain -/
theorem Stt.frzNew (S : Stt W Hf H σ ρ) (n0 : W.H0 p = none) (mo : MOk W.K Hf H p m) (ap : Apart σ ρ p) : ∃ Hf', Stt W Hf' H σ ρ ∧ Ex Hf Hf' ∧ Rp W.K Hf' (.ref p) m.frz := by
  obtain ⟨o, ho, r⟩ := mo.frz
  have e1 : Ex Hf (upd Hf p o) := Evl.Ex.new mo.no
  refine ⟨upd Hf p o, ?_, e1, r⟩
  refine ⟨fun a u h => ?_, S.grow.trans e1, fun a u h => ?_, S.keep, S.live, S.len, fun i d h => ?_, fun i m' h => ?_, fun i m' h => ?_, S.sep, S.inj, S.rfH⟩
  · by_cases z : a = p
    · subst z; rw [upd_same] at h; cases h; exact ho
    · rw [upd_ne z] at h; exact S.ex _ _ h
  · by_cases z : a = p
    · subst z; exact .inr n0
    · rw [upd_ne z] at h; exact S.frozen _ _ h
  · obtain ⟨v, a, b⟩ := S.val i d h; exact ⟨v, a, b.mono e1⟩
  · obtain ⟨q, a, b, c⟩ := S.own i m' h
    have ne : q ≠ p := fun z => ap i m' h (z ▸ a)
    exact ⟨q, a, b, c.mono e1 (by rw [upd_ne ne]; exact c.no) fun _ z => z⟩
  · obtain ⟨q, a, b, c⟩ := S.ref i m' h
    have ne : q ≠ p := fun z => S.notRef n0 (z ▸ b)
    exact ⟨q, a, b, c.mono e1 (by rw [upd_ne ne]; exact c.no) fun _ z => z⟩
theorem getset {α : Type} {l : List α} {i j : Nat} {x y : α} (h : (l.set i x)[j]? = some y) : (j = i ∧ x = y) ∨ (j ≠ i ∧ l[j]? = some y) := by
  by_cases z : i = j
  · subst z
    by_cases k : i < l.length
    · rw [List.getElem?_set_self k] at h; exact .inl ⟨rfl, Option.some.inj h⟩
    · rw [List.getElem?_eq_none (by simpa using k)] at h; cases h
  · rw [List.getElem?_set_ne z] at h; exact .inr ⟨fun e => z e.symm, h⟩
/-- a name's list becomes plain -/
theorem Stt.frzSlot (S : Stt W Hf H σ ρ) (h : ρ[i]? = some (Sl.own m)) : ∃ (Hf' : Hp) (p : Addr), σ[i]? = some (some (V.ref p)) ∧ Stt W Hf' H σ (ρ.set i (.val m.frz)) ∧ Ex Hf Hf' ∧ Rp W.K Hf' (.ref p) m.frz := by
  obtain ⟨p, hp, n0, mo⟩ := S.own i m h
  obtain ⟨o, ho, r⟩ := mo.frz
  have e1 : Ex Hf (upd Hf p o) := Evl.Ex.new mo.no
  refine ⟨upd Hf p o, p, hp, ?_, e1, r⟩
  refine ⟨fun a u h => ?_, S.grow.trans e1, fun a u h => ?_, S.keep, S.live, by simpa using S.len, fun j d g => ?_, fun j m' g => ?_, fun j m' g => ?_, fun j k m1 m2 q ne g1 g2 => ?_, S.inj, S.rfH⟩
  · by_cases z : a = p
    · subst z; rw [upd_same] at h; cases h; exact ho
    · rw [upd_ne z] at h; exact S.ex _ _ h
  · by_cases z : a = p
    · subst z; exact .inr n0
    · rw [upd_ne z] at h; exact S.frozen _ _ h
  · rcases getset g with ⟨rfl, z⟩ | ⟨ne, g⟩
    · cases z; exact ⟨_, hp, r⟩
    · obtain ⟨v, a, b⟩ := S.val j d g; exact ⟨v, a, b.mono e1⟩
  · rcases getset g with ⟨rfl, z⟩ | ⟨ne, g⟩
    · cases z
    · obtain ⟨q, a, b, c⟩ := S.own j m' g
      have nq : q ≠ p := fun z => S.sep i j m m' p (fun z => ne z.symm) h g hp (z ▸ a)
      exact ⟨q, a, b, c.mono e1 (by rw [upd_ne nq]; exact c.no) fun _ z => z⟩
  · rcases getset g with ⟨rfl, z⟩ | ⟨ne, g⟩
    · cases z
    · obtain ⟨q, a, b, c⟩ := S.ref j m' g
      have nq : q ≠ p := fun z => S.notRef n0 (z ▸ b)
      exact ⟨q, a, b, c.mono e1 (by rw [upd_ne nq]; exact c.no) fun _ z => z⟩
  · rcases getset g1 with ⟨rfl, z⟩ | ⟨_, g1⟩
    · cases z
    · rcases getset g2 with ⟨rfl, z⟩ | ⟨_, g2⟩
      · cases z
      · exact S.sep j k m1 m2 q ne g1 g2

/-- what a name holds is written: own or by reference -/
theorem Stt.write (S : Stt W Hf H σ ρ) (m' : M) (s s' : Sl) (hs : (s = .own m ∧ s' = .own m') ∨ (s = .ref m ∧ s' = .ref m')) (h : ρ[i]? = some s) (hp : σ[i]? = some (some (V.ref p)))
    (mo : MOk W.K Hf (upd H p o) p m') : Stt W Hf (upd H p o) σ (ρ.set i s') := by
  have key : (W.H0 p = none ∧ s = .own m ∧ s' = .own m') ∨ (W.rf i = some p ∧ s = .ref m ∧ s' = .ref m') := by
    rcases hs with ⟨rfl, rfl⟩ | ⟨rfl, rfl⟩
    · obtain ⟨q, a, b, c⟩ := S.own i m h
      rw [hp] at a; cases a; exact .inl ⟨b, rfl, rfl⟩
    · obtain ⟨q, a, b, c⟩ := S.ref i m h
      rw [hp] at a; cases a; exact .inr ⟨b, rfl, rfl⟩
  have nf := mo.no
  have other : ∀ {j q n}, j ≠ i → ρ[j]? = some (.own n) → σ[j]? = some (some (.ref q)) → q ≠ p := fun {j q n} ne g a z => by
    subst z
    rcases key with ⟨k, rfl, _⟩ | ⟨k, _, _⟩
    · exact S.sep j i _ _ _ ne g h a hp
    · obtain ⟨q', a', b, c⟩ := S.own j n g
      rw [a] at a'; cases a'
      exact S.notRef b k
  have otherR : ∀ {j q n}, j ≠ i → ρ[j]? = some (.ref n) → W.rf j = some q → q ≠ p := fun {j q n} ne g a z => by
    subst z
    rcases key with ⟨k, rfl, _⟩ | ⟨k, _, _⟩
    · exact S.notRef k a
    · exact ne (S.inj _ _ _ a k)
  refine ⟨fun a u g => ?_, S.grow, S.frozen, fun a u g n => ?_, fun a u g => ?_, by simpa using S.len, fun j d g => ?_, fun j n g => ?_, fun j n g => ?_, fun j k m1 m2 q ne g1 g2 => ?_, S.inj, S.rfH⟩
  · by_cases z : a = p
    · subst z; rw [nf] at g; cases g
    · rw [upd_ne z]; exact S.ex _ _ g
  · by_cases z : a = p
    · subst z
      rcases key with ⟨k, _, _⟩ | ⟨k, _, _⟩
      · rw [k] at g; cases g
      · exact absurd k (n i)
    · rw [upd_ne z]; exact S.keep _ _ g n
  · by_cases z : a = p
    · subst z; exact ⟨_, upd_same⟩
    · obtain ⟨o', e⟩ := S.live a u g; exact ⟨o', by rw [upd_ne z]; exact e⟩
  · rcases getset g with ⟨rfl, z⟩ | ⟨ne, g⟩
    · rcases key with ⟨_, _, rfl⟩ | ⟨_, _, rfl⟩ <;> cases z
    · exact S.val j d g
  · rcases getset g with ⟨rfl, z⟩ | ⟨ne, g⟩
    · rcases key with ⟨k, _, rfl⟩ | ⟨_, _, rfl⟩
      · cases z; exact ⟨p, hp, k, mo⟩
      · cases z
    · obtain ⟨q, a, b, c⟩ := S.own j n g
      exact ⟨q, a, b, c.mono (Evl.Ex.refl _) c.no fun u z => by rw [upd_ne (other ne g a)]; exact z⟩
  · rcases getset g with ⟨rfl, z⟩ | ⟨ne, g⟩
    · rcases key with ⟨k, _, rfl⟩ | ⟨k, _, rfl⟩
      · cases z
      · cases z; exact ⟨p, hp, k, mo⟩
    · obtain ⟨q, a, b, c⟩ := S.ref j n g
      exact ⟨q, a, b, c.mono (Evl.Ex.refl _) c.no fun u z => by rw [upd_ne (otherR ne g b)]; exact z⟩
  · rcases getset g1 with ⟨y1, z1⟩ | ⟨n1, k1⟩ <;> rcases getset g2 with ⟨y2, z2⟩ | ⟨n2, k2⟩
    · exact absurd (y1.trans y2.symm) ne
    · rcases key with ⟨_, rfl, rfl⟩ | ⟨_, _, rfl⟩
      · subst y1; exact S.sep _ _ _ _ _ ne h k2
      · cases z1
    · rcases key with ⟨_, rfl, rfl⟩ | ⟨_, _, rfl⟩
      · subst y2; exact S.sep _ _ _ _ _ ne k1 h
      · cases z2
    · exact S.sep _ _ _ _ _ ne k1 k2
/-- a name is stored: plain -/
theorem Stt.setVal (S : Stt W Hf H σ ρ) (r : Rp W.K Hf v d) (nr : ∀ n : M, ρ[i]? ≠ some (Sl.ref n)) : Stt W Hf H (σ.set i (some v)) (ρ.set i (.val d)) := by
  refine ⟨S.ex, S.grow, S.frozen, S.keep, S.live, by simpa using S.len, fun j d' g => ?_, fun j n g => ?_, fun j n g => ?_, fun j k m1 m2 q ne g1 g2 e1 e2 => ?_, S.inj, S.rfH⟩
  · rcases getset g with ⟨rfl, z⟩ | ⟨ne, g⟩
    · cases z
      by_cases k : j < σ.length
      · exact ⟨v, List.getElem?_set_self k, r⟩
      · rw [List.getElem?_eq_none (by simpa [← S.len] using k)] at g; cases g
    · obtain ⟨w, a, b⟩ := S.val j d' g
      exact ⟨w, by rw [List.getElem?_set_ne (Ne.symm ne)]; exact a, b⟩
  · rcases getset g with ⟨rfl, z⟩ | ⟨ne, g⟩
    · cases z
    · obtain ⟨w, a, b⟩ := S.own j n g
      exact ⟨w, by rw [List.getElem?_set_ne (Ne.symm ne)]; exact a, b⟩
  · rcases getset g with ⟨rfl, z⟩ | ⟨ne, g⟩
    · cases z
    · obtain ⟨w, a, b⟩ := S.ref j n g
      exact ⟨w, by rw [List.getElem?_set_ne (Ne.symm ne)]; exact a, b⟩
  · rcases getset g1 with ⟨rfl, z⟩ | ⟨n1, g1⟩
    · cases z
    · rcases getset g2 with ⟨rfl, z⟩ | ⟨n2, g2⟩
      · cases z
      · rw [List.getElem?_set_ne (Ne.symm n1)] at e1
        rw [List.getElem?_set_ne (Ne.symm n2)] at e2
        exact S.sep j k m1 m2 q ne g1 g2 e1 e2
/-- a name is stored: what it alone holds -/
theorem Stt.setOwn (S : Stt W Hf H σ ρ) (n0 : W.H0 p = none) (mo : MOk W.K Hf H p m) (ap : Apart σ ρ p) (nr : ∀ n : M, ρ[i]? ≠ some (Sl.ref n)) : Stt W Hf H (σ.set i (some (.ref p))) (ρ.set i (.own m)) := by
  refine ⟨S.ex, S.grow, S.frozen, S.keep, S.live, by simpa using S.len, fun j d' g => ?_, fun j n g => ?_, fun j n g => ?_, fun j k m1 m2 q ne g1 g2 e1 e2 => ?_, S.inj, S.rfH⟩
  · rcases getset g with ⟨rfl, z⟩ | ⟨ne, g⟩
    · cases z
    · obtain ⟨w, a, b⟩ := S.val j d' g
      exact ⟨w, by rw [List.getElem?_set_ne (Ne.symm ne)]; exact a, b⟩
  · rcases getset g with ⟨rfl, z⟩ | ⟨ne, g⟩
    · cases z
      by_cases k : j < σ.length
      · exact ⟨p, List.getElem?_set_self k, n0, mo⟩
      · rw [List.getElem?_eq_none (by simpa [← S.len] using k)] at g; cases g
    · obtain ⟨w, a, b⟩ := S.own j n g
      exact ⟨w, by rw [List.getElem?_set_ne (Ne.symm ne)]; exact a, b⟩
  · rcases getset g with ⟨rfl, z⟩ | ⟨ne, g⟩
    · cases z
    · obtain ⟨w, a, b⟩ := S.ref j n g
      exact ⟨w, by rw [List.getElem?_set_ne (Ne.symm ne)]; exact a, b⟩
  · rcases getset g1 with ⟨y1, z1⟩ | ⟨n1, k1⟩ <;> rcases getset g2 with ⟨y2, z2⟩ | ⟨n2, k2⟩
    · exact absurd (y1.trans y2.symm) ne
    · subst y1
      rw [List.getElem?_set_ne (Ne.symm n2)] at e2
      by_cases l : j < σ.length
      · rw [List.getElem?_set_self l] at e1
        simp only [Option.some.injEq, V.ref.injEq] at e1
        subst e1
        exact ap _ _ k2 e2
      · rw [List.getElem?_eq_none (by simpa using l)] at e1; cases e1
    · subst y2
      rw [List.getElem?_set_ne (Ne.symm n1)] at e1
      by_cases l : k < σ.length
      · rw [List.getElem?_set_self l] at e2
        simp only [Option.some.injEq, V.ref.injEq] at e2
        subst e2
        exact ap _ _ k1 e1
      · rw [List.getElem?_eq_none (by simpa using l)] at e2; cases e2
    · rw [List.getElem?_set_ne (Ne.symm n1)] at e1
      rw [List.getElem?_set_ne (Ne.symm n2)] at e2
      exact S.sep j k m1 m2 q ne k1 k2 e1 e2
/-- a name is forgotten -/
theorem Stt.setNo {ov : Option V} (S : Stt W Hf H σ ρ) (nr : ∀ n : M, ρ[i]? ≠ some (Sl.ref n)) : Stt W Hf H (σ.set i ov) (ρ.set i .no) := by
  refine ⟨S.ex, S.grow, S.frozen, S.keep, S.live, by simpa using S.len, fun j d' g => ?_, fun j n g => ?_, fun j n g => ?_, fun j k m1 m2 q ne g1 g2 e1 e2 => ?_, S.inj, S.rfH⟩
  · rcases getset g with ⟨rfl, z⟩ | ⟨ne, g⟩
    · cases z
    · obtain ⟨w, a, b⟩ := S.val j d' g
      exact ⟨w, by rw [List.getElem?_set_ne (Ne.symm ne)]; exact a, b⟩
  · rcases getset g with ⟨rfl, z⟩ | ⟨ne, g⟩
    · cases z
    · obtain ⟨w, a, b⟩ := S.own j n g
      exact ⟨w, by rw [List.getElem?_set_ne (Ne.symm ne)]; exact a, b⟩
  · rcases getset g with ⟨rfl, z⟩ | ⟨ne, g⟩
    · cases z
    · obtain ⟨w, a, b⟩ := S.ref j n g
      exact ⟨w, by rw [List.getElem?_set_ne (Ne.symm ne)]; exact a, b⟩
  · rcases getset g1 with ⟨rfl, z⟩ | ⟨n1, g1⟩
    · cases z
    · rcases getset g2 with ⟨rfl, z⟩ | ⟨n2, g2⟩
      · cases z
      · rw [List.getElem?_set_ne (Ne.symm n1)] at e1
        rw [List.getElem?_set_ne (Ne.symm n2)] at e2
        exact S.sep j k m1 m2 q ne g1 g2 e1 e2
end
end DI
set_option maxRecDepth 100000
set_option maxHeartbeats 4000000
namespace DI
open PySem PySem.Spec PyProof.Rows L2

/-- how a piece of text ends: with a thing, or an error of the class c whose only field is d -/
inductive Out (α : Type) where
  | ok (a : α) (ρ : Rho)
  | exc (c : Str) (d : D) (ρ : Rho)
abbrev Den (α : Type) := Rho → Option (Out α)
/-- a value: plain, or new and held by nobody -/
inductive RV where
  | val (d : D)
  | new (m : M)
def RV.frz : RV → D
  | .val d => d
  | .new m => m.frz
def ret {α : Type} (a : α) : Den α := fun ρ => some (.ok a ρ)
def stuck {α : Type} : Den α := fun _ => none
def bnd {α β : Type} (x : Den α) (k : α → Den β) : Den β := fun ρ => match x ρ with
  | none => none
  | some (.exc c d ρ') => some (.exc c d ρ')
  | some (.ok a ρ') => k a ρ'
/-- what a reading needs besides: the wish for errors, the classes' addresses -/
structure Ck where
  W : Wd
  Wx : WX
  ca : Str → Option Addr
def RvOk (W : Wd) (Hf H : Hp) (σ : L2.St) (ρ : Rho) : RV → V → Prop
  | .val d, v => Rp W.K Hf v d
  | .new m, v => ∃ p, v = .ref p ∧ W.H0 p = none ∧ MOk W.K Hf H p m ∧ Apart σ ρ p
/-- how the thing lies: (world, plain heap, heap, slots, slots' meaning) -/
abbrev Lie (α β : Type) := Wd → Hp → Hp → L2.St → Rho → α → β → Prop
def lV : Lie RV V := RvOk
def lD : Lie D V := fun W Hf _ _ _ d v => Rp W.K Hf v d
def lA : Lie (List D) (List V) := fun W Hf _ _ _ ds vs => RpA W.K Hf vs ds
def lB : Lie Bool Bool := fun _ _ _ _ _ b b' => b' = b
def Fin {α β : Type} (C : Ck) (P : Lie α β) (σ : L2.St) (Hf : Hp) (o : Out α) (Q : β → Hp → Prop) : Prop := match o with
  | .ok a ρ' => ∀ b Hf' H', Stt C.W Hf' H' σ ρ' → Ex Hf Hf' → P C.W Hf' H' σ ρ' a b → Q b H'
  | .exc c d ρ' => ∀ Hf' H' A dd v, Stt C.W Hf' H' σ ρ' → Ex Hf Hf' → C.ca c = some A → H' dd = some (.xd [(("at" : Str), v)]) → C.W.H0 dd = none → Rp C.W.K Hf' v d → C.Wx (.ref A) (some dd) σ H'
def tG {α β : Type} (C : Ck) (P : Lie α β) (x : Den α) : L2.St → Hp → (β → Hp → Prop) → Prop := fun σ H Q =>
  ∃ Hf ρ o, Stt C.W Hf H σ ρ ∧ x ρ = some o ∧ Fin C P σ Hf o Q

section
variable {X : Cx} {e : Expr} {t t' : TE}
theorem _root_.L2.PE.imp (h : PE X e t) (k : ∀ σ H Q, t' σ H Q → t σ H Q) : PE X e t' := ⟨fun pins s σ H Q I hq => h.run pins s σ H Q I (k σ H Q hq)⟩
theorem _root_.L2.PT.imp {t t' : TT} (h : PT X e t) (k : ∀ σ H Q, t' σ H Q → t σ H Q) : PT X e t' := ⟨fun pins s σ H Q I hq => h.run pins s σ H Q I (k σ H Q hq)⟩
theorem _root_.L2.PA.imp {es : List Expr} {t t' : TA} (h : PA X es t) (k : ∀ σ H Q, t' σ H Q → t σ H Q) : PA X es t' := ⟨fun pos pins s σ H Q I hq => h.run pos pins s σ H Q I (k σ H Q hq)⟩
theorem _root_.L2.PW.imp {t t' : TT} (h : PW X e t) (k : ∀ σ H Q, t' σ H Q → t σ H Q) : PW X e t' := ⟨fun w pins s σ H Q I hq => h.run w pins s σ H Q I (k σ H Q hq)⟩
theorem _root_.L2.PS.imp {st : Stmt} {t t' : TS} (h : PS X st t) (k : ∀ D σ H, t' D σ H → t D σ H) : PS X st t' := ⟨fun pins s σ H D I hq => h.run pins s σ H D I (k D σ H hq)⟩
theorem _root_.L2.PSs.imp {st : List Stmt} {t t' : TS} (h : PSs X st t) (k : ∀ D σ H, t' D σ H → t D σ H) : PSs X st t' := ⟨fun pins s σ H D I hq => h.run pins s σ H D I (k D σ H hq)⟩
theorem pe_none : PE X e (fun _ _ _ => False) := ⟨fun _ _ _ _ _ _ h => h.elim⟩
end
section
variable {C : Ck} {α β γ δ : Type} {P : Lie α β} {R : Lie γ δ} {x : Den α} {k : α → Den γ} {σ : L2.St} {H Hf Hf' : Hp} {ρ : Rho}
theorem Fin.weak {o : Out α} {Q : β → Hp → Prop} (h : Fin C P σ Hf o Q) (e : Ex Hf Hf') : Fin C P σ Hf' o Q := by
  cases o with
  | ok a ρ' => exact fun b Hf1 H1 s e1 p => h b Hf1 H1 s (e.trans e1) p
  | exc c d ρ' => exact fun Hf1 H1 A dd v s e1 a b c' r => h Hf1 H1 A dd v s (e.trans e1) a b c' r
/-- one after another -/
theorem tG_bnd {o : Out γ} {Q : δ → Hp → Prop} (S : Stt C.W Hf H σ ρ) (e : bnd x k ρ = some o) (f : Fin C R σ Hf o Q) :
    tG C P x σ H fun b H1 => ∃ Hf1 ρ1 a, Stt C.W Hf1 H1 σ ρ1 ∧ Ex Hf Hf1 ∧ P C.W Hf1 H1 σ ρ1 a b ∧ k a ρ1 = some o ∧ Fin C R σ Hf1 o Q := by
  unfold bnd at e
  cases h : x ρ with
  | none => rw [h] at e; cases e
  | some y =>
    rw [h] at e
    cases y with
    | ok a ρ' => exact ⟨Hf, ρ, _, S, h, fun b Hf' H' S' ex p => ⟨Hf', ρ', a, S', ex, p, e, f.weak ex⟩⟩
    | exc c d ρ' =>
      cases e
      exact ⟨Hf, ρ, _, S, h, fun Hf' H' A dd v S' ex a b n r => f Hf' H' A dd v S' ex a b n r⟩
theorem tG_bnd' {o : Out γ} {Q : δ → Hp → Prop} (S : Stt C.W Hf H σ ρ) (e : bnd x k ρ = some o) (f : Fin C R σ Hf o Q) {Q' : β → Hp → Prop}
    (g : ∀ b H1 Hf1 ρ1 a, Stt C.W Hf1 H1 σ ρ1 → Ex Hf Hf1 → P C.W Hf1 H1 σ ρ1 a b → k a ρ1 = some o → Fin C R σ Hf1 o Q → Q' b H1) : tG C P x σ H Q' := by
  obtain ⟨Hf0, ρ0, o0, S0, e0, f0⟩ := tG_bnd (P := P) S e f
  refine ⟨Hf0, ρ0, o0, S0, e0, ?_⟩
  cases o0 with
  | ok a ρ' =>
    intro b Hf' H' S' ex p
    obtain ⟨Hf1, ρ1, a1, h1, h2, h3, h4, h5⟩ := f0 b Hf' H' S' ex p
    exact g b H' Hf1 ρ1 a1 h1 h2 h3 h4 h5
  | exc c d ρ' => exact f0
theorem tG_mono {Q Q' : β → Hp → Prop} (k : ∀ b H1, Q b H1 → Q' b H1) (h : tG C P x σ H Q) : tG C P x σ H Q' := by
  obtain ⟨Hf, ρ, o, S, e, f⟩ := h
  refine ⟨Hf, ρ, o, S, e, ?_⟩
  cases o with
  | ok a ρ' => exact fun b Hf1 H1 s e1 p => k _ _ (f b Hf1 H1 s e1 p)
  | exc c d ρ' => exact f
/-- the end of a plain piece -/
theorem Fin.ret {a : α} {b : β} {Q : β → Hp → Prop} {o : Out α} (f : Fin C P σ Hf o Q) (e : DI.ret a ρ = some o) (S : Stt C.W Hf' H σ ρ) (ex : Ex Hf Hf') (p : P C.W Hf' H σ ρ a b) : Q b H := by
  cases e
  exact f b Hf' H S ex p
end
/-- a value as plain data -/
def frzD (x : Den RV) : Den D := bnd x fun r => ret r.frz
theorem frzD_ok {C : Ck} {X : Cx} {e : Expr} {x : Den RV} (h : PE X e (tG C lV x)) : PE X e (tG C lD (frzD x)) := by
  refine h.imp fun σ H Q hq => ?_
  obtain ⟨Hf, ρ, o, S, e, f⟩ := hq
  refine tG_bnd' S e f fun v H1 Hf1 ρ1 a S1 ex r e1 f1 => ?_
  cases a with
  | val d => exact f1.ret e1 S1 (Evl.Ex.refl _) r
  | new m =>
    obtain ⟨p, rfl, n0, mo, ap⟩ := r
    obtain ⟨Hf2, S2, e2, r2⟩ := S1.frzNew n0 mo ap
    exact f1.ret e1 S2 e2 r2
def valD (x : Den D) : Den RV := bnd x fun d => ret (.val d)
end DI
set_option maxRecDepth 100000
set_option maxHeartbeats 4000000
namespace DI
open PySem PySem.Spec PyProof.Rows L2

section
variable {C : Ck} {X : Cx}

/-! ### constants, names -/
theorem pe_ret {e : Expr} {v : V} {d : D} (h : PE X e (tC v)) (r : ∀ H, Rp C.W.K H v d) : PE X e (tG C lV (ret (.val d))) := by
  refine h.imp fun σ H Q hq => ?_
  obtain ⟨Hf, ρ, o, S, e, f⟩ := hq
  exact f.ret e S (Evl.Ex.refl _) (r Hf)
def constD : Const → Option D
  | .none => some .non
  | .bool b => some (.bl b)
  | .int i => some (.int i)
  | .str x => some (.str x)
  | _ => none
theorem pe_const {c : Const} {k : Nat} {pos : Pos} {d : D} (h : constD c = some d) : PE X (.Constant c k pos) (tG C lV (ret (.val d))) := by
  cases c <;> simp only [constD, Option.some.injEq, reduceCtorEq] at h <;> subst h
  · exact pe_ret pe_non fun _ => .non
  · exact pe_ret pe_bl fun _ => .bl _
  · exact pe_ret pe_int fun _ => .int _
  · exact pe_ret pe_str fun _ => .str _
/-- the name in slot i, as a value -/
def slotV (i : Nat) : Den RV := fun ρ => match ρ[i]? with
  | some (.val d) => some (.ok (.val d) ρ)
  | some (.own m) => some (.ok (.val m.frz) (ρ.set i (.val m.frz)))
  | _ => none
theorem pe_slotV {x : Str} {i : Nat} {pos : Pos} (hN : X.N[i]? = some x) (hv : Vis X.env.scope x) (hd : (x == ("__debug__" : Str)) = false) (hcd : (x == ("__classdict__" : Str)) = false) : PE X (.Name x pos) (tG C lV (slotV i)) := by
  refine (pe_var (i := i) hN hv hd hcd).imp fun σ H Q hq => ?_
  obtain ⟨Hf, ρ, o, S, e, f⟩ := hq
  unfold slotV at e
  split at e
  · rename_i d h
    cases e
    obtain ⟨v, a, b⟩ := S.val i d h
    exact ⟨v, a, f v Hf H S (Evl.Ex.refl _) b⟩
  · rename_i m h
    cases e
    obtain ⟨Hf', p, a, S', ex, r⟩ := S.frzSlot h
    exact ⟨_, a, f _ Hf' H S' ex r⟩
  · cases e

/-! ### what is only looked into: a name's list stays the name's -/
inductive CO where
  | slot (i : Nat)
  | val (d : D)
def lC : Lie CO V := fun W Hf _ σ _ c v => match c with
  | .slot i => σ[i]? = some (some v)
  | .val d => Rp W.K Hf v d
def coGet (ρ : Rho) : CO → Option D
  | .slot i => match ρ[i]? with
    | some (.val d) => some d
    | some (.own m) => some m.frz
    | some (.ref m) => some m.frz
    | _ => none
  | .val d => some d
def slotC (i : Nat) : Den CO := fun ρ => match ρ[i]? with
  | some (.val _) => some (.ok (.slot i) ρ)
  | some (.own _) => some (.ok (.slot i) ρ)
  | some (.ref _) => some (.ok (.slot i) ρ)
  | _ => none
theorem pe_slotC {x : Str} {i : Nat} {pos : Pos} (hN : X.N[i]? = some x) (hv : Vis X.env.scope x) (hd : (x == ("__debug__" : Str)) = false) (hcd : (x == ("__classdict__" : Str)) = false) : PE X (.Name x pos) (tG C lC (slotC i)) := by
  refine (pe_var (i := i) hN hv hd hcd).imp fun σ H Q hq => ?_
  obtain ⟨Hf, ρ, o, S, e, f⟩ := hq
  unfold slotC at e
  split at e
  · rename_i d h
    cases e
    obtain ⟨v, a, _⟩ := S.val i _ h; exact ⟨v, a, f v Hf H S (Evl.Ex.refl _) a⟩
  · rename_i m h
    cases e
    obtain ⟨p, a, _⟩ := S.own i _ h; exact ⟨_, a, f _ Hf H S (Evl.Ex.refl _) a⟩
  · rename_i m h
    cases e
    obtain ⟨p, a, _⟩ := S.ref i _ h; exact ⟨_, a, f _ Hf H S (Evl.Ex.refl _) a⟩
  · cases e
def coD (x : Den D) : Den CO := bnd x fun d => ret (.val d)
theorem pe_coD {e : Expr} {x : Den D} (h : PE X e (tG C lD x)) : PE X e (tG C lC (coD x)) := by
  refine h.imp fun σ H Q hq => ?_
  obtain ⟨Hf, ρ, o, S, e, f⟩ := hq
  refine tG_bnd' S e f fun v H1 Hf1 ρ1 a S1 ex r e1 f1 => ?_
  exact f1.ret e1 S1 (Evl.Ex.refl _) r
/-- read now: plain, or what a name holds -/
inductive RpC (K : Kc) (Hf H : Hp) : V → D → Prop
  | pl {v : V} {d : D} : Rp K Hf v d → RpC K Hf H v d
  | ow {p : Addr} {m : M} : MOk K Hf H p m → RpC K Hf H (.ref p) m.frz
theorem lC.get {W : Wd} {Hf H Hf0 H0 : Hp} {σ : L2.St} {ρ ρ0 : Rho} {c : CO} {v : V} {d : D} (l : lC W Hf0 H0 σ ρ0 c v) (S : Stt W Hf H σ ρ) (ex : Ex Hf0 Hf) (g : coGet ρ c = some d) : RpC W.K Hf H v d := by
  cases c with
  | val d' => simp only [coGet, Option.some.injEq] at g; subst g; exact .pl (Rp.mono ex l)
  | slot i =>
    have l' : σ[i]? = some (some v) := l
    simp only [coGet] at g
    split at g
    · rename_i d' h
      cases g
      obtain ⟨v', a, b⟩ := S.val i _ h
      rw [l'] at a; cases a; exact .pl b
    · rename_i m h
      cases g
      obtain ⟨p, a, _, c⟩ := S.own i _ h
      rw [l'] at a; cases a; exact .ow c
    · rename_i m h
      cases g
      obtain ⟨p, a, _, c⟩ := S.ref i _ h
      rw [l'] at a; cases a; exact .ow c
    · cases g
section
variable {K : Kc} {Hf H : Hp} {v : V}
theorem RpC.now {d : D} (h : RpC K Hf H v d) (e : Ex Hf H) : Rp K H v d := by
  cases h with
  | pl r => exact r.mono e
  | ow m => exact m.now e
theorem RpC.lst {ds : List D} (h : RpC K Hf H v (.lst ds)) (e : Ex Hf H) : ∃ a xs, v = .ref a ∧ H a = some (.lst xs) ∧ RpA K Hf xs ds := by
  generalize hd : D.lst ds = d at h
  cases h with
  | pl r => subst hd; cases r with | lst a b => exact ⟨_, _, rfl, e _ _ a, b⟩
  | ow m =>
    cases m with
    | lst a b c => cases hd; exact ⟨_, _, rfl, b, c⟩
    | ins z a b c => cases hd
theorem RpC.tup {ds : List D} (h : RpC K Hf H v (.tup ds)) (e : Ex Hf H) : ∃ a xs, v = .ref a ∧ SqT K.K H a xs ∧ RpA K Hf xs ds ∧ Rp K Hf v (.tup ds) := by
  generalize hd : D.tup ds = d at h
  cases h with
  | pl r => subst hd; cases id r with | tup a b => exact ⟨_, _, rfl, Evl.ex_t e a, b, r⟩
  | ow m => cases m <;> cases hd
theorem RpC.fls {ds : List D} (h : RpC K Hf H v (.fls ds)) (e : Ex Hf H) : ∃ a xs, v = .ref a ∧ SqL K.K H a xs ∧ RpA K Hf xs ds := by
  generalize hd : D.fls ds = d at h
  cases h with
  | pl r => subst hd; cases r with | fls a b => exact ⟨_, _, rfl, Evl.ex_l e a, b⟩
  | ow m => cases m <;> cases hd
theorem RpC.int {i : Int} (h : RpC K Hf H v (.int i)) : v = .int i := by
  generalize hd : D.int i = d at h
  cases h with
  | pl r => subst hd; cases r; rfl
  | ow m => cases m <;> cases hd
theorem RpC.str {i : Str} (h : RpC K Hf H v (.str i)) : v = .str i := by
  generalize hd : D.str i = d at h
  cases h with
  | pl r => subst hd; cases r; rfl
  | ow m => cases m <;> cases hd
theorem RpC.bl {i : Bool} (h : RpC K Hf H v (.bl i)) : v = .bl i := by
  generalize hd : D.bl i = d at h
  cases h with
  | pl r => subst hd; cases r; rfl
  | ow m => cases m <;> cases hd
theorem Rp.int_inv {i : Int} (h : Rp K H v (.int i)) : v = .int i := by cases h; rfl
theorem Rp.bl_inv {i : Bool} (h : Rp K H v (.bl i)) : v = .bl i := by cases h; rfl
theorem Rp.str_inv {i : Str} (h : Rp K H v (.str i)) : v = .str i := by cases h; rfl
theorem Rp.non_inv (h : Rp K H v .non) : v = .non := by cases h; rfl
end

/-! ### lists of arguments, displays -/
def consA (x : Den D) (y : Den (List D)) : Den (List D) := bnd x fun d => bnd y fun ds => ret (d :: ds)
theorem pa_nilD : PA X [] (tG C lA (ret [])) := by
  refine pa_nil.imp fun σ H Q hq => ?_
  obtain ⟨Hf, ρ, o, S, e, f⟩ := hq
  exact f.ret e S (Evl.Ex.refl _) .nil
theorem pa_consD {e : Expr} {es : List Expr} {x : Den D} {y : Den (List D)} (h : PE X e (tG C lD x)) (hs : PA X es (tG C lA y)) (st : starEach (e :: es) X.env = (false, eval e X.env) :: starEach es X.env) : PA X (e :: es) (tG C lA (consA x y)) := by
  refine (pa_cons h hs st).imp fun σ H Q hq => ?_
  obtain ⟨Hf, ρ, o, S, e, f⟩ := hq
  refine tG_bnd' S e f fun v H1 Hf1 ρ1 d S1 ex r e1 f1 => ?_
  refine tG_bnd' S1 e1 f1 fun vs H2 Hf2 ρ2 ds S2 ex2 r2 e2 f2 => ?_
  exact f2.ret e2 S2 (Evl.Ex.refl _) (.cons (Rp.mono ex2 r) r2)
def tupV (x : Den (List D)) : Den RV := bnd x fun ds => if ds.length ≤ 100000 then ret (.val (.tup ds)) else stuck
theorem sz {n : Nat} (h : n ≤ 100000) : n ≤ sizeLine := Evl.sz_of h
theorem pe_tupD {es : List Expr} {k : Nat} {pos : Pos} {x : Den (List D)} (h : PA X es (tG C lA x)) : PE X (.Tuple es k pos) (tG C lV (tupV x)) := by
  refine (pe_tup h).imp fun σ H Q hq => ?_
  obtain ⟨Hf, ρ, o, S, e, f⟩ := hq
  refine tG_bnd' S e f fun vs H1 Hf1 ρ1 ds S1 ex r e1 f1 => ?_
  split at e1
  · rename_i hz
    refine ⟨by rw [r.length]; exact sz hz, fun p np => ?_⟩
    obtain ⟨S2, ex2, _⟩ := S1.laid (o := .tup vs) np
    exact f1.ret e1 S2 ex2 (.tup (SqT.of upd_same) (r.mono ex2))
  · cases e1
def lstV (x : Den (List D)) : Den RV := bnd x fun ds => if ds.length ≤ 100000 then ret (.new (.lst ds)) else stuck
theorem pe_lstD {es : List Expr} {pos : Pos} {x : Den (List D)} (h : PA X es (tG C lA x)) : PE X (.List es pos) (tG C lV (lstV x)) := by
  refine (pe_lst h).imp fun σ H Q hq => ?_
  obtain ⟨Hf, ρ, o, S, e, f⟩ := hq
  refine tG_bnd' S e f fun vs H1 Hf1 ρ1 ds S1 ex r e1 f1 => ?_
  split at e1
  · rename_i hz
    refine ⟨by rw [r.length]; exact sz hz, fun p np => ?_⟩
    have S2 := S1.made (o := .lst vs) np
    exact f1.ret e1 S2 (Evl.Ex.refl _) ⟨p, rfl, S1.H0none np, .lst (Evl.fresh_back S1.ex np) upd_same r, S1.apart np⟩
  · cases e1

/-! ### two-place operations -/
section
variable {X : Cx}
def rRepU (K : PySem.W.Frag) : R2 := fun x y H Q => ∃ l k xs, x = .ref l ∧ y = .int k ∧ SqT K H l xs ∧ xs ≠ [] ∧ 2 ≤ k ∧ k ≤ 5000 ∧ xs.length ≤ 1000 ∧ ∀ p, H p = none → Q (.ref p) (upd H p (.tup (List.replicate k.toNat xs).flatten))
theorem op_repU : OpR X (binaryOp .Mult) (rRepU X.K) := by
  intro pins s σ H x y v u Q I rx ry h
  obtain ⟨l, k, xs, rfl, rfl, hT, hne, h1, h2, hz, q⟩ := h
  cases rx
  obtain ⟨t, rfl⟩ := ry
  obtain ⟨its, r, ⟨⟨cls, dd, data, sl⟩, ho, hc, n, hd⟩, hs⟩ := I.tuple hT
  simp only at hc hd
  subst hc hd
  have hle : its.length = xs.length := r.length.symm
  have hi : its.toArray.isEmpty = false := by
    cases its with
    | nil => exact absurd (List.eq_nil_of_length_eq_zero hle.symm) hne
    | cons a b => rfl
  have hsz0 : its.toArray.size = xs.length := by rw [List.size_toArray, hle]
  have hm : ((its.toArray.size : Nat) : Int) * k ≤ 5000000 := by
    rw [hsz0]
    have a1 : ((xs.length : Nat) : Int) * k ≤ 1000 * k := Int.mul_le_mul_of_nonneg_right (by omega) (by omega)
    omega
  have flen : (List.replicate k.toNat its).flatten.length ≤ sizeLine := by
    rw [PyProof.Rows.lm_len_rep_flat, hle, sizeLine_eq]
    have a1 : k.toNat * xs.length ≤ 5000 * 1000 := Nat.mul_le_mul (by omega) hz
    omega
  have c0 : (decide (k < -(2 ^ 63)) || decide (k ≥ 2 ^ 63)) = false := by rw [decide_eq_false (by omega), decide_eq_false (by omega)]; rfl
  have c1 : (its.toArray.isEmpty || k == 1) = false := by rw [hi, Bool.false_or]; exact beq_eq_false_iff_ne.mpr (by omega)
  have c2 : (decide (k ≤ 0) || its.toArray.isEmpty) = false := by rw [hi, Bool.or_false]; exact decide_eq_false (by omega)
  have c4 : Builtin.Tuple.tupleTooMany (((its.toArray.size : Nat) : Int) * k) = false := by
    unfold Builtin.Tuple.tupleTooMany
    rw [sizeLine_eq]
    exact decide_eq_false (by omega)
  refine wpAny_binaryOp_repeat_ref (T := "tuple") (U := "int") (by decide) ⟨_, ho, rfl⟩ (fun s' => typeIs_int s' k t) noFill_tuple_mul F.fills_int_mul F.slot_int_rmul repeat_tuple F.slot_int_index.lookup
    (call_meets F.slot_int_rmul (typeIs_int s k t) F.entry_int_rmul (F.args_int_rmul_2 _ _) (int_rmul_tuple k t l its.toArray n dd sl)
      ⟨ho, rfl, ⟨_, ho, rfl⟩, call_meets F.slot_tuple_mul ⟨_, ho, rfl⟩ F.entry_tuple_mul (F.args_tuple_mul_2 _ _) (tuple_mulW l its.toArray n dd sl k t c0 c1 c2 (by omega) c4 (by rw [size_rep, List.size_toArray]; exact flen)) ⟨ho, ?_⟩⟩)
  rw [size_rep]
  refine ⟨.ref s.heap.objs.size, _, I.laid (t' := s.toks) (o := .tup (List.replicate k.toNat xs).flatten) (fun b ob q => Heap.get?_push_of_some _ q) (Nat.le_refl _) ?_, rfl, q _ (I.hok.fresh (Nat.le_refl _))⟩
  exact ⟨by rw [PyProof.Rows.lm_len_rep_flat, sizeLine_eq]; have a1 : k.toNat * xs.length ≤ 5000 * 1000 := Nat.mul_le_mul (by omega) hz; omega, _, r.rep k.toNat, IsTup.new _ _⟩
def rRepS : R2 := fun x y H Q => ∃ (z : Str) (k : Int), x = .str z ∧ y = .int k ∧ 2 ≤ k ∧ k ≤ 1000 ∧ 1 ≤ z.length ∧ z.length ≤ 1000 ∧ Q (.str ⟨(List.replicate k.toNat z.cps).foldl (· ++ ·) #[]⟩) H
theorem op_repS : OpR X (binaryOp .Mult) rRepS := by
  intro pins s σ H x y v u Q I rx ry h
  obtain ⟨z, k, rfl, rfl, h1, h2, h3, h4, q⟩ := h
  obtain ⟨t, rfl⟩ := rx
  obtain ⟨t', rfl⟩ := ry
  have m1 : z.length * k.toNat ≤ 1000 * 1000 := Nat.mul_le_mul h4 (by omega)
  have c1 : (k == 1 || z.length == 0) = false := by
    rw [Bool.or_eq_false_iff]
    exact ⟨beq_eq_false_iff_ne.mpr (by omega), beq_eq_false_iff_ne.mpr (by omega)⟩
  have hl : Builtin.Str.tooLong (z.length * k.toNat) = false := by
    unfold Builtin.Str.tooLong
    rw [sizeLine_eq]
    exact decide_eq_false (by omega)
  refine PySem.P.mul_str (by rw [decide_eq_false (by omega), decide_eq_false (by omega)]; rfl) (fun _ _ => ?_) (fun _ _ => ?_) ?_
  · have a1 : (1000 : Int) ≤ (2 ^ 63 - 1) / k := by
      rw [Int.le_ediv_iff_mul_le (by omega)]
      omega
    omega
  · exact hl
  · rw [if_neg (by omega), if_neg (by rw [c1]; exact Bool.false_ne_true)]
    exact ⟨fits_reps hl, .str _, H, I.tok _, ⟨_, rfl⟩, q⟩
end
def binD : Operator → D → D → Option RV
  | .Add, .int i, .int j => some (.val (.int (i + j)))
  | .Add, .tup xs, .tup ys => if xs.length + ys.length ≤ 100000 then some (.val (.tup (xs ++ ys))) else none
  | .Add, .lst xs, .lst ys => if xs.length + ys.length ≤ 100000 then some (.new (.lst (xs ++ ys))) else none
  | .Add, .str x, .str y => if x.length + y.length ≤ 100000 then some (.val (.str (x ++ y))) else none
  | .Sub, .int i, .int j => some (.val (.int (i - j)))
  | .Mult, .tup xs, .int k => if 2 ≤ k ∧ k ≤ 5000 ∧ xs.length ≤ 1000 ∧ xs ≠ [] then some (.val (.tup (List.replicate k.toNat xs).flatten)) else none
  | .Mult, .str x, .int k => if 2 ≤ k ∧ k ≤ 1000 ∧ 1 ≤ x.length ∧ x.length ≤ 1000 then some (.val (.str ⟨(List.replicate k.toNat x.cps).foldl (· ++ ·) #[]⟩)) else none
  | .Mult, .int i, .int j => if (-(2 ^ 64) < i ∧ i < 2 ^ 64) ∨ (-(2 ^ 64) < j ∧ j < 2 ^ 64) then some (.val (.int (i * j))) else none
  | .Mod, .int i, .int j => if 0 < j then some (.val (.int (i % j))) else none
  | .FloorDiv, .int i, .int j => if 0 < j ∧ j < 1073741824 then some (.val (.int (i / j))) else none
  | .Pow, .int i, .int j => if 0 ≤ j ∧ j ≤ 1000000 ∧ i.natAbs < 2 ^ 64 then some (.val (.int (i ^ j.toNat))) else none
  | _, _, _ => none
def optV (o : Option RV) : Den RV := fun ρ => o.map fun r => .ok r ρ
def supOp : Operator → Bool
  | .Add | .Sub | .Mult | .Mod | .FloorDiv | .Pow => true
  | _ => false
def binV (op : Operator) (x y : Den CO) : Den RV := if supOp op then bnd x fun a => bnd y fun b => fun ρ => match coGet ρ a, coGet ρ b with
  | some d1, some d2 => optV (binD op d1 d2) ρ
  | _, _ => none
  else stuck
theorem sl_cases {ds : List D} : ds = [] ∨ ds ≠ [] := by cases ds <;> simp
theorem RpA.nil_iff {K : Kc} {H : Hp} {vs : List V} {ds : List D} (r : RpA K H vs ds) : vs = [] ↔ ds = [] := by
  cases r <;> simp
theorem RpA.rep {K : Kc} {H : Hp} {vs : List V} {ds : List D} (r : RpA K H vs ds) : ∀ n : Nat, RpA K H (List.replicate n vs).flatten (List.replicate n ds).flatten
  | 0 => .nil
  | n + 1 => by
    rw [List.replicate_succ, List.replicate_succ, List.flatten_cons, List.flatten_cons]
    exact r.append (r.rep n)
theorem pe_binD (hK : X.K = C.W.K.K) {a b : Expr} {op : Operator} {pos : Pos} {x y : Den CO} (ha : PE X a (tG C lC x)) (hb : PE X b (tG C lC y)) : PE X (.BinOp a op b pos) (tG C lV (binV op x y)) := by
  by_cases sup : supOp op = true
  case neg =>
    refine ⟨fun pins s σ H Q I hq => ?_⟩
    obtain ⟨Hf, ρ, o, S, e, f⟩ := hq
    unfold binV at e
    rw [if_neg sup] at e
    cases e
  have core : ∀ {r : R2}, OpR X (binaryOp op) r → (∀ d1 d2 rv v w Hf H Q (σ : L2.St) ρ, Stt C.W Hf H σ ρ → RpC C.W.K Hf H v d1 → RpC C.W.K Hf H w d2 → binD op d1 d2 = some rv →
      (∀ u Hf' H', Stt C.W Hf' H' σ ρ → Ex Hf Hf' → RvOk C.W Hf' H' σ ρ rv u → Q u H') → r v w H Q) → PE X (.BinOp a op b pos) (tG C lV (binV op x y)) := by
    intro r hr k
    refine (pe_op hr ha hb).imp fun σ H Q hq => ?_
    obtain ⟨Hf, ρ, o, S, e, f⟩ := hq
    unfold binV at e
    rw [if_pos sup] at e
    refine tG_bnd' S e f fun v H1 Hf1 ρ1 c1 S1 ex1 l1 e1 f1 => ?_
    refine tG_bnd' S1 e1 f1 fun w H2 Hf2 ρ2 c2 S2 ex2 l2 e2 f2 => ?_
    split at e2
    · rename_i d1 d2 g1 g2
      unfold optV at e2
      rw [Option.map_eq_some_iff] at e2
      obtain ⟨rv, hb, rfl⟩ := e2
      have l1' := lC.get l1 S2 ex2 g1
      exact k d1 d2 rv v w Hf2 H2 Q σ ρ2 S2 l1' (lC.get l2 S2 (Evl.Ex.refl _) g2) hb fun u Hf' H' S' ex' p => f2 u Hf' H' S' ex' p
    · cases e2
  have intOnly : ∀ {g : Int → Int → Int} {Cn : Int → Int → Prop}, OpR X (binaryOp op) (rI Cn fun i j => .int (g i j)) → (∀ d1 d2 rv, binD op d1 d2 = some rv → ∃ i j, d1 = .int i ∧ d2 = .int j ∧ Cn i j ∧ rv = .val (.int (g i j))) → PE X (.BinOp a op b pos) (tG C lV (binV op x y)) := by
    intro g Cn ho hi
    refine core ho fun d1 d2 rv v w Hf H Q σ ρ S r1 r2 e k => ?_
    obtain ⟨i, j, rfl, rfl, hc, rfl⟩ := hi d1 d2 rv e
    exact ⟨i, j, r1.int, r2.int, hc, k _ Hf H S (Evl.Ex.refl _) (.int _)⟩
  cases op with
  | Add =>
    refine core (r := fun v w H Q => (rI0 fun i j => .int (i + j)) v w H Q ∨ (rCatA X.K v w H Q ∨ (rCat v w H Q ∨ (∃ i j, v = .str i ∧ w = .str j ∧ i.length + j.length ≤ sizeLine ∧ Q (.str (i ++ j)) H)))) (op_add.or (op_catA.or (op_cat.or op_add_str))) fun d1 d2 rv v w Hf H Q σ ρ S r1 r2 e k => ?_
    unfold binD at e
    split at e
    · cases e; exact .inl ⟨_, _, r1.int, r2.int, k _ Hf H S (Evl.Ex.refl _) (.int _)⟩
    · rename_i xs ys _
      split at e
      · rename_i hz
        cases e
        obtain ⟨a, vs, rfl, h1, p1, q1⟩ := r1.tup S.ex
        obtain ⟨b, ws, rfl, h2, p2, q2⟩ := r2.tup S.ex
        refine .inr (.inl ⟨a, b, vs, ws, rfl, rfl, hK ▸ h1, hK ▸ h2, by rw [p1.length, p2.length]; exact sz hz, fun z => ?_, fun z z2 => ?_, fun z z2 p np => ?_⟩)
        · refine k _ Hf H S (Evl.Ex.refl _) ?_
          rw [p1.nil_iff.mp z]; exact q2
        · refine k _ Hf H S (Evl.Ex.refl _) ?_
          show Rp _ _ _ (.tup (xs ++ ys))
          rw [p2.nil_iff.mp z2, List.append_nil]; exact q1
        · obtain ⟨S2, ex2, _⟩ := S.laid (o := .tup (vs ++ ws)) np
          exact k _ _ _ S2 ex2 (.tup (SqT.of upd_same) ((p1.append p2).mono ex2))
      · cases e
    · rename_i xs ys _
      split at e
      · rename_i hz
        cases e
        obtain ⟨a, vs, rfl, h1, p1⟩ := r1.lst S.ex
        obtain ⟨b, ws, rfl, h2, p2⟩ := r2.lst S.ex
        refine .inr (.inr (.inl ⟨a, b, vs, ws, rfl, rfl, h1, h2, by rw [p1.length, p2.length]; exact sz hz, fun p np => ?_⟩))
        exact k _ Hf _ (S.made np) (Evl.Ex.refl _) ⟨p, rfl, S.H0none np, .lst (Evl.fresh_back S.ex np) upd_same (p1.append p2), S.apart np⟩
      · cases e
    · split at e
      · rename_i hz
        cases e
        exact .inr (.inr (.inr ⟨_, _, r1.str, r2.str, sz hz, k _ Hf H S (Evl.Ex.refl _) (.str _)⟩))
      · cases e
    all_goals first | (exfalso; simp_all; done) | cases e
  | Sub =>
    refine core op_sub fun d1 d2 rv v w Hf H Q σ ρ S r1 r2 e k => ?_
    unfold binD at e
    split at e
    all_goals first | (exfalso; simp_all; done) | (cases e; exact ⟨_, _, r1.int, r2.int, k _ Hf H S (Evl.Ex.refl _) (.int _)⟩)
  | Mult =>
    refine core (r := fun v w H Q => (rI CMul fun i j => .int (i * j)) v w H Q ∨ (rRepU X.K v w H Q ∨ rRepS v w H Q)) (op_mul.or (op_repU.or op_repS)) fun d1 d2 rv v w Hf H Q σ ρ S r1 r2 e k => ?_
    unfold binD at e
    split at e
    · exfalso; simp_all; done
    · exfalso; simp_all; done
    · exfalso; simp_all; done
    · exfalso; simp_all; done
    · exfalso; simp_all; done
    · rename_i xs n _
      split at e
      · rename_i hc
        cases e
        obtain ⟨a, vs, rfl, h1, p1, q1⟩ := r1.tup S.ex
        refine .inr (.inl ⟨a, n, vs, rfl, r2.int, hK ▸ h1, fun z => hc.2.2.2 (p1.nil_iff.mp z), hc.1, hc.2.1, by rw [p1.length]; exact hc.2.2.1, fun p np => ?_⟩)
        obtain ⟨S2, ex2, _⟩ := S.laid (o := .tup (List.replicate n.toNat vs).flatten) np
        exact k _ _ _ S2 ex2 (.tup (SqT.of upd_same) ((p1.rep n.toNat).mono ex2))
      · cases e
    · rename_i z n _
      split at e
      · rename_i hc
        cases e
        exact .inr (.inr ⟨z, n, r1.str, r2.int, hc.1, hc.2.1, hc.2.2.1, hc.2.2.2, k _ Hf H S (Evl.Ex.refl _) (.str _)⟩)
      · cases e
    · split at e
      · rename_i hc
        cases e
        exact .inl ⟨_, _, r1.int, r2.int, hc, k _ Hf H S (Evl.Ex.refl _) (.int _)⟩
      · cases e
    all_goals first | (exfalso; simp_all; done) | cases e
  | Mod =>
    refine intOnly (g := fun i j => i % j) op_mod fun d1 d2 rv e => ?_
    unfold binD at e
    split at e
    all_goals first | (exfalso; simp_all; done) | (split at e; (cases e; exact ⟨_, _, rfl, rfl, by assumption, rfl⟩); cases e)
  | FloorDiv =>
    refine intOnly (g := fun i j => i / j) op_fdiv fun d1 d2 rv e => ?_
    unfold binD at e
    split at e
    all_goals first | (exfalso; simp_all; done) | (split at e; (cases e; exact ⟨_, _, rfl, rfl, by assumption, rfl⟩); cases e)
  | Pow =>
    refine intOnly (g := fun i j => i ^ j.toNat) op_pow fun d1 d2 rv e => ?_
    unfold binD at e
    split at e
    all_goals first | (exfalso; simp_all; done) | (split at e; (cases e; exact ⟨_, _, rfl, rfl, by assumption, rfl⟩); cases e)
  | _ => exact absurd sup (by simp [supOp])
end
end DI
set_option maxRecDepth 100000
set_option maxHeartbeats 4000000
namespace DI
open PySem PySem.Spec PyProof.Rows L2

/-! ### == and in, on plain data -/
def okD (d : D) : Bool := match toPy d with
  | some p => SeqAt.shaped p
  | none => false
def eqvD (x y : D) : Bool := match toPy x, toPy y with
  | some p, some q => PyData.eqv p q
  | _, _ => false
def eqD (x y : D) : Option Bool := if okD x && okD y then some (eqvD x y) else none
def oneSign (y : Str) : Option Nat := match y.cps.toList with
  | [c] => some c
  | _ => none
theorem oneSign_ok {y : Str} {c : Nat} (h : oneSign y = some c) : y = ⟨#[c]⟩ := by
  unfold oneSign at h
  split at h
  · rename_i c' e
    cases h
    cases y with
    | mk a => cases a with | mk l => cases e; rfl
  · cases h
def inStr (z : Str) : D → Option Bool
  | .str y => (oneSign y).map fun c => decide (c ∈ z.cps.toList)
  | _ => none
def inD (x : D) : D → Option Bool
  | .str z => inStr z x
  | .lst ds => if okD x && okD (.lst ds) then some (ds.any fun z => eqvD z x) else none
  | .tup ds => if okD x && okD (.tup ds) then some (ds.any fun z => eqvD z x) else none
  | _ => none
def cmpD : CmpOp → D → D → Option Bool
  | .Eq, x, y => eqD x y
  | .NotEq, x, y => (eqD x y).map (!·)
  | .Lt, .int i, .int j => some (decide (i < j))
  | .LtE, .int i, .int j => some (decide (i ≤ j))
  | .Gt, .int i, .int j => some (decide (j < i))
  | .GtE, .int i, .int j => some (decide (j ≤ i))
  | .Is, x, .non => some (match x with | .non => true | _ => false)
  | .IsNot, x, .non => some (match x with | .non => false | _ => true)
  | .Is, x, .bl b => some (match x with | .bl a => decide (a = b) | _ => false)
  | .IsNot, x, .bl b => some (match x with | .bl a => !decide (a = b) | _ => true)
  | .In, x, y => inD x y
  | .NotIn, x, y => (inD x y).map (!·)
  | _, _, _ => none

section
variable {K : Kc} {H : Hp}
theorem toPyA_any {d : D} {p : PyData} (hd : toPy d = some p) : ∀ {ds : List D} {ps : List PyData}, toPyA ds = some ps → (ds.any fun z => eqvD z d) = ps.any fun z => PyData.eqv z p
  | [], ps, e => by simp only [toPyA, Option.some.injEq] at e; subst e; rfl
  | x :: xs, ps, e => by
    simp only [toPyA] at e
    cases h1 : toPy x with
    | none => rw [h1] at e; simp at e
    | some q =>
      cases h2 : toPyA xs with
      | none => rw [h1, h2] at e; simp at e
      | some qs =>
        rw [h1, h2] at e; simp only [Option.some.injEq] at e; subst e
        rw [List.any_cons, List.any_cons, toPyA_any hd h2]
        unfold eqvD
        rw [h1, hd]
theorem okD_inv {d : D} (h : okD d = true) : ∃ p, toPy d = some p ∧ SeqAt.shaped p = true := by
  unfold okD at h
  split at h
  · rename_i p e; exact ⟨p, e, h⟩
  · cases h
end
section
variable {X : Cx}
def rInT (K : PySem.W.Frag) : R2 := fun x y H Q => ∃ d ds, Dp K H x d ∧ Dp K H y (.tuple ds) ∧ SeqAt.shaped d = true ∧ SeqAt.shaped (.tuple ds) = true ∧ Q (.bl (ds.any fun z => PyData.eqv z d)) H
def rNotInT (K : PySem.W.Frag) : R2 := fun x y H Q => ∃ d ds, Dp K H x d ∧ Dp K H y (.tuple ds) ∧ SeqAt.shaped d = true ∧ SeqAt.shaped (.tuple ds) = true ∧ Q (.bl (!ds.any fun z => PyData.eqv z d)) H
theorem op_inT (hu : X.A.units + 65 < cLine) : OpR X (compareOp .In) (rInT X.K) := by
  intro pins s σ H x y v u Q I rx ry h
  obtain ⟨d, ds, hd, he, sd, se, q⟩ := h
  obtain ⟨as, r1⟩ := Dp.reads I d x v hd rx
  obtain ⟨bs, r2⟩ := Dp.reads I (.tuple ds) y u he ry
  exact SeqAt.in_tuple_reads r2 r1 (by have := SeqAt.canLay_of_shaped se; simpa [PyData.canLay0] using this) (SeqAt.canLay_of_shaped sd) (room_in_shaped sd hu) ⟨.bl _, H, I, rfl, q⟩
theorem op_notInT (hu : X.A.units + 65 < cLine) : OpR X (compareOp .NotIn) (rNotInT X.K) := by
  intro pins s σ H x y v u Q I rx ry h
  obtain ⟨d, ds, hd, he, sd, se, q⟩ := h
  obtain ⟨as, r1⟩ := Dp.reads I d x v hd rx
  obtain ⟨bs, r2⟩ := Dp.reads I (.tuple ds) y u he ry
  exact SeqAt.notIn_tuple_reads r2 r1 (by have := SeqAt.canLay_of_shaped se; simpa [PyData.canLay0] using this) (SeqAt.canLay_of_shaped sd) (room_in_shaped sd hu) ⟨.bl _, H, I, rfl, q⟩
/-- x is True, x is False -/
theorem op_isTF : OpR X (compareOp .Is) (fun x y H Q => ∃ b : Bool, y = .bl b ∧ Q (.bl (decide (x = .bl b))) H) := by
  intro pins s σ H x y v u Q I rx ry h
  obtain ⟨b, rfl, q⟩ := h
  cases (show u = Value.bool b from ry)
  cases x with
  | bl a =>
    cases (show v = Value.bool a from rx)
    by_cases e : a = b
    · subst e
      exact wpAny_is_self rfl ⟨.bl true, H, I, rfl, by simpa using q⟩
    · exact wpAny_is_other rfl (fun z => e (Value.bool.inj z)) ⟨.bl false, H, I, rfl, by simpa [e] using q⟩
  | _ =>
    first
      | (cases rx; exact wpAny_is_other rfl (fun z => nomatch z) ⟨.bl false, H, I, rfl, by simpa using q⟩)
      | (obtain ⟨t, rfl⟩ := rx; exact wpAny_is_other rfl (fun z => nomatch z) ⟨.bl false, H, I, rfl, by simpa using q⟩)
theorem op_isNotTF : OpR X (compareOp .IsNot) (fun x y H Q => ∃ b : Bool, y = .bl b ∧ Q (.bl (!decide (x = .bl b))) H) := by
  intro pins s σ H x y v u Q I rx ry h
  obtain ⟨b, rfl, q⟩ := h
  cases (show u = Value.bool b from ry)
  cases x with
  | bl a =>
    cases (show v = Value.bool a from rx)
    by_cases e : a = b
    · subst e
      exact wpAny_isNot_self rfl ⟨.bl false, H, I, rfl, by simpa using q⟩
    · exact wpAny_isNot_other rfl (fun z => e (Value.bool.inj z)) ⟨.bl true, H, I, rfl, by simpa [e] using q⟩
  | _ =>
    first
      | (cases rx; exact wpAny_isNot_other rfl (fun z => nomatch z) ⟨.bl true, H, I, rfl, by simpa using q⟩)
      | (obtain ⟨t, rfl⟩ := rx; exact wpAny_isNot_other rfl (fun z => nomatch z) ⟨.bl true, H, I, rfl, by simpa using q⟩)
/-- a comparison's rule, by values -/
def rCmp (K : Kc) (op : CmpOp) : R2 := fun v w H Q => ∃ d1 d2 b, Rp K H v d1 ∧ Rp K H w d2 ∧ cmpD op d1 d2 = some b ∧ Q (.bl b) H
theorem op_cmpD {K : Kc} (hK : X.K = K.K) (hu : X.A.units + 65 < cLine) (op : CmpOp) : OpR X (compareOp op) (rCmp K op) := by
  have eqs : ∀ {d1 d2 : D} {b : Bool}, eqD d1 d2 = some b → ∃ p q, toPy d1 = some p ∧ toPy d2 = some q ∧ SeqAt.shaped p = true ∧ SeqAt.shaped q = true ∧ b = PyData.eqv p q := by
    intro d1 d2 b e
    unfold eqD at e
    split at e
    · rename_i h
      rw [Bool.and_eq_true] at h
      obtain ⟨p, e1, s1⟩ := okD_inv h.1
      obtain ⟨q, e2, s2⟩ := okD_inv h.2
      cases e
      refine ⟨p, q, e1, e2, s1, s2, ?_⟩
      unfold eqvD
      rw [e1, e2]
    · cases e
  have ins : ∀ {d1 d2 : D} {b : Bool}, (∀ z, d2 ≠ .str z) → inD d1 d2 = some b → ∃ p qs, toPy d1 = some p ∧ SeqAt.shaped p = true ∧ b = (qs.any fun z => PyData.eqv z p) ∧ ((toPy d2 = some (.list qs) ∧ SeqAt.shaped (.list qs) = true) ∨ (toPy d2 = some (.tuple qs) ∧ SeqAt.shaped (.tuple qs) = true)) := by
    intro d1 d2 b hns e
    cases d2 with
    | lst ds =>
      simp only [inD] at e
      split at e
      · rename_i h
        rw [Bool.and_eq_true] at h
        obtain ⟨p, e1, s1⟩ := okD_inv h.1
        obtain ⟨q, e2, s2⟩ := okD_inv h.2
        cases e
        simp only [toPy, Option.map_eq_some_iff] at e2
        obtain ⟨qs, e2, rfl⟩ := e2
        exact ⟨p, qs, e1, s1, toPyA_any e1 e2, .inl ⟨by simp [toPy, e2], s2⟩⟩
      · cases e
    | tup ds =>
      simp only [inD] at e
      split at e
      · rename_i h
        rw [Bool.and_eq_true] at h
        obtain ⟨p, e1, s1⟩ := okD_inv h.1
        obtain ⟨q, e2, s2⟩ := okD_inv h.2
        cases e
        simp only [toPy, Option.map_eq_some_iff] at e2
        obtain ⟨qs, e2, rfl⟩ := e2
        exact ⟨p, qs, e1, s1, toPyA_any e1 e2, .inr ⟨by simp [toPy, e2], s2⟩⟩
      · cases e
    | str z => exact absurd rfl (hns z)
    | _ => simp [inD] at e
  intro pins s σ H x y v u Q I rx ry h
  obtain ⟨d1, d2, b, r1, r2, e, q⟩ := h
  cases op with
  | Eq =>
    obtain ⟨p, p', e1, e2, s1, s2, rfl⟩ := eqs e
    exact op_eqD (by omega) pins s σ H x y v u Q I rx ry ⟨p, p', hK ▸ r1.dp e1, hK ▸ r2.dp e2, s1, s2, q⟩
  | NotEq =>
    simp only [cmpD, Option.map_eq_some_iff] at e
    obtain ⟨b', e, rfl⟩ := e
    obtain ⟨p, p', e1, e2, s1, s2, rfl⟩ := eqs e
    exact op_neD (by omega) pins s σ H x y v u Q I rx ry ⟨p, p', hK ▸ r1.dp e1, hK ▸ r2.dp e2, s1, s2, q⟩
  | Lt =>
    cases d1 <;> cases d2 <;> simp only [cmpD, Option.some.injEq, reduceCtorEq] at e
    subst e; cases r1; cases r2
    exact op_lt pins s σ H _ _ v u Q I rx ry ⟨_, _, rfl, rfl, q⟩
  | LtE =>
    cases d1 <;> cases d2 <;> simp only [cmpD, Option.some.injEq, reduceCtorEq] at e
    subst e; cases r1; cases r2
    exact op_le pins s σ H _ _ v u Q I rx ry ⟨_, _, rfl, rfl, q⟩
  | Gt =>
    cases d1 <;> cases d2 <;> simp only [cmpD, Option.some.injEq, reduceCtorEq] at e
    subst e; cases r1; cases r2
    exact op_gt pins s σ H _ _ v u Q I rx ry ⟨_, _, rfl, rfl, q⟩
  | GtE =>
    cases d1 <;> cases d2 <;> simp only [cmpD, Option.some.injEq, reduceCtorEq] at e
    subst e; cases r1; cases r2
    exact op_ge pins s σ H _ _ v u Q I rx ry ⟨_, _, rfl, rfl, q⟩
  | Is =>
    cases d2 with
    | non =>
      simp only [cmpD, Option.some.injEq] at e
      subst e; cases r2
      refine op_isN pins s σ H x _ v u Q I rx ry ⟨rfl, ?_⟩
      cases r1 <;> exact q
    | bl b =>
      simp only [cmpD, Option.some.injEq] at e
      subst e; cases r2
      refine op_isTF pins s σ H x _ v u Q I rx ry ⟨b, rfl, ?_⟩
      cases r1 <;> simpa using q
    | _ => simp [cmpD] at e
  | IsNot =>
    cases d2 with
    | non =>
      simp only [cmpD, Option.some.injEq] at e
      subst e; cases r2
      refine op_notN pins s σ H x _ v u Q I rx ry ⟨rfl, ?_⟩
      cases r1 <;> exact q
    | bl b =>
      simp only [cmpD, Option.some.injEq] at e
      subst e; cases r2
      refine op_isNotTF pins s σ H x _ v u Q I rx ry ⟨b, rfl, ?_⟩
      cases r1 <;> simpa using q
    | _ => simp [cmpD] at e
  | In =>
    by_cases hs : ∃ z, d2 = .str z
    · obtain ⟨z, rfl⟩ := hs
      have e : inStr z d1 = some b := e
      cases d1 with
      | str y =>
        simp only [inStr, Option.map_eq_some_iff] at e
        obtain ⟨c, hc, rfl⟩ := e
        cases r1; cases r2
        exact op_in_sign pins s σ H _ _ v u Q I rx ry ⟨c, z, by rw [oneSign_ok hc], rfl, q⟩
      | _ => simp [inStr] at e
    obtain ⟨p, qs, e1, s1, rfl, ⟨e2, s2⟩ | ⟨e2, s2⟩⟩ := ins (fun z h => hs ⟨z, h⟩) e
    · exact op_inD hu pins s σ H x y v u Q I rx ry ⟨p, qs, hK ▸ r1.dp e1, hK ▸ r2.dp e2, s1, s2, q⟩
    · exact op_inT hu pins s σ H x y v u Q I rx ry ⟨p, qs, hK ▸ r1.dp e1, hK ▸ r2.dp e2, s1, s2, q⟩
  | NotIn =>
    simp only [cmpD, Option.map_eq_some_iff] at e
    obtain ⟨b', e, rfl⟩ := e
    by_cases hs : ∃ z, d2 = .str z
    · obtain ⟨z, rfl⟩ := hs
      have e : inStr z d1 = some b' := e
      cases d1 with
      | str y =>
        simp only [inStr, Option.map_eq_some_iff] at e
        obtain ⟨c, hc, rfl⟩ := e
        cases r1; cases r2
        exact op_notIn_sign pins s σ H _ _ v u Q I rx ry ⟨c, z, by rw [oneSign_ok hc], rfl, q⟩
      | _ => simp [inStr] at e
    obtain ⟨p, qs, e1, s1, rfl, ⟨e2, s2⟩ | ⟨e2, s2⟩⟩ := ins (fun z h => hs ⟨z, h⟩) e
    · exact op_notInD hu pins s σ H x y v u Q I rx ry ⟨p, qs, hK ▸ r1.dp e1, hK ▸ r2.dp e2, s1, s2, q⟩
    · exact op_notInT hu pins s σ H x y v u Q I rx ry ⟨p, qs, hK ▸ r1.dp e1, hK ▸ r2.dp e2, s1, s2, q⟩
end

section
variable {C : Ck} {X : Cx}
def optB (o : Option Bool) : Den Bool := fun ρ => o.map fun r => .ok r ρ
/-- one comparison -/
def cmpB (op : CmpOp) (x : Den D) (y : Den CO) : Den Bool := bnd x fun d1 => bnd y fun c => fun ρ => match coGet ρ c with
  | some d2 => optB (cmpD op d1 d2) ρ
  | none => none
def blV (x : Den Bool) : Den RV := bnd x fun b => ret (.val (.bl b))
theorem cmp_core {op : CmpOp} {x : Den D} {y : Den CO} {σ : L2.St} {H Hf : Hp} {ρ : Rho} {o : Out Bool} {Q : Bool → Hp → Prop} (S : Stt C.W Hf H σ ρ) (e : cmpB op x y ρ = some o) (f : Fin C lB σ Hf o Q) :
    tOp (rCmp C.W.K op) (tG C lD x) (tG C lC y) σ H fun v H' => ∃ k, v = .bl k ∧ Q k H' := by
  refine tG_bnd' S e f fun v H1 Hf1 ρ1 d1 S1 ex1 r1 e1 f1 => ?_
  refine tG_bnd' S1 e1 f1 fun w H2 Hf2 ρ2 c S2 ex2 l2 e2 f2 => ?_
  split at e2
  · rename_i d2 g2
    unfold optB at e2
    rw [Option.map_eq_some_iff] at e2
    obtain ⟨b, hb, rfl⟩ := e2
    refine ⟨d1, d2, b, ?_, ?_, hb, b, rfl, f2 b Hf2 H2 S2 (Evl.Ex.refl _) rfl⟩
    · exact Rp.mono (ex2.trans S2.ex) r1
    · exact (lC.get l2 S2 (Evl.Ex.refl _) g2).now S2.ex
  · cases e2
theorem pt_cmpD (hK : X.K = C.W.K.K) (hu : X.A.units + 65 < cLine) {a b : Expr} {op : CmpOp} {pos : Pos} {x : Den D} {y : Den CO} (ha : PE X a (tG C lD x)) (hb : PE X b (tG C lC y)) (hm : behindInMarks op b = false) : PT X (.Compare a [op] [b] pos) (tG C lB (cmpB op x y)) := by
  refine (pt_cmpR (op_cmpD hK hu op) ha hb hm).imp fun σ H Q hq => ?_
  obtain ⟨Hf, ρ, o, S, e, f⟩ := hq
  exact cmp_core S e f
theorem Fin.blV {x : Den Bool} {σ : L2.St} {H Hf : Hp} {ρ : Rho} {o : Out RV} {Q : VK} (S : Stt C.W Hf H σ ρ) (e : blV x ρ = some o) (f : Fin C lV σ Hf o Q) : ∃ o', x ρ = some o' ∧ Fin C lB σ Hf o' fun b H' => Q (.bl b) H' := by
  unfold DI.blV bnd at e
  split at e
  · cases e
  · rename_i c d ρ' h
    cases e
    exact ⟨_, h, f⟩
  · rename_i b ρ' h
    cases e
    refine ⟨_, h, fun b' Hf' H' S' ex p => ?_⟩
    have p' : b' = b := p
    subst p'
    exact f _ Hf' H' S' ex (.bl _)
theorem pe_cmpD (hK : X.K = C.W.K.K) (hu : X.A.units + 65 < cLine) {a b : Expr} {op : CmpOp} {pos : Pos} {x : Den D} {y : Den CO} (ha : PE X a (tG C lD x)) (hb : PE X b (tG C lC y)) (hm : behindInMarks op b = false) : PE X (.Compare a [op] [b] pos) (tG C lV (blV (cmpB op x y))) := by
  refine (pe_cmpR (op_cmpD hK hu op) ha hb hm).imp fun σ H Q hq => ?_
  obtain ⟨Hf, ρ, o, S, e, f⟩ := hq
  obtain ⟨o', e', f'⟩ := f.blV S e
  have h := cmp_core S e' f'
  -- the value is the bool
  refine tG_mono (fun v H1 q => tG_mono (fun w H2 q2 => ?_) q) h
  obtain ⟨d1, d2, b, r1, r2, hb, k, hk, q⟩ := q2
  cases hk
  exact ⟨d1, d2, b, r1, r2, hb, q⟩
end
end DI
set_option maxRecDepth 100000
set_option maxHeartbeats 4000000
namespace DI
open PySem PySem.Spec PyProof.Rows L2

/-! ### truth -/
def truthD : D → Option Bool
  | .non => some false
  | .bl b => some b
  | .int i => some (i != 0)
  | .str s => if s.length ≤ 100000 then some ((s.length : Int) != 0) else none
  | .lst xs => some (!xs.isEmpty)
  | .fls xs => some (!xs.isEmpty)
  | .tup xs => some (!xs.isEmpty)
  | .obj _ _ => none
theorem RpA.isEmpty {K : Kc} {H : Hp} {vs : List V} {ds : List D} (r : RpA K H vs ds) : vs.isEmpty = ds.isEmpty := by cases r <;> rfl
theorem truthD_ok {K : Kc} {H : Hp} {v : V} {d : D} {b : Bool} (r : Rp K H v d) (e : truthD d = some b) : TruV K.K v H b := by
  cases d with
  | non => cases r; cases e; rfl
  | bl x => cases r; cases e; rfl
  | int i => cases r; cases e; rfl
  | str s =>
    cases r
    simp only [truthD] at e
    split at e
    · rename_i h; cases e; exact ⟨sz h, rfl⟩
    · cases e
  | lst xs => cases r with | lst a c => cases e; exact .inl ⟨_, .inl (.inl a), by rw [c.isEmpty]⟩
  | fls xs => cases r with | fls a c => cases e; exact .inl ⟨_, a, by rw [c.isEmpty]⟩
  | tup xs => cases r with | tup a c => cases e; exact .inr (.inl ⟨_, a, by rw [c.isEmpty]⟩)
  | obj _ _ => cases e
section
variable {C : Ck} {X : Cx}
def truC (y : Den CO) : Den Bool := bnd y fun c => fun ρ => match coGet ρ c with
  | some d => optB (truthD d) ρ
  | none => none
theorem pt_truD (hK : X.K = C.W.K.K) {e : Expr} {y : Den CO} (h : PE X e (tG C lC y)) (he : ∀ whole, isTrue e X.env whole = (do let v ← whole; standAt e.pos; holding [v] (truthy v))) : PT X e (tG C lB (truC y)) := by
  refine (pt_truth h he).imp fun σ H Q hq => ?_
  obtain ⟨Hf, ρ, o, S, e, f⟩ := hq
  refine tG_bnd' S e f fun v H1 Hf1 ρ1 c S1 ex1 l e1 f1 => ?_
  split at e1
  · rename_i d g
    unfold optB at e1
    rw [Option.map_eq_some_iff] at e1
    obtain ⟨b, hb, rfl⟩ := e1
    exact ⟨b, hK ▸ truthD_ok ((lC.get l S1 (Evl.Ex.refl _) g).now S1.ex) hb, f1 b Hf1 H1 S1 (Evl.Ex.refl _) rfl⟩
  · cases e1
/-! ### and, or, not, a if t else b -/
def andB : List (Den Bool) → Den Bool
  | [] => stuck
  | [x] => x
  | x :: y :: r => bnd x fun b => if b then andB (y :: r) else ret false
def orB : List (Den Bool) → Den Bool
  | [] => stuck
  | [x] => x
  | x :: y :: r => bnd x fun b => if b then ret true else orB (y :: r)
def notB (x : Den Bool) : Den Bool := bnd x fun b => ret (!b)
theorem pw_andD : ∀ {es : List Expr} {xs : List (Den Bool)} {pos : Pos}, Paired (fun e x => PT X e (tG C lB x)) es xs → es ≠ [] → PW X (.BoolOp .And es pos) (tG C lB (andB xs))
  | [], _, _, .nil, h => absurd rfl h
  | [a], [x], _, .cons ha .nil, _ => pw_and1 ha
  | a :: b :: es, x :: y :: xs, pos, .cons ha (.cons hb hr), _ => by
    refine (pw_and ha (pw_andD (.cons hb hr) (by simp))).imp fun σ H Q hq => ?_
    obtain ⟨Hf, ρ, o, S, e, f⟩ := hq
    refine tG_bnd' S e f fun c H1 Hf1 ρ1 b S1 ex1 l e1 f1 => ?_
    have l' : c = b := l
    subst l'
    cases c with
    | true => exact ⟨Hf1, ρ1, o, S1, e1, f1⟩
    | false => exact f1.ret e1 S1 (Evl.Ex.refl _) rfl
theorem pw_orD : ∀ {es : List Expr} {xs : List (Den Bool)} {pos : Pos}, Paired (fun e x => PT X e (tG C lB x)) es xs → es ≠ [] → PW X (.BoolOp .Or es pos) (tG C lB (orB xs))
  | [], _, _, .nil, h => absurd rfl h
  | [a], [x], _, .cons ha .nil, _ => pw_or1 ha
  | a :: b :: es, x :: y :: xs, pos, .cons ha (.cons hb hr), _ => by
    refine (pw_or ha (pw_orD (.cons hb hr) (by simp))).imp fun σ H Q hq => ?_
    obtain ⟨Hf, ρ, o, S, e, f⟩ := hq
    refine tG_bnd' S e f fun c H1 Hf1 ρ1 b S1 ex1 l e1 f1 => ?_
    have l' : c = b := l
    subst l'
    cases c with
    | false => exact ⟨Hf1, ρ1, o, S1, e1, f1⟩
    | true => exact f1.ret e1 S1 (Evl.Ex.refl _) rfl
theorem pt_notD {e : Expr} {pos : Pos} {x : Den Bool} (h : PT X e (tG C lB x)) : PT X (.UnaryOp .Not e pos) (tG C lB (notB x)) := by
  refine (pt_not h).imp fun σ H Q hq => ?_
  obtain ⟨Hf, ρ, o, S, e, f⟩ := hq
  refine tG_bnd' S e f fun c H1 Hf1 ρ1 b S1 ex1 l e1 f1 => ?_
  have l' : c = b := l
  subst l'
  exact f1.ret e1 S1 (Evl.Ex.refl _) rfl
/-- .. as values: all but the last True or False -/
def isBl (x : Den D) (k : Bool → Den RV) : Den RV := bnd x fun d => match d with
  | .bl b => k b
  | _ => stuck
def andV : List (Den RV) → Den RV
  | [] => stuck
  | [x] => x
  | x :: y :: r => isBl (frzD x) fun b => if b then andV (y :: r) else ret (.val (.bl false))
def orV : List (Den RV) → Den RV
  | [] => stuck
  | [x] => x
  | x :: y :: r => isBl (frzD x) fun b => if b then ret (.val (.bl true)) else orV (y :: r)
def notV (x : Den RV) : Den RV := isBl (frzD x) fun b => ret (.val (.bl (!b)))
theorem isBl_inv {x : Den D} {k : Bool → Den RV} {σ : L2.St} {H Hf : Hp} {ρ : Rho} {o : Out RV} {Q : VK} (S : Stt C.W Hf H σ ρ) (e : isBl x k ρ = some o) (f : Fin C lV σ Hf o Q) {Q' : VK}
    (g : ∀ b H1 Hf1 ρ1, Stt C.W Hf1 H1 σ ρ1 → Ex Hf Hf1 → k b ρ1 = some o → Fin C lV σ Hf1 o Q → Q' (.bl b) H1) : tG C lD x σ H Q' := by
  refine tG_bnd' S e f fun v H1 Hf1 ρ1 d S1 ex1 l e1 f1 => ?_
  split at e1
  · rename_i b
    cases (show Rp C.W.K Hf1 v (.bl b) from l)
    exact g b H1 Hf1 ρ1 S1 ex1 e1 f1
  · cases e1
theorem pe_andD : ∀ {es : List Expr} {xs : List (Den RV)} {pos : Pos}, Paired (fun e x => PE X e (tG C lV x)) es xs → es ≠ [] → PE X (.BoolOp .And es pos) (tG C lV (andV xs))
  | [], _, _, .nil, h => absurd rfl h
  | [a], [x], _, .cons ha .nil, _ => pe_one ha
  | a :: b :: es, x :: y :: xs, pos, .cons ha (.cons hb hr), _ => by
    refine (pe_and (frzD_ok ha) (pe_andD (.cons hb hr) (by simp))).imp fun σ H Q hq => ?_
    obtain ⟨Hf, ρ, o, S, e, f⟩ := hq
    refine isBl_inv S e f fun b H1 Hf1 ρ1 S1 ex1 e1 f1 => ⟨b, rfl, ?_⟩
    cases b with
    | true => exact ⟨Hf1, ρ1, o, S1, e1, f1⟩
    | false => exact f1.ret e1 S1 (Evl.Ex.refl _) (.bl _)
theorem pe_orD : ∀ {es : List Expr} {xs : List (Den RV)} {pos : Pos}, Paired (fun e x => PE X e (tG C lV x)) es xs → es ≠ [] → PE X (.BoolOp .Or es pos) (tG C lV (orV xs))
  | [], _, _, .nil, h => absurd rfl h
  | [a], [x], _, .cons ha .nil, _ => pe_one ha
  | a :: b :: es, x :: y :: xs, pos, .cons ha (.cons hb hr), _ => by
    refine (pe_or (frzD_ok ha) (pe_orD (.cons hb hr) (by simp))).imp fun σ H Q hq => ?_
    obtain ⟨Hf, ρ, o, S, e, f⟩ := hq
    refine isBl_inv S e f fun b H1 Hf1 ρ1 S1 ex1 e1 f1 => ⟨b, rfl, ?_⟩
    cases b with
    | false => exact ⟨Hf1, ρ1, o, S1, e1, f1⟩
    | true => exact f1.ret e1 S1 (Evl.Ex.refl _) (.bl _)
theorem pe_notD {e : Expr} {pos : Pos} {x : Den RV} (h : PE X e (tG C lV x)) : PE X (.UnaryOp .Not e pos) (tG C lV (notV x)) := by
  refine (pe_not (frzD_ok h)).imp fun σ H Q hq => ?_
  obtain ⟨Hf, ρ, o, S, e, f⟩ := hq
  exact isBl_inv S e f fun b H1 Hf1 ρ1 S1 ex1 e1 f1 => ⟨b, rfl, f1.ret e1 S1 (Evl.Ex.refl _) (.bl _)⟩
def ifV (t : Den Bool) (x y : Den RV) : Den RV := bnd t fun b => if b then x else y
theorem pe_ifD {c a b : Expr} {pos : Pos} {t : Den Bool} {x y : Den RV} (hc : PT X c (tG C lB t)) (ha : PE X a (tG C lV x)) (hb : PE X b (tG C lV y)) : PE X (.IfExp c a b pos) (tG C lV (ifV t x y)) := by
  refine (pe_ifExp hc ha hb).imp fun σ H Q hq => ?_
  obtain ⟨Hf, ρ, o, S, e, f⟩ := hq
  refine tG_bnd' S e f fun c H1 Hf1 ρ1 b S1 ex1 l e1 f1 => ?_
  have l' : c = b := l
  subst l'
  cases c with
  | true => exact ⟨Hf1, ρ1, o, S1, e1, f1⟩
  | false => exact ⟨Hf1, ρ1, o, S1, e1, f1⟩
/-- a if t else b, as a test -/
def ifB (t x y : Den Bool) : Den Bool := bnd t fun b => if b then x else y
theorem pt_ifD {c a b : Expr} {pos : Pos} {t x y : Den Bool} (hc : PT X c (tG C lB t)) (ha : PT X a (tG C lB x)) (hb : PT X b (tG C lB y)) : PT X (.IfExp c a b pos) (tG C lB (ifB t x y)) := by
  constructor
  intro pins s σ H Q I hq
  obtain ⟨Hf, ρ, o, S, e, f⟩ := hq
  refine isTrue_IfExp (thn (hc.run pins s σ H (fun b H1 => if b = true then tG C lB x σ H1 Q else tG C lB y σ H1 Q) I ?_) fun d s1 ⟨H1, I1, q1⟩ => ?_)
  · refine tG_bnd' S e f fun c H1 Hf1 ρ1 b S1 ex1 l e1 f1 => ?_
    have l' : c = b := l
    subst l'
    cases c with
    | true => exact ⟨Hf1, ρ1, o, S1, e1, f1⟩
    | false => exact ⟨Hf1, ρ1, o, S1, e1, f1⟩
  · cases d with
    | true => exact ha.run pins s1 σ H1 Q I1 q1
    | false => exact hb.run pins s1 σ H1 Q I1 q1
/-- -a -/
def negV (x : Den D) : Den RV := bnd x fun d => match d with
  | .int i => ret (.val (.int (-i)))
  | _ => stuck
theorem pe_negD {e : Expr} {pos : Pos} {x : Den D} (h : PE X e (tG C lD x)) : PE X (.UnaryOp .USub e pos) (tG C lV (negV x)) := by
  refine (pe_un un_neg h).imp fun σ H Q hq => ?_
  obtain ⟨Hf, ρ, o, S, e, f⟩ := hq
  refine tG_bnd' S e f fun v H1 Hf1 ρ1 d S1 ex1 l e1 f1 => ?_
  split at e1
  · rename_i i
    cases (show Rp C.W.K Hf1 v (.int i) from l)
    exact ⟨i, rfl, f1.ret e1 S1 (Evl.Ex.refl _) (.int _)⟩
  · cases e1

/-! ### items, slices -/
def ixD : D → D → Option D
  | .lst ds, .int i => atI ds i
  | .fls ds, .int i => atI ds i
  | .tup ds, .int i => atI ds i
  | .str s, .int i => if s.length ≤ 100000 then (atI s.cps.toList i).map fun c => .str ⟨#[c]⟩ else none
  | _, _ => none
def optD (o : Option D) : Den RV := fun ρ => o.map fun r => .ok (.val r) ρ
def ixV (x : Den CO) (y : Den D) : Den RV := bnd x fun c => bnd y fun d2 => fun ρ => match coGet ρ c with
  | some d1 => optD (ixD d1 d2) ρ
  | none => none
theorem RpA.atI {K : Kc} {H : Hp} {vs : List V} {ds : List D} {i : Int} {d : D} (r : RpA K H vs ds) (e : L2.atI ds i = some d) : ∃ v, L2.atI vs i = some v ∧ Rp K H v d := by
  unfold L2.atI at e ⊢
  rw [r.length]
  cases h : ixN ds.length i with
  | none => rw [h] at e; cases e
  | some j => rw [h] at e; exact r.get e
theorem pe_ixD (hK : X.K = C.W.K.K) {a b : Expr} {pos : Pos} {x : Den CO} {y : Den D} (ha : PE X a (tG C lC x)) (hb : PE X b (tG C lD y)) (hs : PlainIx b) : PE X (.Subscript a b pos) (tG C lV (ixV x y)) := by
  refine (pe_ix ix_seq ha hb hs).imp fun σ H Q hq => ?_
  obtain ⟨Hf, ρ, o, S, e, f⟩ := hq
  refine tG_bnd' S e f fun v H1 Hf1 ρ1 c S1 ex1 l e1 f1 => ?_
  refine tG_bnd' S1 e1 f1 fun w H2 Hf2 ρ2 d2 S2 ex2 r2 e2 f2 => ?_
  split at e2
  · rename_i d1 g
    unfold optD at e2
    rw [Option.map_eq_some_iff] at e2
    obtain ⟨d, hd, rfl⟩ := e2
    have l' := lC.get l S2 ex2 g
    have r2' : Rp C.W.K Hf2 w d2 := r2
    unfold ixD at hd
    split at hd
    · obtain ⟨p, xs, rfl, h1, ra⟩ := l'.lst S2.ex
      cases r2'
      obtain ⟨u, hu, ru⟩ := ra.atI hd
      exact .inl ⟨p, xs, _, u, rfl, rfl, .inl (.inl h1), hu, f2 u Hf2 H2 S2 (Evl.Ex.refl _) ru⟩
    · obtain ⟨p, xs, rfl, h1, ra⟩ := l'.fls S2.ex
      cases r2'
      obtain ⟨u, hu, ru⟩ := ra.atI hd
      exact .inl ⟨p, xs, _, u, rfl, rfl, hK ▸ h1, hu, f2 u Hf2 H2 S2 (Evl.Ex.refl _) ru⟩
    · obtain ⟨p, xs, rfl, h1, ra, _⟩ := l'.tup S2.ex
      cases r2'
      obtain ⟨u, hu, ru⟩ := ra.atI hd
      exact .inr (.inl ⟨p, xs, _, u, rfl, rfl, hK ▸ h1, hu, f2 u Hf2 H2 S2 (Evl.Ex.refl _) ru⟩)
    · split at hd
      · rename_i hz
        rw [Option.map_eq_some_iff] at hd
        obtain ⟨c, hc, rfl⟩ := hd
        cases r2'
        exact .inr (.inr ⟨_, _, c, l'.str, rfl, sz hz, hc, f2 _ Hf2 H2 S2 (Evl.Ex.refl _) (.str _)⟩)
      · cases hd
    · cases hd
  · cases e2
/-- a bound of a slice -/
def lO : Lie (Option Int) (Option Int) := fun _ _ _ _ _ a b => b = a
def noPart : Den (Option Int) := ret none
def part (x : Den D) : Den (Option Int) := bnd x fun d => match d with
  | .int i => ret (some i)
  | _ => stuck
theorem po_noneD : PO X none (tG C lO noPart) := by
  refine ⟨fun pins s σ H Q I hq => po_none.run pins s σ H Q I ?_⟩
  obtain ⟨Hf, ρ, o, S, e, f⟩ := hq
  exact f.ret e S (Evl.Ex.refl _) rfl
theorem po_someD {e : Expr} {x : Den D} (h : PE X e (tG C lD x)) : PO X (some e) (tG C lO (part x)) := by
  refine ⟨fun pins s σ H Q I hq => (po_some h).run pins s σ H Q I ?_⟩
  obtain ⟨Hf, ρ, o, S, e, f⟩ := hq
  refine tG_bnd' S e f fun v H1 Hf1 ρ1 d S1 ex1 l e1 f1 => ?_
  split at e1
  · rename_i i
    cases (show Rp C.W.K Hf1 v (.int i) from l)
    exact ⟨i, rfl, f1.ret e1 S1 (Evl.Ex.refl _) rfl⟩
  · cases e1
def cutD (xs : List D) (lo hi : Option Int) : List D := (xs.drop (HT.sIx xs.length 0 lo)).take (HT.sIx xs.length xs.length hi - HT.sIx xs.length 0 lo)
theorem RpA.cut {K : Kc} {H : Hp} {vs : List V} {ds : List D} {lo hi : Option Int} (r : RpA K H vs ds) : RpA K H (cutV vs lo hi) (cutD ds lo hi) := by
  unfold cutV cutD
  rw [r.length]
  exact (r.drop _).take _
def slcD (d : D) (lo hi : Option Int) : Option RV := match d with
  | .lst ds => some (.new (.lst (cutD ds lo hi)))
  | .fls ds => some (.new (.lst (cutD ds lo hi)))
  | .tup ds => some (.val (.tup (cutD ds lo hi)))
  | .str z => if z.length ≤ 100000 then some (.val (.str (cutS z lo hi))) else none
  | _ => none
def slcV (x : Den CO) (lo hi : Den (Option Int)) : Den RV := bnd x fun c => bnd lo fun l => bnd hi fun h => fun ρ => match coGet ρ c with
  | some d => optV (slcD d l h) ρ
  | none => none
theorem cut_whole {ds : List D} {lo hi : Option Int} (h : HT.sIx ds.length 0 lo = 0 ∧ HT.sIx ds.length ds.length hi = ds.length) : cutD ds lo hi = ds := by
  unfold cutD
  rw [h.1, h.2]
  simp
theorem pe_slcD (hK : X.K = C.W.K.K) {a : Expr} {lo hi : Option Expr} {p2 pos : Pos} {x : Den CO} {l h : Den (Option Int)} (ha : PE X a (tG C lC x)) (hl : PO X lo (tG C lO l)) (hh : PO X hi (tG C lO h)) :
    PE X (.Subscript a (.Slice lo hi none p2) pos) (tG C lV (slcV x l h)) := by
  refine (pe_slice (SlR.or sl_list (SlR.or sl_tupA sl_str)) ha hl hh).imp fun σ H Q hq => ?_
  obtain ⟨Hf, ρ, o, S, e, f⟩ := hq
  refine tG_bnd' S e f fun v H1 Hf1 ρ1 c S1 ex1 lc e1 f1 => ?_
  refine tG_bnd' S1 e1 f1 fun lo' H2 Hf2 ρ2 lo'' S2 ex2 r2 e2 f2 => ?_
  have r2' : lo' = lo'' := r2
  subst r2'
  refine tG_bnd' S2 e2 f2 fun hi' H3 Hf3 ρ3 hi'' S3 ex3 r3 e3 f3 => ?_
  have r3' : hi' = hi'' := r3
  subst r3'
  split at e3
  · rename_i d g
    unfold optV at e3
    rw [Option.map_eq_some_iff] at e3
    obtain ⟨rv, hd, rfl⟩ := e3
    have l' := lC.get lc S3 (ex2.trans ex3) g
    unfold slcD at hd
    split at hd
    · cases hd
      obtain ⟨p, xs, rfl, h1, ra⟩ := l'.lst S3.ex
      refine .inl ⟨p, xs, rfl, .inl (.inl h1), fun q nq => ?_⟩
      exact f3 _ Hf3 _ (S3.made nq) (Evl.Ex.refl _) ⟨q, rfl, S3.H0none nq, .lst (Evl.fresh_back S3.ex nq) upd_same ra.cut, S3.apart nq⟩
    · cases hd
      obtain ⟨p, xs, rfl, h1, ra⟩ := l'.fls S3.ex
      refine .inl ⟨p, xs, rfl, hK ▸ h1, fun q nq => ?_⟩
      exact f3 _ Hf3 _ (S3.made nq) (Evl.Ex.refl _) ⟨q, rfl, S3.H0none nq, .lst (Evl.fresh_back S3.ex nq) upd_same ra.cut, S3.apart nq⟩
    · cases hd
      obtain ⟨p, xs, rfl, h1, ra, rr⟩ := l'.tup S3.ex
      refine .inr (.inl ⟨p, xs, rfl, hK ▸ h1, fun hw => ?_, fun hw q nq => ?_⟩)
      · refine f3 _ Hf3 _ S3 (Evl.Ex.refl _) ?_
        show Rp _ _ _ (.tup (cutD _ _ _))
        rw [cut_whole (by rw [← ra.length]; exact hw)]
        exact rr
      · obtain ⟨S4, ex4, _⟩ := S3.laid (o := .tup (cutV xs lo' hi')) nq
        exact f3 _ _ _ S4 ex4 (.tup (SqT.of upd_same) (ra.cut.mono ex4))
    · split at hd
      · rename_i hz
        cases hd
        exact .inr (.inr ⟨_, l'.str, sz hz, f3 _ Hf3 H3 S3 (Evl.Ex.refl _) (.str _)⟩)
      · cases hd
    · cases hd
  · cases e3
end
end DI
set_option maxRecDepth 100000
set_option maxHeartbeats 4000000
namespace DI
open PySem PySem.Spec PyProof.Rows L2

/-! ### what the rules ask of the text's outer shape -/
def notStar : Expr → Bool
  | .Starred .. => false
  | _ => true
theorem star_cons {e : Expr} {es : List Expr} {env : Env} (h : notStar e = true) : starEach (e :: es) env = (false, eval e env) :: starEach es env := by
  cases e <;> first | rfl | cases h
theorem star_any {env : Env} {pos : Pos} : ∀ {es : List Expr}, es.all notStar = true → (backTo pos (starEach es env)).any (·.1) = false
  | [], _ => rfl
  | e :: es, h => by
    rw [List.all_cons, Bool.and_eq_true] at h
    rw [star_cons h.1]
    have ih := star_any (env := env) (pos := pos) h.2
    unfold backTo at ih ⊢
    rw [List.map_cons, List.any_cons, ih]
    rfl
def plainT : Expr → Bool
  | .UnaryOp .. => false
  | .BoolOp .. => false
  | .IfExp .. => false
  | .Compare .. => false
  | _ => true
theorem plainT_ok {e : Expr} {env : Env} (h : plainT e = true) : ∀ whole, isTrue e env whole = (do let v ← whole; standAt e.pos; holding [v] (truthy v)) := by
  cases e <;> first | (intro _; rfl) | cases h
def notSlice : Expr → Bool
  | .Slice .. => false
  | _ => true
theorem notSlice_ok {e : Expr} (h : notSlice e = true) : PlainIx e := by
  cases e <;> first | (intro _ _; rfl) | cases h
def notComp : Expr → Bool
  | .ListComp .. => false
  | .SetComp .. => false
  | .DictComp .. => false
  | _ => true
theorem notComp_ok {e : Expr} {t : Option Expr} {l : Nat} {env : Env} (h : notComp e = true) : swapsWith e t l env = pure false := by
  cases e <;> first | rfl | cases h
def notSet : Expr → Bool
  | .Set .. => false
  | _ => true
theorem notSet_iter {e : Expr} {env : Env} (h : notSet e = true) : ∀ x, foldedSetIterable e env x = pure x := by
  intro x
  cases e <;> first | rfl | cases h
theorem notSet_mark {e : Expr} {op : CmpOp} (h : notSet e = true) : behindInMarks op e = false := by
  cases e <;> first | rfl | cases h

section
variable {C : Ck} {X : Cx}
/-! ### built-in functions -/
def call1C (k : D → Option RV) (x : Den CO) : Den RV := bnd x fun c => fun ρ => match coGet ρ c with
  | some d => optV (k d) ρ
  | none => none
/-- len, tuple, list: one argument, only looked into -/
def lenD : D → Option RV
  | .lst ds => some (.val (.int ds.length))
  | .fls ds => some (.val (.int ds.length))
  | .tup ds => some (.val (.int ds.length))
  | .str s => if s.length ≤ 100000 then some (.val (.int s.length)) else none
  | _ => none
def tupleD : D → Option RV
  | .lst ds => some (.val (.tup ds))
  | .fls ds => some (.val (.tup ds))
  | .tup ds => some (.val (.tup ds))
  | _ => none
def listD : D → Option RV
  | .lst ds => some (.new (.lst ds))
  | .fls ds => some (.new (.lst ds))
  | .tup ds => some (.new (.lst ds))
  | _ => none
theorem call1C_inv {k : D → Option RV} {x : Den CO} {σ : L2.St} {H Hf : Hp} {ρ : Rho} {o : Out RV} {Q : VK} (S : Stt C.W Hf H σ ρ) (e : call1C k x ρ = some o) (f : Fin C lV σ Hf o Q) {Q' : V → Hp → Prop}
    (g : ∀ v H1 Hf1 ρ1 d rv, Stt C.W Hf1 H1 σ ρ1 → RpC C.W.K Hf1 H1 v d → k d = some rv → (∀ u Hf' H', Stt C.W Hf' H' σ ρ1 → Ex Hf1 Hf' → RvOk C.W Hf' H' σ ρ1 rv u → Q u H') → Q' v H1) : tG C lC x σ H Q' := by
  refine tG_bnd' S e f fun v H1 Hf1 ρ1 c S1 ex1 l e1 f1 => ?_
  split at e1
  · rename_i d gd
    unfold optV at e1
    rw [Option.map_eq_some_iff] at e1
    obtain ⟨rv, hd, rfl⟩ := e1
    exact g v H1 Hf1 ρ1 d rv S1 (lC.get l S1 (Evl.Ex.refl _) gd) hd f1
  · cases e1
theorem pe_lenD (hK : X.K = C.W.K.K) {e : Expr} {p pos : Pos} {x : Den CO} (hg : Gl X "len") (hm : X.mg "len" = none) (h : PE X e (tG C lC x)) (hs : notStar e = true) : PE X (.Call (.Name "len" p) [e] [] pos) (tG C lV (call1C lenD x)) := by
  refine (pe_callB (call_len) hg hm PySem.boot_len (pa_cons h pa_nil (star_cons hs)) (he := star_cons hs) (hpl := star_any rfl)).imp fun σ H Q hq => ?_
  obtain ⟨Hf, ρ, o, S, e, f⟩ := hq
  refine call1C_inv S e f fun v H1 Hf1 ρ1 d rv S1 r hd k => ?_
  unfold lenD at hd
  split at hd
  · cases hd
    obtain ⟨a, xs, rfl, h1, ra⟩ := r.lst S1.ex
    exact ⟨_, _, rfl, .inl ⟨xs, .inl (.inl h1), ra.length.symm⟩, k _ Hf1 H1 S1 (Evl.Ex.refl _) (.int _)⟩
  · cases hd
    obtain ⟨a, xs, rfl, h1, ra⟩ := r.fls S1.ex
    exact ⟨_, _, rfl, .inl ⟨xs, hK ▸ h1, ra.length.symm⟩, k _ Hf1 H1 S1 (Evl.Ex.refl _) (.int _)⟩
  · cases hd
    obtain ⟨a, xs, rfl, h1, ra, _⟩ := r.tup S1.ex
    exact ⟨_, _, rfl, .inr ⟨xs, hK ▸ h1, ra.length.symm⟩, k _ Hf1 H1 S1 (Evl.Ex.refl _) (.int _)⟩
  · split at hd
    · rename_i hz
      cases hd
      rw [r.str]
      exact ⟨_, _, rfl, ⟨sz hz, rfl⟩, k _ Hf1 H1 S1 (Evl.Ex.refl _) (.int _)⟩
    · cases hd
  · cases hd
theorem pe_tupleD (hK : X.K = C.W.K.K) {e : Expr} {p pos : Pos} {x : Den CO} (hg : Gl X "tuple") (hm : X.mg "tuple" = none) (h : PE X e (tG C lC x)) (hs : notStar e = true) : PE X (.Call (.Name "tuple" p) [e] [] pos) (tG C lV (call1C tupleD x)) := by
  refine (pe_callTy (call_tuple_of) hg hm PyProof.Rows.boot_tuple (pa_cons h pa_nil (star_cons hs)) (he := star_cons hs) (hpl := star_any rfl)).imp fun σ H Q hq => ?_
  obtain ⟨Hf, ρ, o, S, e, f⟩ := hq
  refine call1C_inv S e f fun v H1 Hf1 ρ1 d rv S1 r hd k => ?_
  unfold tupleD at hd
  split at hd
  · cases hd
    obtain ⟨a, xs, rfl, h1, ra⟩ := r.lst S1.ex
    refine ⟨_, _, rfl, .inl ⟨.inl (.inl h1), fun l nl => ?_⟩⟩
    obtain ⟨S2, ex2, _⟩ := S1.laid (o := .tup xs) nl
    exact k _ _ _ S2 ex2 (.tup (SqT.of upd_same) (ra.mono ex2))
  · cases hd
    obtain ⟨a, xs, rfl, h1, ra⟩ := r.fls S1.ex
    refine ⟨_, _, rfl, .inl ⟨hK ▸ h1, fun l nl => ?_⟩⟩
    obtain ⟨S2, ex2, _⟩ := S1.laid (o := .tup xs) nl
    exact k _ _ _ S2 ex2 (.tup (SqT.of upd_same) (ra.mono ex2))
  · cases hd
    obtain ⟨a, xs, rfl, h1, ra, rr⟩ := r.tup S1.ex
    exact ⟨_, _, rfl, .inr ⟨hK ▸ h1, k _ Hf1 H1 S1 (Evl.Ex.refl _) rr⟩⟩
  · cases hd
theorem pe_listD (hK : X.K = C.W.K.K) {e : Expr} {p pos : Pos} {x : Den CO} (hg : Gl X "list") (hm : X.mg "list" = none) (h : PE X e (tG C lC x)) (hs : notStar e = true) : PE X (.Call (.Name "list" p) [e] [] pos) (tG C lV (call1C listD x)) := by
  refine (pe_callTy (call_list_of) hg hm PyProof.Rows.boot_list (pa_cons h pa_nil (star_cons hs)) (he := star_cons hs) (hpl := star_any rfl)).imp fun σ H Q hq => ?_
  obtain ⟨Hf, ρ, o, S, e, f⟩ := hq
  refine call1C_inv S e f fun v H1 Hf1 ρ1 d rv S1 r hd k => ?_
  have fin : ∀ {a : Addr} {xs : List V} {ds : List D}, rv = .new (.lst ds) → RpA C.W.K Hf1 xs ds → ∀ l, H1 l = none → Q (.ref l) (upd H1 l (.lst xs)) := fun {a xs ds} er ra l nl => by
    subst er
    exact k _ Hf1 _ (S1.made nl) (Evl.Ex.refl _) ⟨l, rfl, S1.H0none nl, .lst (Evl.fresh_back S1.ex nl) upd_same ra, S1.apart nl⟩
  unfold listD at hd
  split at hd
  · cases hd
    obtain ⟨a, xs, rfl, h1, ra⟩ := r.lst S1.ex
    exact ⟨_, _, rfl, .inl (.inl (.inl h1)), fin (a := a) rfl ra⟩
  · cases hd
    obtain ⟨a, xs, rfl, h1, ra⟩ := r.fls S1.ex
    exact ⟨_, _, rfl, .inl (hK ▸ h1), fin (a := a) rfl ra⟩
  · cases hd
    obtain ⟨a, xs, rfl, h1, ra, rr⟩ := r.tup S1.ex
    exact ⟨_, _, rfl, .inr (hK ▸ h1), fin (a := a) rfl ra⟩
  · cases hd
/-- functions of plain data: int, abs, max, min -/
def callA (k : List D → Option D) (x : Den (List D)) : Den RV := bnd x fun ds => optD (k ds)
def intD : List D → Option D
  | [.int i] => some (.int i)
  | [.bl b] => some (.int (if b then 1 else 0))
  | _ => none
def absD : List D → Option D
  | [.int i] => some (.int (if i < 0 then -i else i))
  | _ => none
def maxD : List D → Option D
  | [.int i, .int j] => some (.int (if j > i then j else i))
  | _ => none
def minD : List D → Option D
  | [.int i, .int j] => some (.int (if j < i then j else i))
  | _ => none
theorem callA_inv {k : List D → Option D} {x : Den (List D)} {σ : L2.St} {H Hf : Hp} {ρ : Rho} {o : Out RV} {Q : VK} (S : Stt C.W Hf H σ ρ) (e : callA k x ρ = some o) (f : Fin C lV σ Hf o Q) {Q' : List V → Hp → Prop}
    (g : ∀ vs H1 Hf1 ds d, Ex Hf1 H1 → RpA C.W.K Hf1 vs ds → k ds = some d → (∀ u, Rp C.W.K Hf1 u d → Q u H1) → Q' vs H1) : tG C lA x σ H Q' := by
  refine tG_bnd' S e f fun vs H1 Hf1 ρ1 ds S1 ex1 r e1 f1 => ?_
  unfold optD at e1
  rw [Option.map_eq_some_iff] at e1
  obtain ⟨d, hd, rfl⟩ := e1
  exact g vs H1 Hf1 ds d S1.ex r hd fun u ru => f1 u Hf1 H1 S1 (Evl.Ex.refl _) ru
theorem pe_intD {es : List Expr} {e : Expr} {p pos : Pos} {x : Den (List D)} (hg : Gl X "int") (hm : X.mg "int" = none) (h : PA X (e :: es) (tG C lA x)) (hs : (e :: es).all notStar = true) : PE X (.Call (.Name "int" p) (e :: es) [] pos) (tG C lV (callA intD x)) := by
  rw [List.all_cons, Bool.and_eq_true] at hs
  refine (pe_callTy (call_int1) hg hm PyProof.Rows.boot_int h (he := star_cons hs.1) (hpl := star_any hs.2)).imp fun σ H Q hq => ?_
  obtain ⟨Hf, ρ, o, S, e, f⟩ := hq
  refine callA_inv S e f fun vs H1 Hf1 ds d ex r hd k => ?_
  unfold intD at hd
  split at hd
  · cases hd; cases r with | cons a b => cases b; cases a; exact .inl ⟨_, rfl, k _ (.int _)⟩
  · cases hd; cases r with | cons a b => cases b; cases a; exact .inr ⟨_, rfl, k _ (.int _)⟩
  · cases hd
theorem pe_absD {es : List Expr} {e : Expr} {p pos : Pos} {x : Den (List D)} (hg : Gl X "abs") (hm : X.mg "abs" = none) (h : PA X (e :: es) (tG C lA x)) (hs : (e :: es).all notStar = true) : PE X (.Call (.Name "abs" p) (e :: es) [] pos) (tG C lV (callA absD x)) := by
  rw [List.all_cons, Bool.and_eq_true] at hs
  refine (pe_callB (call_abs) hg hm PyProof.Rows.boot_abs h (he := star_cons hs.1) (hpl := star_any hs.2)).imp fun σ H Q hq => ?_
  obtain ⟨Hf, ρ, o, S, e, f⟩ := hq
  refine callA_inv S e f fun vs H1 Hf1 ds d ex r hd k => ?_
  unfold absD at hd
  split at hd
  · cases hd; cases r with | cons a b => cases b; cases a; exact ⟨_, rfl, k _ (.int _)⟩
  · cases hd
theorem pe_maxD (hc : X.calm = true) {es : List Expr} {e : Expr} {p pos : Pos} {x : Den (List D)} (hg : Gl X "max") (hm : X.mg "max" = none) (h : PA X (e :: es) (tG C lA x)) (hs : (e :: es).all notStar = true) : PE X (.Call (.Name "max" p) (e :: es) [] pos) (tG C lV (callA maxD x)) := by
  rw [List.all_cons, Bool.and_eq_true] at hs
  refine (pe_callB (call_max2 hc) hg hm PyProof.Rows.boot_max h (he := star_cons hs.1) (hpl := star_any hs.2)).imp fun σ H Q hq => ?_
  obtain ⟨Hf, ρ, o, S, e, f⟩ := hq
  refine callA_inv S e f fun vs H1 Hf1 ds d ex r hd k => ?_
  unfold maxD at hd
  split at hd
  · cases hd; cases r with | cons a b => cases b with | cons a' b' => cases b'; cases a; cases a'; exact ⟨_, _, rfl, k _ (.int _)⟩
  · cases hd
theorem pe_minD (hc : X.calm = true) {es : List Expr} {e : Expr} {p pos : Pos} {x : Den (List D)} (hg : Gl X "min") (hm : X.mg "min" = none) (h : PA X (e :: es) (tG C lA x)) (hs : (e :: es).all notStar = true) : PE X (.Call (.Name "min" p) (e :: es) [] pos) (tG C lV (callA minD x)) := by
  rw [List.all_cons, Bool.and_eq_true] at hs
  refine (pe_callB (call_min2 hc) hg hm PyProof.Rows.boot_min h (he := star_cons hs.1) (hpl := star_any hs.2)).imp fun σ H Q hq => ?_
  obtain ⟨Hf, ρ, o, S, e, f⟩ := hq
  refine callA_inv S e f fun vs H1 Hf1 ds d ex r hd k => ?_
  unfold minD at hd
  split at hd
  · cases hd; cases r with | cons a b => cases b with | cons a' b' => cases b'; cases a; cases a'; exact ⟨_, _, rfl, k _ (.int _)⟩
  · cases hd
end

/-! ### isinstance -/
def five : List String := ["int", "bool", "str", "list", "tuple"]
def isTn (T : String) : D → Bool
  | .non => false
  | .bl _ => T == "bool" || T == "int"
  | .int _ => T == "int"
  | .str _ => T == "str"
  | .lst _ => T == "list"
  | .fls _ => T == "list"
  | .tup _ => T == "tuple"
  | .obj _ _ => false
/-- what the written part says of the own classes -/
structure OwnT (K : Kc) : Prop where
  ty : ∀ c C, K.cl c = some C → Cls K.K C ∧ PySem.W.findIn K.K (.ref C) "__class__" = some (some (.builtin "object.__class__")) ∧
    PySem.W.specialIn K.K (.builtin "object.__class__") "__get__" = some (some (.builtin "getset_descriptor.__get__")) ∧ PySem.W.takesIn K.K (.builtin "object.__class__") = some true ∧ PySem.W.mroIn K.K C (.type "object") = some true
  bt : ∀ c C, K.cl c = some C → ∀ T ∈ five, PySem.W.kitOne K.K (.ref C) (.type T) = some false
  tb : ∀ c C, K.cl c = some C → ∀ T ∈ "NoneType" :: five, PySem.W.kitOne K.K (.type T) (.ref C) = some false
  oo : ∀ c C c' C', K.cl c = some C → K.cl c' = some C' → PySem.W.kitOne K.K (.ref C') (.ref C) = some (c' == c)
def tyD (K : Kc) : D → Value
  | .non => .type "NoneType"
  | .bl _ => .type "bool"
  | .int _ => .type "int"
  | .str _ => .type "str"
  | .lst _ => .type "list"
  | .fls _ => .type "list"
  | .tup _ => .type "tuple"
  | .obj c _ => .ref ((K.cl c).getD 0)
theorem tyD_obj {K : Kc} {c : Str} {gs : List (Str × D)} {C : Addr} (z : K.cl c = some C) : tyD K (.obj c gs) = .ref C := by simp [tyD, z]
theorem tyD_ok {K : Kc} (O : OwnT K) {H : Hp} {v : V} {d : D} (r : Rp K H v d) : TyX K.K H v (tyD K d) := by
  cases r with
  | non => exact .base .non
  | bl b => exact .base (.bl b)
  | int i => exact .base (.int i)
  | str x => exact .base (.str x)
  | lst a b => exact .base (.lst a)
  | fls a b =>
    rcases a with (a | ⟨o, a⟩) | ⟨o, its, n, h1, h2, _⟩
    · exact .base (.lst a)
    · exact .base (.frz a)
    · exact .kList h1 h2
  | tup a b =>
    rcases a with (a | ⟨o, a⟩) | ⟨o, its, n, h1, h2, _⟩
    · exact .base (.tup a)
    · exact .fTuple a
    · exact .kTuple h1 h2
  | @obj a C dx c fs gs z h1 b =>
    obtain ⟨q1, q2, q3, q4, q5⟩ := O.ty _ _ z
    rw [tyD_obj z]
    exact .base (.ins h1 q1 q2 q3 q4 q5)
theorem kit_tab : ∀ T ∈ five, ∀ a ∈ "NoneType" :: five, kitB a T = some (a == T || (a == "bool" && T == "int")) := by decide +kernel
theorem isTn_ok {K : Kc} (O : OwnT K) {H : Hp} {v : V} {d : D} {T : String} (r : Rp K H v d) (hT : T ∈ five) : PySem.W.kitOne K.K (tyD K d) (.type T) = some (isTn T d) := by
  have k : ∀ a ∈ "NoneType" :: five, PySem.W.kitOne K.K (.type a) (.type T) = some (a == T || (a == "bool" && T == "int")) := fun a ha => kit_ty (kit_tab T hT a ha)
  have hh : T = "int" ∨ T = "bool" ∨ T = "str" ∨ T = "list" ∨ T = "tuple" := by simpa [five] using hT
  cases d with
  | obj c gs =>
    cases r with
    | obj z h1 b =>
      rw [tyD_obj z]
      exact O.bt _ _ z T hT
  | non => rw [show tyD K .non = .type "NoneType" from rfl, k _ (by decide)]; rcases hh with rfl | rfl | rfl | rfl | rfl <;> decide
  | bl b => rw [show tyD K (.bl b) = .type "bool" from rfl, k _ (by decide)]; rcases hh with rfl | rfl | rfl | rfl | rfl <;> (simp only [isTn]; decide)
  | int b => rw [show tyD K (.int b) = .type "int" from rfl, k _ (by decide)]; rcases hh with rfl | rfl | rfl | rfl | rfl <;> (simp only [isTn]; decide)
  | str b => rw [show tyD K (.str b) = .type "str" from rfl, k _ (by decide)]; rcases hh with rfl | rfl | rfl | rfl | rfl <;> (simp only [isTn]; decide)
  | lst b => rw [show tyD K (.lst b) = .type "list" from rfl, k _ (by decide)]; rcases hh with rfl | rfl | rfl | rfl | rfl <;> (simp only [isTn]; decide)
  | fls b => rw [show tyD K (.fls b) = .type "list" from rfl, k _ (by decide)]; rcases hh with rfl | rfl | rfl | rfl | rfl <;> (simp only [isTn]; decide)
  | tup b => rw [show tyD K (.tup b) = .type "tuple" from rfl, k _ (by decide)]; rcases hh with rfl | rfl | rfl | rfl | rfl <;> (simp only [isTn]; decide)
def isOwn (c : Str) : D → Bool
  | .obj c' _ => c' == c
  | _ => false
theorem isOwn_ok {K : Kc} (O : OwnT K) {H : Hp} {v : V} {d : D} {c : Str} {C : Addr} (r : Rp K H v d) (hc : K.cl c = some C) : PySem.W.kitOne K.K (tyD K d) (.ref C) = some (isOwn c d) := by
  cases d with
  | obj c' gs =>
    cases r with
    | obj z h1 b =>
      rw [tyD_obj z]
      exact O.oo _ _ _ _ hc z
  | non => exact O.tb _ _ hc _ (by decide)
  | bl b => exact O.tb _ _ hc _ (by decide)
  | int b => exact O.tb _ _ hc _ (by decide)
  | str b => exact O.tb _ _ hc _ (by decide)
  | lst b => exact O.tb _ _ hc _ (by decide)
  | fls b => exact O.tb _ _ hc _ (by decide)
  | tup b => exact O.tb _ _ hc _ (by decide)
section
variable {C : Ck} {X : Cx}
/-- a one-place question -/
def askV (k : D → Bool) (x : Den CO) : Den RV := call1C (fun d => some (.val (.bl (k d)))) x
theorem tyName (T : String) (x : Str) (hx : bootBuiltins x = some (.type T)) (hg : Gl X x) (hm : X.mg x = none) (hn : x ≠ "__name__") (hd : (x == ("__debug__" : Str)) = false) {p : Pos} : PE X (.Name x p) (tC (.ty T)) :=
  pe_bltn hg hm hx rfl hn hd
theorem pe_isTy (hK : X.K = C.W.K.K) (O : OwnT C.W.K) {e : Expr} {p p2 pos : Pos} {x : Den CO} {T : String} {y : Str} (hT : T ∈ five) (hg : Gl X "isinstance") (hm : X.mg "isinstance" = none) (hy : bootBuiltins y = some (.type T)) (hg2 : Gl X y) (hm2 : X.mg y = none)
    (hn : y ≠ "__name__") (hd : (y == ("__debug__" : Str)) = false) (h : PE X e (tG C lC x)) (hs : notStar e = true) : PE X (.Call (.Name "isinstance" p) [e, .Name y p2] [] pos) (tG C lV (askV (isTn T) x)) := by
  refine (pe_callB (call_isi) hg hm PyProof.Rows.boot_isinstance (pa_cons h (pa_cons (tyName T y hy hg2 hm2 hn hd) pa_nil) (star_cons hs)) (he := star_cons hs) (hpl := star_any rfl)).imp fun σ H Q hq => ?_
  obtain ⟨Hf, ρ, o, S, e, f⟩ := hq
  refine call1C_inv S e f fun v H1 Hf1 ρ1 d rv S1 r hd k => ?_
  cases hd
  have rn := r.now S1.ex
  exact ⟨v, .ty T, _, _, _, rfl, .ty T, hK ▸ tyD_ok O rn, hK ▸ isTn_ok O rn hT, k _ Hf1 H1 S1 (Evl.Ex.refl _) (.bl _)⟩
theorem pe_isOwn (hK : X.K = C.W.K.K) (O : OwnT C.W.K) {e : Expr} {p p2 pos : Pos} {x : Den CO} {c : Str} {A : Addr} (hc : C.W.K.cl c = some A) (hg : Gl X "isinstance") (hm : X.mg "isinstance" = none) (hg2 : Gl X c) (hm2 : X.mg c = some (.ref A))
    (hd : (c == ("__debug__" : Str)) = false) (h : PE X e (tG C lC x)) (hs : notStar e = true) : PE X (.Call (.Name "isinstance" p) [e, .Name c p2] [] pos) (tG C lV (askV (isOwn c) x)) := by
  refine (pe_callB (call_isi) hg hm PyProof.Rows.boot_isinstance (pa_cons h (pa_cons (pe_glob (v := .ref A) hg2 hm2 rfl hd) pa_nil) (star_cons hs)) (he := star_cons hs) (hpl := star_any rfl)).imp fun σ H Q hq => ?_
  obtain ⟨Hf, ρ, o, S, e, f⟩ := hq
  refine call1C_inv S e f fun v H1 Hf1 ρ1 d rv S1 r hd k => ?_
  cases hd
  have rn := r.now S1.ex
  exact ⟨v, .ref A, _, _, _, rfl, .own A, hK ▸ tyD_ok O rn, hK ▸ isOwn_ok O rn hc, k _ Hf1 H1 S1 (Evl.Ex.refl _) (.bl _)⟩
/-- isinstance(e, (T1, T2)) -/
theorem pe_isTy2 (hK : X.K = C.W.K.K) (O : OwnT C.W.K) {e : Expr} {p p2 p3 pt pos : Pos} {kt : Nat} {x : Den CO} {T1 T2 : String} {y1 y2 : Str} (hT1 : T1 ∈ five) (hT2 : T2 ∈ five) (hg : Gl X "isinstance") (hm : X.mg "isinstance" = none)
    (hy1 : bootBuiltins y1 = some (.type T1)) (hg1 : Gl X y1) (hm1 : X.mg y1 = none) (hn1 : y1 ≠ "__name__") (hd1 : (y1 == ("__debug__" : Str)) = false)
    (hy2 : bootBuiltins y2 = some (.type T2)) (hg2 : Gl X y2) (hm2 : X.mg y2 = none) (hn2 : y2 ≠ "__name__") (hd2 : (y2 == ("__debug__" : Str)) = false) (h : PE X e (tG C lC x)) (hs : notStar e = true) :
    PE X (.Call (.Name "isinstance" p) [e, .Tuple [.Name y1 p2, .Name y2 p3] kt pt] [] pos) (tG C lV (askV (fun d => isTn T1 d || isTn T2 d) x)) := by
  refine (pe_callB (call_isiT) hg hm PyProof.Rows.boot_isinstance (pa_cons h (pa_cons (pe_tup (pa_cons (tyName T1 y1 hy1 hg1 hm1 hn1 hd1) (pa_cons (tyName T2 y2 hy2 hg2 hm2 hn2 hd2) pa_nil))) pa_nil) (star_cons hs)) (he := star_cons hs) (hpl := star_any rfl)).imp fun σ H Q hq => ?_
  obtain ⟨Hf, ρ, o, S, e, f⟩ := hq
  refine call1C_inv S e f fun v H1 Hf1 ρ1 d rv S1 r hd k => ?_
  cases hd
  refine ⟨by show 2 ≤ sizeLine; decide, fun tp ntp => ?_⟩
  obtain ⟨S2, ex2, exH⟩ := S1.laid (o := .tup [.ty T1, .ty T2]) ntp
  have rn := (r.now S1.ex).mono exH
  refine ⟨v, tp, [.ty T1, .ty T2], _, [.type T1, .type T2], isTn T1 d || isTn T2 d, rfl, upd_same, .cons (.ty T1) (.cons (.ty T2) .nil), hK ▸ tyD_ok O rn, ?_, k _ _ _ S2 ex2 (.bl _)⟩
  have a1 : PySem.W.kitOne X.K (tyD C.W.K d) (.type T1) = some (isTn T1 d) := hK ▸ isTn_ok O rn hT1
  have a2 : PySem.W.kitOne X.K (tyD C.W.K d) (.type T2) = some (isTn T2 d) := hK ▸ isTn_ok O rn hT2
  refine kitAny_cons a1 (fun hb => ?_) (fun hb => by rw [hb]; rfl)
  rw [hb, Bool.false_or]
  exact kitAny_cons a2 (fun hb2 => by rw [hb2]; exact kitAny_nil) (fun hb2 => hb2)
end
end DI
set_option maxRecDepth 100000
set_option maxHeartbeats 4000000
namespace DI
open PySem PySem.Spec PyProof.Rows L2

/-! ### statements -/
inductive SOut where
  | next (ρ : Rho)
  | ret (r : RV) (ρ : Rho)
  | brk (ρ : Rho)
  | cont (ρ : Rho)
  | exc (c : Str) (d : D) (ρ : Rho)
abbrev SDen := Rho → Option SOut
def RvR (W : Wd) (Hf H : Hp) : RV → V → Prop
  | .val d, v => Rp W.K Hf v d
  | .new m, v => ∃ p, v = .ref p ∧ W.H0 p = none ∧ MOk W.K Hf H p m
theorem RvOk.r {W : Wd} {Hf H : Hp} {σ : L2.St} {ρ : Rho} {r : RV} {v : V} (h : RvOk W Hf H σ ρ r v) : RvR W Hf H r v := by
  cases r with
  | val d => exact h
  | new m => obtain ⟨p, a, b, c, _⟩ := h; exact ⟨p, a, b, c⟩
def FinS (C : Ck) (E : Ends) (Hf : Hp) : SOut → Prop
  | .next ρ' => ∀ σ' Hf' H', Stt C.W Hf' H' σ' ρ' → Ex Hf Hf' → E.nx σ' H'
  | .ret r ρ' => ∀ v σ' Hf' H', Stt C.W Hf' H' σ' ρ' → Ex Hf Hf' → RvR C.W Hf' H' r v → E.rt v H'
  | .brk ρ' => ∀ σ' Hf' H', Stt C.W Hf' H' σ' ρ' → Ex Hf Hf' → E.bk σ' H'
  | .cont ρ' => ∀ σ' Hf' H', Stt C.W Hf' H' σ' ρ' → Ex Hf Hf' → E.ct σ' H'
  | .exc c d ρ' => ∀ σ' Hf' H' A dd v, Stt C.W Hf' H' σ' ρ' → Ex Hf Hf' → C.ca c = some A → H' dd = some (.xd [(("at" : Str), v)]) → C.W.H0 dd = none → Rp C.W.K Hf' v d → C.Wx (.ref A) (some dd) σ' H'
def tSt (C : Ck) (x : SDen) : TS := fun E σ H => ∃ Hf ρ o, Stt C.W Hf H σ ρ ∧ x ρ = some o ∧ FinS C E Hf o
section
variable {C : Ck} {X : Cx} {E : Ends} {σ : L2.St} {H Hf Hf' : Hp} {ρ : Rho}
theorem FinS.weak {o : SOut} (h : FinS C E Hf o) (e : Ex Hf Hf') : FinS C E Hf' o := by
  cases o with
  | next ρ' => exact fun σ' Hf1 H' S e1 => h σ' Hf1 H' S (e.trans e1)
  | ret r ρ' => exact fun v σ' Hf1 H' S e1 p => h v σ' Hf1 H' S (e.trans e1) p
  | brk ρ' => exact fun σ' Hf1 H' S e1 => h σ' Hf1 H' S (e.trans e1)
  | cont ρ' => exact fun σ' Hf1 H' S e1 => h σ' Hf1 H' S (e.trans e1)
  | exc c d ρ' => exact fun σ' Hf1 H' A dd v S e1 a b c r => h σ' Hf1 H' A dd v S (e.trans e1) a b c r
/-- an expression first, then on -/
def bS {α : Type} (x : Den α) (k : α → SDen) : SDen := fun ρ => match x ρ with
  | none => none
  | some (.exc c d ρ') => some (.exc c d ρ')
  | some (.ok a ρ') => k a ρ'
theorem bS_inv {α β : Type} {P : Lie α β} {x : Den α} {k : α → SDen} {o : SOut} (S : Stt C.W Hf H σ ρ) (e : bS x k ρ = some o) (f : FinS C E Hf o) {Q' : β → Hp → Prop}
    (g : ∀ b H1 Hf1 ρ1 a, Stt C.W Hf1 H1 σ ρ1 → Ex Hf Hf1 → P C.W Hf1 H1 σ ρ1 a b → k a ρ1 = some o → FinS C E Hf1 o → Q' b H1) : tG C P x σ H Q' := by
  unfold bS at e
  split at e
  · cases e
  · rename_i c d ρ' h
    cases e
    exact ⟨Hf, ρ, _, S, h, fun Hf1 H1 A dd v S1 e1 a b c r => f σ Hf1 H1 A dd v S1 e1 a b c r⟩
  · rename_i a ρ' h
    exact ⟨Hf, ρ, _, S, h, fun b Hf1 H1 S1 e1 p => g b H1 Hf1 ρ' a S1 e1 p e (f.weak e1)⟩
def nextS : SDen := fun ρ => some (.next ρ)
def seqS (x y : SDen) : SDen := fun ρ => match x ρ with
  | some (.next ρ') => y ρ'
  | o => o
theorem pss_nilD : PSs X [] (tSt C nextS) := by
  refine pss_nil.imp fun E σ H h => ?_
  obtain ⟨Hf, ρ, o, S, e, f⟩ := h
  cases e
  exact f σ Hf H S (Evl.Ex.refl _)
theorem seq_core {x y : SDen} (h : tSt C (seqS x y) E σ H) : tSeq (tSt C x) (tSt C y) E σ H := by
  obtain ⟨Hf, ρ, o, S, e, f⟩ := h
  unfold seqS at e
  split at e
  · rename_i ρ' h
    exact ⟨Hf, ρ, _, S, h, fun σ' Hf' H' S' ex => ⟨Hf', ρ', o, S', e, f.weak ex⟩⟩
  · rename_i h
    refine ⟨Hf, ρ, o, S, e, ?_⟩
    cases o with
    | next ρ' => exact absurd e (h ρ')
    | ret r ρ' => exact f
    | brk ρ' => exact f
    | cont ρ' => exact f
    | exc c d ρ' => exact f
theorem pss_consD {st : Stmt} {rest : List Stmt} {x y : SDen} (h1 : PS X st (tSt C x)) (h2 : PSs X rest (tSt C y)) : PSs X (st :: rest) (tSt C (seqS x y)) :=
  (pss_cons h1 h2).imp fun _ _ _ h => seq_core h
theorem ps_passD {pos : Pos} : PS X (.Pass pos) (tSt C nextS) := by
  refine ps_pass.imp fun E σ H h => ?_
  obtain ⟨Hf, ρ, o, S, e, f⟩ := h
  cases e
  exact f σ Hf H S (Evl.Ex.refl _)
def brkS : SDen := fun ρ => some (.brk ρ)
def contS : SDen := fun ρ => some (.cont ρ)
theorem ps_brkD {pos : Pos} : PS X (.Break pos) (tSt C brkS) := by
  refine ps_break.imp fun E σ H h => ?_
  obtain ⟨Hf, ρ, o, S, e, f⟩ := h
  cases e
  exact f σ Hf H S (Evl.Ex.refl _)
theorem ps_contD {pos : Pos} : PS X (.Continue pos) (tSt C contS) := by
  refine ps_continue.imp fun E σ H h => ?_
  obtain ⟨Hf, ρ, o, S, e, f⟩ := h
  cases e
  exact f σ Hf H S (Evl.Ex.refl _)
theorem ps_docD {x : Str} {j : Nat} {pos pos' : Pos} : PS X (.Expr (.Constant (.str x) j pos) pos') (tSt C nextS) := by
  refine ps_doc.imp fun E σ H h => ?_
  obtain ⟨Hf, ρ, o, S, e, f⟩ := h
  cases e
  exact f σ Hf H S (Evl.Ex.refl _)
/-- return e -/
def retS (x : Den RV) : SDen := bS x fun r ρ => some (.ret r ρ)
theorem ps_retD {e : Expr} {pos : Pos} {x : Den RV} (h : PE X e (tG C lV x)) : PS X (.Return (some e) pos) (tSt C (retS x)) := by
  refine (ps_ret h).imp fun E σ H h => ?_
  obtain ⟨Hf, ρ, o, S, e, f⟩ := h
  refine bS_inv (P := lV) S e f fun v H1 Hf1 ρ1 r S1 ex l e1 f1 => ?_
  cases e1
  exact f1 v σ Hf1 H1 S1 (Evl.Ex.refl _) (RvOk.r l)
/-- return x, x a name -/
def retN (i : Nat) : SDen := fun ρ => match ρ[i]? with
  | some (.val d) => some (.ret (.val d) ρ)
  | some (.own m) => some (.ret (.new m) ρ)
  | _ => none
theorem ps_retND {x : Str} {i : Nat} {pos pos' : Pos} (hN : X.N[i]? = some x) (hv : Vis X.env.scope x) (hd : (x == ("__debug__" : Str)) = false) (hcd : (x == ("__classdict__" : Str)) = false) : PS X (.Return (some (.Name x pos')) pos) (tSt C (retN i)) := by
  refine (ps_ret (pe_var (i := i) hN hv hd hcd)).imp fun E σ H h => ?_
  obtain ⟨Hf, ρ, o, S, e, f⟩ := h
  unfold retN at e
  split at e
  · rename_i d h
    cases e
    obtain ⟨v, a, b⟩ := S.val i _ h
    exact ⟨v, a, f v σ Hf H S (Evl.Ex.refl _) b⟩
  · rename_i m h
    cases e
    obtain ⟨p, a, n0, b⟩ := S.own i _ h
    exact ⟨_, a, f _ σ Hf H S (Evl.Ex.refl _) ⟨p, rfl, n0, b⟩⟩
  · cases e
def retNone : SDen := fun ρ => some (.ret (.val .non) ρ)
theorem ps_retNoneD {pos : Pos} : PS X (.Return none pos) (tSt C retNone) := by
  refine ps_retN.imp fun E σ H h => ?_
  obtain ⟨Hf, ρ, o, S, e, f⟩ := h
  cases e
  exact f .non σ Hf H S (Evl.Ex.refl _) .non
/-- an expression's value dropped -/
def dropS (x : Den RV) : SDen := bS x fun _ => nextS
theorem ps_exprD {e : Expr} {pos : Pos} {x : Den RV} (h : PE X e (tG C lV x)) (hs : swapsWith e none pos.line X.env = pure false) : PS X (.Expr e pos) (tSt C (dropS x)) := by
  refine (ps_expr h hs).imp fun E σ H h => ?_
  obtain ⟨Hf, ρ, o, S, e, f⟩ := h
  refine bS_inv (P := lV) S e f fun v H1 Hf1 ρ1 r S1 ex l e1 f1 => ?_
  cases e1
  exact f1 σ Hf1 H1 S1 (Evl.Ex.refl _)
/-- if -/
def ifS (t : Den Bool) (x y : SDen) : SDen := bS t fun b => if b then x else y
theorem ps_ifD {c : Expr} {a b : List Stmt} {pos : Pos} {t : Den Bool} {x y : SDen} (hc : PT X c (tG C lB t)) (ha : PSs X a (tSt C x)) (hb : PSs X b (tSt C y)) : PS X (.If c a b pos) (tSt C (ifS t x y)) := by
  refine (ps_if hc ha hb).imp fun E σ H h => ?_
  obtain ⟨Hf, ρ, o, S, e, f⟩ := h
  refine bS_inv (P := lB) S e f fun c H1 Hf1 ρ1 b S1 ex l e1 f1 => ?_
  have l' : c = b := l
  subst l'
  cases c with
  | true => exact ⟨Hf1, ρ1, o, S1, e1, f1⟩
  | false => exact ⟨Hf1, ρ1, o, S1, e1, f1⟩

/-! ### assignments -/
def storeV (i : Nat) (d : D) (ρ : Rho) : Option Rho := match ρ[i]? with
  | some (.ref _) => none
  | _ => some (ρ.set i (.val d))
def storeR (i : Nat) (r : RV) (ρ : Rho) : Option Rho := match ρ[i]? with
  | some (.ref _) => none
  | _ => some (ρ.set i (match r with | .val d => .val d | .new m => .own m))
def asgS (i : Nat) (x : Den RV) : SDen := bS x fun r ρ => (storeR i r ρ).map .next
theorem storeV_ok {i : Nat} {d : D} {v : V} {ρ' : Rho} (S : Stt C.W Hf H σ ρ) (r : Rp C.W.K Hf v d) (e : storeV i d ρ = some ρ') : Stt C.W Hf H (σ.set i (some v)) ρ' := by
  unfold storeV at e
  split at e
  · cases e
  · rename_i h
    cases e
    exact S.setVal r h
theorem storeR_ok {i : Nat} {r : RV} {v : V} {ρ' : Rho} (S : Stt C.W Hf H σ ρ) (l : RvOk C.W Hf H σ ρ r v) (e : storeR i r ρ = some ρ') : Stt C.W Hf H (σ.set i (some v)) ρ' := by
  unfold storeR at e
  split at e
  · cases e
  · rename_i h
    cases e
    cases r with
    | val d => exact S.setVal l h
    | new m => obtain ⟨p, rfl, n0, mo, ap⟩ := l; exact S.setOwn n0 mo ap h
theorem ps_asgD {i : Nat} {x : Str} {e : Expr} {pos pos' : Pos} {y : Den RV} (hN : X.N.Nodup) (hi : X.N[i]? = some x) (hx : Loc X.env.scope x) (hf : X.fn x = true ∨ X.env.scope.names.lookup x = some .local) (h : PE X e (tG C lV y)) (hs : swapsWith e (some (.Name x pos')) pos.line X.env = pure false) :
    PS X (.Assign [.Name x pos'] e pos) (tSt C (asgS i y)) := by
  refine (ps_set hN hi hx h hs hf).imp fun E σ H h => ?_
  obtain ⟨Hf, ρ, o, S, e, f⟩ := h
  refine bS_inv (P := lV) S e f fun v H1 Hf1 ρ1 r S1 ex l e1 f1 => ?_
  rw [Option.map_eq_some_iff] at e1
  obtain ⟨ρ', e1, rfl⟩ := e1
  exact f1 _ Hf1 H1 (storeR_ok S1 l e1) (Evl.Ex.refl _)
/-- targets -/
inductive Tg where
  | name (i : Nat)
  | tup (ts : List Tg)
mutual
def stT : Tg → D → Rho → Option Rho
  | .name i, d, ρ => storeV i d ρ
  | .tup ts, .tup ds, ρ => stTs ts ds ρ
  | .tup ts, .lst ds, ρ => stTs ts ds ρ
  | .tup ts, .fls ds, ρ => stTs ts ds ρ
  | .tup _, _, _ => none
def stTs : List Tg → List D → Rho → Option Rho
  | [], [], ρ => some ρ
  | t :: ts, d :: ds, ρ => match stT t d ρ with
    | some ρ' => stTs ts ds ρ'
    | none => none
  | _, _, _ => none
end
theorem stTs_len : ∀ {ts : List Tg} {ds : List D} {ρ ρ' : Rho}, stTs ts ds ρ = some ρ' → ts.length = ds.length
  | [], [], _, _, _ => rfl
  | t :: ts, d :: ds, ρ, ρ', e => by
    simp only [stTs] at e
    split at e
    · rw [List.length_cons, List.length_cons, stTs_len e]
    · cases e
  | [], _ :: _, _, _, e => by simp [stTs] at e
  | _ :: _, [], _, _, e => by simp [stTs] at e
/-- the target's reading -/
def tTg (C : Ck) (t : Tg) : TG := fun v σ H Q => ∃ Hf ρ d ρ', Stt C.W Hf H σ ρ ∧ Rp C.W.K Hf v d ∧ stT t d ρ = some ρ' ∧ ∀ σ' , Stt C.W Hf H σ' ρ' → Q σ' H
def tTgs (C : Ck) (ts : List Tg) : TGs := fun vs σ H Q => ∃ Hf ρ ds ρ', Stt C.W Hf H σ ρ ∧ RpA C.W.K Hf vs ds ∧ stTs ts ds ρ = some ρ' ∧ ∀ σ' , Stt C.W Hf H σ' ρ' → Q σ' H
theorem _root_.L2.PG.imp {tg : Expr} {t t' : TG} (h : PG X tg t) (k : ∀ v σ H Q, t' v σ H Q → t v σ H Q) : PG X tg t' := ⟨fun pins s σ H v u Q I r hq => h.run pins s σ H v u Q I r (k v σ H Q hq)⟩
theorem _root_.L2.PGs.imp {tg : List Expr} {t t' : TGs} (h : PGs X tg t) (k : ∀ v σ H Q, t' v σ H Q → t v σ H Q) : PGs X tg t' := ⟨fun pins s σ H v u Q I r hq => h.run pins s σ H v u Q I r (k v σ H Q hq)⟩
theorem pg_nameD {i : Nat} {x : Str} {pos : Pos} (hN : X.N.Nodup) (hi : X.N[i]? = some x) (hx : Loc X.env.scope x) (hf : X.fn x = true ∨ X.env.scope.names.lookup x = some .local) : PG X (.Name x pos) (tTg C (.name i)) := by
  refine (pg_name hN hi hx hf).imp fun v σ H Q h => ?_
  obtain ⟨Hf, ρ, d, ρ', S, r, e, k⟩ := h
  simp only [stT] at e
  exact k _ (storeV_ok S r e)
theorem pgs_nilD : PGs X [] (tTgs C []) := by
  refine pgs_nil.imp fun vs σ H Q h => ?_
  obtain ⟨Hf, ρ, ds, ρ', S, r, e, k⟩ := h
  cases ds with
  | nil => cases r; simp only [stTs, Option.some.injEq] at e; subst e; exact ⟨rfl, k _ S⟩
  | cons d ds => simp [stTs] at e
theorem pgs_consD {e : Expr} {es : List Expr} {t : Tg} {ts : List Tg} (h1 : PG X e (tTg C t)) (h2 : PGs X es (tTgs C ts)) (hs : (assignEach (e :: es) X.env).map (·.2) = assign e X.env :: (assignEach es X.env).map (·.2)) : PGs X (e :: es) (tTgs C (t :: ts)) := by
  refine (pgs_cons h1 h2 hs).imp fun vs σ H Q h => ?_
  obtain ⟨Hf, ρ, ds, ρ', S, r, e, k⟩ := h
  cases ds with
  | nil => simp [stTs] at e
  | cons d ds =>
    simp only [stTs] at e
    cases r with
    | cons a b =>
      split at e
      · rename_i ρ1 e1
        exact ⟨_, _, rfl, Hf, ρ, d, ρ1, S, a, e1, fun σ' S' => ⟨Hf, ρ1, ds, ρ', S', b, e, k⟩⟩
      · cases e
theorem pg_or {X : Cx} {e : Expr} {t1 t2 : TG} (h1 : PG X e t1) (h2 : PG X e t2) : PG X e (fun v σ H Q => t1 v σ H Q ∨ t2 v σ H Q) := ⟨fun pins s σ H v u Q I r hq => hq.elim (h1.run pins s σ H v u Q I r) (h2.run pins s σ H v u Q I r)⟩
theorem pg_tupD (hK : X.K = C.W.K.K) {es : List Expr} {k : Nat} {pos : Pos} {ts : List Tg} (hc : X.calm = true) (h : PGs X es (tTgs C ts)) (hn : (assignEach es X.env).length = ts.length) (hst : (assignEach es X.env).findIdx? (·.1) = none) : PG X (.Tuple es k pos) (tTg C (.tup ts)) := by
  refine (pg_or (pg_tup hc h hn hst) (pg_lst hc h hn hst)).imp fun v σ H Q h => ?_
  obtain ⟨Hf, ρ, d, ρ', S, r, e, k⟩ := h
  cases d with
  | tup ds =>
    simp only [stT] at e
    cases r with
    | tup a b =>
      exact .inl ⟨_, _, rfl, hK ▸ Evl.ex_t S.ex a, by rw [b.length, ← stTs_len e], Hf, ρ, ds, ρ', S, b, e, k⟩
  | lst ds =>
    simp only [stT] at e
    cases r with
    | lst a b =>
      exact .inr ⟨_, _, rfl, .inl (.inl (S.ex _ _ a)), by rw [b.length, ← stTs_len e], Hf, ρ, ds, ρ', S, b, e, k⟩
  | fls ds =>
    simp only [stT] at e
    cases r with
    | fls a b =>
      exact .inr ⟨_, _, rfl, hK ▸ Evl.ex_l S.ex a, by rw [b.length, ← stTs_len e], Hf, ρ, ds, ρ', S, b, e, k⟩
  | _ => simp [stT] at e
def asgT (t : Tg) (x : Den D) : SDen := bS x fun d ρ => (stT t d ρ).map .next
theorem ps_asgT {tg e : Expr} {pos : Pos} {t : Tg} {x : Den D} (he : PE X e (tG C lD x)) (hg : PG X tg (tTg C t)) (hs : swapsWithSole [tg] e pos.line X.env = pure false) (hw : swappedStores [tg] e X.env = pure none)
    (h1 : (assignEach [tg] X.env).map (·.2) = [assign tg X.env]) : PS X (.Assign [tg] e pos) (tSt C (asgT t x)) := by
  refine (ps_asg he hg hs hw h1).imp fun E σ H h => ?_
  obtain ⟨Hf, ρ, o, S, e, f⟩ := h
  refine bS_inv (P := lD) S e f fun v H1 Hf1 ρ1 d S1 ex l e1 f1 => ?_
  rw [Option.map_eq_some_iff] at e1
  obtain ⟨ρ', e1, rfl⟩ := e1
  exact ⟨Hf1, ρ1, d, ρ', S1, l, e1, fun σ' S' => f1 σ' Hf1 H1 S' (Evl.Ex.refl _)⟩
/-- xs[i] = e, xs.append(e): a name's own list -/
def setM (i : Nat) (m : M) (ρ : Rho) : Option Rho := match ρ[i]? with
  | some (.own _) => some (ρ.set i (.own m))
  | some (.ref _) => some (ρ.set i (.ref m))
  | _ => none
def getM (i : Nat) (ρ : Rho) : Option M := match ρ[i]? with
  | some (.own m) => some m
  | some (.ref m) => some m
  | _ => none
theorem getM_ok {i : Nat} {m : M} {v : V} (S : Stt C.W Hf H σ ρ) (hv : σ[i]? = some (some v)) (e : getM i ρ = some m) : ∃ p, v = .ref p ∧ MOk C.W.K Hf H p m := by
  unfold getM at e
  split at e
  · rename_i m' h
    cases e
    obtain ⟨p, a, _, b⟩ := S.own i _ h
    rw [hv] at a; cases a; exact ⟨p, rfl, b⟩
  · rename_i m' h
    cases e
    obtain ⟨p, a, _, b⟩ := S.ref i _ h
    rw [hv] at a; cases a; exact ⟨p, rfl, b⟩
  · cases e
theorem setM_ok {i : Nat} {m m' : M} {p : Addr} {o : HO} {ρ' : Rho} (S : Stt C.W Hf H σ ρ) (hv : σ[i]? = some (some (V.ref p))) (g : getM i ρ = some m) (mo : MOk C.W.K Hf (upd H p o) p m') (e : setM i m' ρ = some ρ') : Stt C.W Hf (upd H p o) σ ρ' := by
  unfold getM at g
  unfold setM at e
  split at g
  · rename_i m1 h
    rw [h] at e
    cases g; cases e
    exact S.write m' _ _ (.inl ⟨rfl, rfl⟩) h hv mo
  · rename_i m1 h
    rw [h] at e
    cases g; cases e
    exact S.write m' _ _ (.inr ⟨rfl, rfl⟩) h hv mo
  · cases g
def setIxM (m : M) (k : D) (d : D) : Option M := match m, k with
  | .lst ds, .int k => (ixN ds.length k).map fun j => .lst (ds.set j d)
  | _, _ => none
/-- xs[k] = e: e, xs, k -/
def setIxS (x : Den D) (s : Nat) (y : Den D) : SDen := bS x fun d => bS (slotC s) fun _ => bS y fun k => fun ρ => match getM s ρ with
  | some m => match setIxM m k d with
    | some m' => (setM s m' ρ).map .next
    | none => none
  | none => none
theorem slotC_co {W : Wd} {s : Nat} {ρ : Rho} {c : CO} {ρ' : Rho} (e : slotC s ρ = some (.ok c ρ')) : c = .slot s ∧ ρ' = ρ := by
  unfold slotC at e
  split at e <;> cases e <;> exact ⟨rfl, rfl⟩
theorem bS_slot {s : Nat} {k : CO → SDen} {o : SOut} (S : Stt C.W Hf H σ ρ) (e : bS (slotC s) k ρ = some o) (f : FinS C E Hf o) {Q' : V → Hp → Prop}
    (g : ∀ v, σ[s]? = some (some v) → k (.slot s) ρ = some o → Q' v H) : (∃ v, σ[s]? = some (some v) ∧ Q' v H) := by
  unfold bS at e
  split at e
  · cases e
  · rename_i h; unfold slotC at h; split at h <;> cases h
  · rename_i c ρ' h
    obtain ⟨rfl, rfl⟩ := slotC_co (W := C.W) h
    unfold slotC at h
    split at h
    · rename_i d h'; obtain ⟨v, a, _⟩ := S.val s _ h'; exact ⟨v, a, g v a e⟩
    · rename_i d h'; obtain ⟨v, a, _⟩ := S.own s _ h'; exact ⟨_, a, g _ a e⟩
    · rename_i d h'; obtain ⟨v, a, _⟩ := S.ref s _ h'; exact ⟨_, a, g _ a e⟩
    · cases h
theorem assign_sub {o i : Expr} {pos : Pos} {env : Env} (h : notSlice i = true) : ∀ v, assign (.Subscript o i pos) env v = (do
      let ov ← holding [v] (eval o env)
      let iv ← holding [v, ov] (eval i env)
      standAt pos
      holding [v, ov, iv] (setItem ov iv v)
      release [v, ov, iv] []) := by
  intro v
  cases i <;> first | rfl | cases h
theorem ps_setIxD {n : Str} {s : Nat} {e k : Expr} {pos p1 p2 : Pos} {x y : Den D} (hN : X.N[s]? = some n) (hv : Vis X.env.scope n) (hd : (n == ("__debug__" : Str)) = false) (hcd : (n == ("__classdict__" : Str)) = false) (he : PE X e (tG C lD x)) (hk : PE X k (tG C lD y)) (hns : notSlice k = true)
    (hs : swapsWithSole [.Subscript (.Name n p1) k p2] e pos.line X.env = pure false) (hw : swappedStores [.Subscript (.Name n p1) k p2] e X.env = pure none) (h1 : (assignEach [.Subscript (.Name n p1) k p2] X.env).map (·.2) = [assign (.Subscript (.Name n p1) k p2) X.env]) :
    PS X (.Assign [.Subscript (.Name n p1) k p2] e pos) (tSt C (setIxS x s y)) := by
  refine (ps_asg he (pg_sub (pe_var (i := s) hN hv hd hcd) hk set_list (assign_sub hns)) hs hw h1).imp fun E σ H h => ?_
  obtain ⟨Hf, ρ, o, S, e, f⟩ := h
  refine bS_inv (P := lD) S e f fun v H1 Hf1 ρ1 d S1 ex l e1 f1 => ?_
  refine bS_slot (Q' := fun u H2 => tG C lD y σ H2 fun w H3 => rSetL u w v H3 fun H4 => E.nx σ H4) S1 e1 f1 fun u hu e2 => ?_
  refine bS_inv (P := lD) S1 e2 f1 fun w H3 Hf3 ρ3 k S3 ex3 l3 e3 f3 => ?_
  split at e3
  · rename_i m gm
    split at e3
    · rename_i m' gm'
      rw [Option.map_eq_some_iff] at e3
      obtain ⟨ρ', e3, rfl⟩ := e3
      obtain ⟨p, rfl, mo⟩ := getM_ok S3 hu gm
      unfold setIxM at gm'
      split at gm'
      · rw [Option.map_eq_some_iff] at gm'
        obtain ⟨j, hj, rfl⟩ := gm'
        cases (show Rp C.W.K Hf3 w (.int _) from l3)
        cases mo with
        | lst a b c =>
          refine ⟨p, _, _, j, rfl, rfl, b, by rw [c.length]; exact hj, ?_⟩
          exact f3 σ Hf3 _ (setM_ok S3 hu gm (.lst a upd_same (c.set (Rp.mono ex3 l) j)) e3) (Evl.Ex.refl _)
      · cases gm'
    · cases e3
  · cases e3
/-- xs.append(e) -/
def appS (s : Nat) (x : Den D) : SDen := fun ρ => match getM s ρ with
  | some (.lst _) => (bS x fun d => fun ρ => match getM s ρ with
    | some (.lst ds) => if ds.length < 100000 then (setM s (.lst (ds ++ [d])) ρ).map .next else none
    | _ => none) ρ
  | _ => none
theorem getM_slot {s : Nat} {m : M} (S : Stt C.W Hf H σ ρ) (e : getM s ρ = some m) : ∃ p, σ[s]? = some (some (V.ref p)) ∧ MOk C.W.K Hf H p m := by
  unfold getM at e
  split at e
  · rename_i m' h
    cases e
    obtain ⟨p, a, _, b⟩ := S.own s _ h
    exact ⟨p, a, b⟩
  · rename_i m' h
    cases e
    obtain ⟨p, a, _, b⟩ := S.ref s _ h
    exact ⟨p, a, b⟩
  · cases e
theorem few1 {e : Expr} {env : Env} {pos : Pos} (h : notStar e = true) : ((backTo pos (starEach [e] env)).all (fun x => !x.1) && (backToKw pos (keywordEach [] env)).all (fun x => x.1.isSome)
      && decide (([e] : List Expr).length + ([] : List Keyword).length + (if ([] : List Keyword).isEmpty then 0 else 1) < 30)) = true := by
  rw [star_cons h]
  rfl
theorem ps_appD {n : Str} {s : Nat} {e : Expr} {pos p1 p2 p3 : Pos} {x : Den D} (hN : X.N[s]? = some n) (hv : Vis X.env.scope n) (hd : (n == ("__debug__" : Str)) = false) (hcd : (n == ("__classdict__" : Str)) = false) (he : PE X e (tG C lD x)) (hst : notStar e = true) (hl : (p2.endLine == p3.line) = true) :
    PS X (.Expr (.Call (.Attribute (.Name n p1) "append" p2) [e] [] p3) pos) (tSt C (appS s x)) := by
  refine (ps_expr (pe_bm PySem.F.plainAttrs_list PySem.F.slot_list_append PySem.F.type_list_append mt_append (pe_var (i := s) hN hv hd hcd) (pa_cons he pa_nil (star_cons hst)) rfl (few1 hst) hl (star_cons hst) (star_any rfl)) rfl).imp fun E σ H h => ?_
  obtain ⟨Hf, ρ, o, S, e, f⟩ := h
  unfold appS at e
  split at e
  · rename_i ds0 g0
    obtain ⟨p, hp, mo⟩ := getM_slot S g0
    refine ⟨_, hp, ?_, ?_⟩
    · cases mo with | lst a b c => exact .inl ⟨rfl, _, .inl (.inl b)⟩
    · refine bS_inv (P := lD) S e f fun w H3 Hf3 ρ3 d S3 ex3 l3 e3 f3 => ?_
      split at e3
      · rename_i ds gm
        split at e3
        · rename_i hz
          rw [Option.map_eq_some_iff] at e3
          obtain ⟨ρ', e3, rfl⟩ := e3
          obtain ⟨p', hp', mo'⟩ := getM_slot S3 gm
          rw [hp] at hp'; cases hp'
          cases mo' with
          | lst a b c =>
            refine ⟨p, _, w, rfl, rfl, b, by rw [c.length]; exact Evl.sz_lt hz, ?_⟩
            exact f3 σ Hf3 _ (setM_ok S3 hp gm (.lst a upd_same (c.append (.cons l3 .nil))) e3) (Evl.Ex.refl _)
        · cases e3
      · cases e3
  · cases e
end
end DI
set_option maxRecDepth 100000
set_option maxHeartbeats 4000000
namespace DI
open PySem PySem.Spec PyProof.Rows L2

/-! ### loops -/
def forL (body : SDen) (t : Tg) : List D → SDen
  | [], ρ => some (.next ρ)
  | d :: ds, ρ => match stT t d ρ with
    | none => none
    | some ρ1 => match body ρ1 with
      | some (.next ρ2) => forL body t ds ρ2
      | some (.cont ρ2) => forL body t ds ρ2
      | some (.brk ρ2) => some (.next ρ2)
      | o => o
def whileS (t : Den Bool) (body : SDen) : Nat → SDen
  | 0, _ => none
  | n + 1, ρ => match t ρ with
    | none => none
    | some (.exc c d ρ') => some (.exc c d ρ')
    | some (.ok false ρ') => some (.next ρ')
    | some (.ok true ρ') => match body ρ' with
      | some (.next ρ2) => whileS t body n ρ2
      | some (.cont ρ2) => whileS t body n ρ2
      | some (.brk ρ2) => some (.next ρ2)
      | o => o
section
variable {C : Ck} {X : Cx} {E : Ends} {σ : L2.St} {H Hf Hf' : Hp} {ρ : Rho}
/-- a turn's body, then on -/
theorem turn_core {body : SDen} {ρ1 : Rho} {o : SOut} {again : Rho → Option SOut} {N : L2.St → Hp → Prop} (S : Stt C.W Hf H σ ρ1) (f : FinS C E Hf o)
    (e : (match body ρ1 with
      | some (.next ρ2) => again ρ2
      | some (.cont ρ2) => again ρ2
      | some (.brk ρ2) => some (.next ρ2)
      | o => o) = some o)
    (hN : ∀ σ' Hf' H' ρ2, Stt C.W Hf' H' σ' ρ2 → Ex Hf Hf' → again ρ2 = some o → N σ' H') : tSt C body { E with nx := N, ct := N, bk := E.nx } σ H := by
  cases hb : body ρ1 with
  | none => rw [hb] at e; cases e
  | some ob =>
    rw [hb] at e
    refine ⟨Hf, ρ1, ob, S, hb, ?_⟩
    cases ob with
    | next ρ2 => exact fun σ' Hf' H' S' ex => hN σ' Hf' H' ρ2 S' ex e
    | cont ρ2 => exact fun σ' Hf' H' S' ex => hN σ' Hf' H' ρ2 S' ex e
    | brk ρ2 => cases e; exact f
    | ret r ρ2 => cases e; exact f
    | exc c d ρ2 => cases e; exact f
theorem drop_get {ds : List D} {i : Nat} {d : D} (h : ds[i]? = some d) : ds.drop i = d :: ds.drop (i + 1) := by
  obtain ⟨hi, rfl⟩ := List.getElem?_eq_some_iff.mp h
  exact List.drop_eq_getElem_cons hi
/-- one turn over plain items -/
theorem for_turn {body : SDen} {t : Tg} {ds : List D} {o : SOut} {i : Nat} {x : V} {d : D} {Hf1 : Hp} (S : Stt C.W Hf H σ ρ) (ex : Ex Hf1 Hf) (f : FinS C E Hf1 o) (hd : ds[i]? = some d) (r : Rp C.W.K Hf x d) (e : forL body t (ds.drop i) ρ = some o) :
    tTg C t x σ H fun σ2 H2 => tSt C body { E with nx := (fun σ H => ∃ Hf ρ, Stt C.W Hf H σ ρ ∧ Ex Hf1 Hf ∧ forL body t (ds.drop (i + 1)) ρ = some o), ct := (fun σ H => ∃ Hf ρ, Stt C.W Hf H σ ρ ∧ Ex Hf1 Hf ∧ forL body t (ds.drop (i + 1)) ρ = some o), bk := E.nx } σ2 H2 := by
  rw [drop_get hd] at e
  simp only [forL] at e
  cases h : stT t d ρ with
  | none => rw [h] at e; cases e
  | some ρ1 =>
    rw [h] at e
    refine ⟨Hf, ρ, d, ρ1, S, r, h, fun σ' S' => ?_⟩
    exact turn_core (again := forL body t (ds.drop (i + 1))) S' (f.weak ex) e fun σ2 Hf2 H2 ρ2 S2 ex2 e2 => ⟨Hf2, ρ2, S2, ex.trans ex2, e2⟩
theorem for_end {body : SDen} {t : Tg} {ds : List D} {o : SOut} {n : Nat} {Hf1 : Hp} (f : FinS C E Hf1 o) (hn : ds.length ≤ n) (h : ∃ Hf ρ, Stt C.W Hf H σ ρ ∧ Ex Hf1 Hf ∧ forL body t (ds.drop n) ρ = some o) : E.nx σ H := by
  obtain ⟨Hf, ρ, S, ex, e⟩ := h
  rw [List.drop_eq_nil_of_le hn] at e
  cases e
  exact f σ Hf H S ex
/-- over a list or a tuple -/
theorem pi_seq {tg l : Expr} {tl : TE} (hl : PE X l tl) : PI X tg l (fun σ H R => tl σ H fun x H1 => ∃ a, x = .ref a ∧ (((∃ xs, SqL X.K H1 a xs) ∧ R (Itl X.K a) H1) ∨ ((∃ xs, SqT X.K H1 a xs) ∧ R (Itt X.K a) H1))) := by
  refine ⟨fun pins s σ H R I h => ?_⟩
  refine thn (hl.run pins s σ H _ I h) fun v s1 ⟨x, H1, I1, r1, q1⟩ => ?_
  obtain ⟨a, e, q1⟩ := q1
  subst e
  cases r1
  rcases q1 with ⟨⟨xs, hq⟩, q⟩ | ⟨⟨xs, hq⟩, q⟩
  · obtain ⟨its, rv, p, hz⟩ := I1.list hq
    refine wpAny_pyIter_list p.isList ?_
    refine ⟨s1.heap.objs.size, [s1.heap.objs.size], _, _, H1, rfl, I1.kept (t' := s1.toks) fun b o e => Heap.get?_push_of_some _ e, turn_list a _, ⟨_, Heap.get?_push_size _ rfl, rfl, rfl⟩, fun b hb => ?_, q⟩
    have e : b = s1.heap.objs.size := by simpa using hb
    subst e
    exact I1.fpOk (Nat.le_refl _) (I1.hok.fresh (Nat.le_refl _))
  · obtain ⟨its, rv, p, hz⟩ := I1.tuple hq
    refine wpAny_pyIter_tuple (show s1.heap.IsTuple a its.toArray from p) ?_
    refine ⟨s1.heap.objs.size, [s1.heap.objs.size], _, _, H1, rfl, I1.kept (t' := s1.toks) fun b o e => Heap.get?_push_of_some _ e, turn_tuple a _, ⟨_, Heap.get?_push_size _ rfl, rfl, rfl⟩, fun b hb => ?_, q⟩
    have e : b = s1.heap.objs.size := by simpa using hb
    subst e
    exact I1.fpOk (Nat.le_refl _) (I1.hok.fresh (Nat.le_refl _))
def itemsD : D → Option (List D)
  | .lst ds => some ds
  | .fls ds => some ds
  | .tup ds => some ds
  | _ => none
def forS (x : Den D) (t : Tg) (body : SDen) : SDen := bS x fun d => fun ρ => match itemsD d with
  | some ds => forL body t ds ρ
  | none => none
theorem ps_forD (hK : X.K = C.W.K.K) (hp : PassesOwn (model X.prog X.w) X.A X.env X.xe) (hc : X.calm = true) {tg iter : Expr} {b : List Stmt} {pos : Pos} {x : Den D} {t : Tg} {body : SDen} (hi : PE X iter (tG C lD x)) (hg : PG X tg (tTg C t)) (hb : PSs X b (tSt C body)) (hs : notSet iter = true) :
    PS X (.For tg iter b [] pos) (tSt C (forS x t body)) := by
  refine (ps_for hp hc (pi_seq hi) hg hb (notSet_iter hs)).imp fun E σ H h => ?_
  obtain ⟨Hf, ρ, o, S, e, f⟩ := h
  refine bS_inv (P := lD) S e f fun v H1 Hf1 ρ1 d S1 ex l e1 f1 => ?_
  split at e1
  · rename_i ds hd
    have base : ∃ Hf ρ, Stt C.W Hf H1 σ ρ ∧ Ex Hf1 Hf ∧ forL body t (ds.drop 0) ρ = some o := ⟨Hf1, ρ1, S1, Evl.Ex.refl _, e1⟩
    have list : ∀ {a : Addr} {xs : List V}, (∀ H, Ex Hf1 H → SqL X.K H a xs) → RpA C.W.K Hf1 xs ds → ∃ W : Nat → Nat → L2.St → Hp → Prop, (∃ m, W 0 m σ H1) ∧ ∀ i m σ H, W i m σ H → ((Itl X.K a).stop i H ∧ E.nx σ H) ∨ ((Itl X.K a).go i H ∧ ∃ N : L2.St → Hp → Prop, (∀ σ' H', N σ' H' → ∃ m', m' < m ∧ W (i + 1) m' σ' H') ∧ ∀ x H', (Itl X.K a).yld i H x H' → tTg C t x σ H' fun σ2 H2 => tSt C body { E with nx := N, ct := N, bk := E.nx } σ2 H2) := fun {a xs} hx ra =>
      for_list (K := X.K) (a := a) (xs := xs) (fun i σ H => ∃ Hf ρ, Stt C.W Hf H σ ρ ∧ Ex Hf1 Hf ∧ forL body t (ds.drop i) ρ = some o) base (fun i σ H _ ⟨Hf, ρ, S, ex, _⟩ => hx H (ex.trans S.ex))
        (fun i y σ H hy ⟨Hf, ρ, S, ex, e⟩ => by
          obtain ⟨d', hd', rd⟩ := ra.get' hy
          exact for_turn S ex f1 hd' (rd.mono ex) e) (fun σ H h => for_end f1 (by rw [ra.length]; exact Nat.le_refl _) h)
    cases d with
    | lst ds' =>
      cases hd
      cases (show Rp C.W.K Hf1 v (.lst ds) from l) with
      | lst a b => exact ⟨_, rfl, .inl ⟨⟨_, .inl (.inl (S1.ex _ _ a))⟩, list (fun H ex => .inl (.inl (ex _ _ a))) b⟩⟩
    | fls ds' =>
      cases hd
      cases (show Rp C.W.K Hf1 v (.fls ds) from l) with
      | fls a b => exact ⟨_, rfl, .inl ⟨⟨_, hK ▸ Evl.ex_l S1.ex a⟩, list (fun H ex => hK ▸ Evl.ex_l ex a) b⟩⟩
    | tup ds' =>
      cases hd
      cases (show Rp C.W.K Hf1 v (.tup ds) from l) with
      | @tup a xs _ q b =>
        refine ⟨_, rfl, .inr ⟨⟨_, hK ▸ Evl.ex_t S1.ex q⟩, ?_⟩⟩
        exact for_tup (K := X.K) (a := a) (xs := xs) (fun i σ H => ∃ Hf ρ, Stt C.W Hf H σ ρ ∧ Ex Hf1 Hf ∧ forL body t (ds.drop i) ρ = some o) base (fun i σ H _ ⟨Hf, ρ, S, ex, _⟩ => hK ▸ Evl.ex_t (ex.trans S.ex) q)
          (fun i y σ H hy ⟨Hf, ρ, S, ex, e⟩ => by
            obtain ⟨d', hd', rd⟩ := b.get' hy
            exact for_turn S ex f1 hd' (rd.mono ex) e) (fun σ H h => for_end f1 (by rw [b.length]; exact Nat.le_refl _) h)
    | _ => cases hd
  · cases e1
/-- range(n), range(a, b) -/
def rngL (lo : Int) (n : Nat) : List D := (List.range n).map fun k => .int (lo + ((k : Nat) : Int))
theorem rngL_get {lo : Int} {n i : Nat} (h : i < n) : (rngL lo n)[i]? = some (.int (lo + (i : Int))) := by
  unfold rngL
  rw [List.getElem?_map, List.getElem?_range h]
  rfl
theorem rngL_len {lo : Int} {n : Nat} : (rngL lo n).length = n := by simp [rngL]
def rngOk (j : Int) : Bool := decide (-(2 ^ 62) ≤ j ∧ j < 2 ^ 62)
def forR1 (x : Den D) (t : Tg) (body : SDen) : SDen := bS x fun d => fun ρ => match d with
  | .int j => if rngOk j then forL body t (rngL 0 j.toNat) ρ else none
  | _ => none
def forR2 (x y : Den D) (t : Tg) (body : SDen) : SDen := bS x fun d1 => bS y fun d2 => fun ρ => match d1, d2 with
  | .int i, .int j => if rngOk i && rngOk j then forL body t (rngL i (j - i).toNat) ρ else none
  | _, _ => none
theorem rng_core {body : SDen} {t : Tg} {o : SOut} {lo : Int} {n : Nat} (S : Stt C.W Hf H σ ρ) (e : forL body t (rngL lo n) ρ = some o) (f : FinS C E Hf o) :
    ∃ W : Nat → Nat → L2.St → Hp → Prop, (∃ m, W 0 m σ H) ∧ ∀ i m σ H, W i m σ H →
      ((Itr lo n).stop i H ∧ E.nx σ H) ∨ ((Itr lo n).go i H ∧ ∃ N : L2.St → Hp → Prop, (∀ σ' H', N σ' H' → ∃ m', m' < m ∧ W (i + 1) m' σ' H') ∧ ∀ x H', (Itr lo n).yld i H x H' → tTg C t x σ H' fun σ2 H2 => tSt C body { E with nx := N, ct := N, bk := E.nx } σ2 H2) :=
  for_range (lo := lo) (n := n) (fun i σ H => ∃ Hf' ρ, Stt C.W Hf' H σ ρ ∧ Ex Hf Hf' ∧ forL body t ((rngL lo n).drop i) ρ = some o) ⟨Hf, ρ, S, Evl.Ex.refl _, e⟩
    (fun i σ H hi ⟨Hf', ρ', S', ex, e'⟩ => for_turn S' ex f (rngL_get hi) (.int _) e') (fun σ H h => for_end f (Nat.le_of_eq rngL_len) h)
theorem ps_forR1 (hp : PassesOwn (model X.prog X.w) X.A X.env X.xe) (hc : X.calm = true) {tg a : Expr} {b : List Stmt} {p p' pos : Pos} {x : Den D} {t : Tg} {body : SDen} (hgl : Gl X "range") (hm : X.mg "range" = none) (hi : PE X a (tG C lD x)) (hst : notStar a = true) (hg : PG X tg (tTg C t)) (hb : PSs X b (tSt C body)) :
    PS X (.For tg (.Call (.Name "range" p) [a] [] p') b [] pos) (tSt C (forR1 x t body)) := by
  refine (ps_for hp hc (pi_range1 hgl hm (pa_cons hi pa_nil (star_cons hst)) (star_cons hst)) hg hb (notSet_iter rfl)).imp fun E σ H h => ?_
  obtain ⟨Hf, ρ, o, S, e, f⟩ := h
  refine bS_inv (P := lD) S e f fun v H1 Hf1 ρ1 d S1 ex l e1 f1 => ?_
  split at e1
  · rename_i j
    split at e1
    · rename_i hz
      unfold rngOk at hz
      have hz := of_decide_eq_true hz
      cases (show Rp C.W.K Hf1 v (.int j) from l)
      exact ⟨j, rfl, hz.1, hz.2, rng_core S1 e1 f1⟩
    · cases e1
  · cases e1
theorem ps_forR2 (hp : PassesOwn (model X.prog X.w) X.A X.env X.xe) (hc : X.calm = true) {tg a a2 : Expr} {b : List Stmt} {p p' pos : Pos} {x y : Den D} {t : Tg} {body : SDen} (hgl : Gl X "range") (hm : X.mg "range" = none) (hi : PE X a (tG C lD x)) (hi2 : PE X a2 (tG C lD y)) (hst : notStar a = true) (hst2 : notStar a2 = true) (hg : PG X tg (tTg C t)) (hb : PSs X b (tSt C body)) :
    PS X (.For tg (.Call (.Name "range" p) [a, a2] [] p') b [] pos) (tSt C (forR2 x y t body)) := by
  refine (ps_for hp hc (pi_range2 hgl hm (pa_cons hi (pa_cons hi2 pa_nil (star_cons hst2)) (star_cons hst)) ((star_cons hst).trans (by rw [star_cons hst2]; rfl)) (star_cons hst2)) hg hb (notSet_iter rfl)).imp fun E σ H h => ?_
  obtain ⟨Hf, ρ, o, S, e, f⟩ := h
  refine bS_inv (P := lD) S e f fun v H1 Hf1 ρ1 d1 S1 ex l e1 f1 => ?_
  refine bS_inv (P := lD) S1 e1 f1 fun w H2 Hf2 ρ2 d2 S2 ex2 l2 e2 f2 => ?_
  split at e2
  · rename_i i j
    split at e2
    · rename_i hz
      rw [Bool.and_eq_true] at hz
      obtain ⟨h1, h2⟩ := hz
      unfold rngOk at h1 h2
      have h1 := of_decide_eq_true h1
      have h2 := of_decide_eq_true h2
      cases (show Rp C.W.K Hf1 v (.int i) from l)
      cases (show Rp C.W.K Hf2 w (.int j) from l2)
      exact ⟨i, j, rfl, ⟨h1.1, h1.2, h2.1, h2.2⟩, rng_core S2 e2 f2⟩
    · cases e2
  · cases e2
/-- while -/
theorem ps_whileD (hp : PassesOwn (model X.prog X.w) X.A X.env X.xe) {c : Expr} {b : List Stmt} {pos : Pos} {t : Den Bool} {body : SDen} (F : Nat) (hc : PT X c (tG C lB t)) (hb : PSs X b (tSt C body)) : PS X (.While c b [] pos) (tSt C (whileS t body F)) := by
  refine (ps_while hp hc hb).imp fun E σ H h => ?_
  obtain ⟨Hf, ρ, o, S, e, f⟩ := h
  refine ⟨fun m σ H => ∃ Hf' ρ, Stt C.W Hf' H σ ρ ∧ Ex Hf Hf' ∧ whileS t body m ρ = some o, ⟨F, Hf, ρ, S, Evl.Ex.refl _, e⟩, ?_⟩
  rintro m σ1 H1 ⟨Hf1, ρ1, S1, ex1, e1⟩
  cases m with
  | zero => cases e1
  | succ m =>
    simp only [whileS] at e1
    cases h : t ρ1 with
    | none => rw [h] at e1; cases e1
    | some y =>
      rw [h] at e1
      cases y with
      | exc c d ρ' =>
        cases e1
        exact ⟨Hf1, ρ1, _, S1, h, fun Hf2 H2 A dd v S2 e2 a b c r => f σ1 Hf2 H2 A dd v S2 (ex1.trans e2) a b c r⟩
      | ok k ρ' =>
        refine ⟨Hf1, ρ1, _, S1, h, fun b Hf2 H2 S2 ex2 l => ?_⟩
        have l' : b = k := l
        subst l'
        cases b with
        | false => cases e1; exact f σ1 Hf2 H2 S2 (ex1.trans ex2)
        | true =>
          refine ⟨fun σ H => ∃ Hf' ρ, Stt C.W Hf' H σ ρ ∧ Ex Hf Hf' ∧ whileS t body m ρ = some o, fun σ' H' n => ⟨m, Nat.lt_succ_self m, n⟩, ?_⟩
          exact turn_core (again := whileS t body m) S2 (f.weak (ex1.trans ex2)) e1 fun σ2 Hf3 H3 ρ3 S3 ex3 e3 => ⟨Hf3, ρ3, S3, (ex1.trans ex2).trans ex3, e3⟩
end
end DI
set_option maxRecDepth 100000
set_option maxHeartbeats 4000000
namespace DI
open PySem PySem.Spec PyProof.Rows L2

/-! ### what a def does to its arguments -/
inductive Arg where
  | val (d : D)
  | ref (m : M)
def Arg.sl : Arg → Sl
  | .val d => .val d
  | .ref m => .ref m
inductive Res where
  | ret (r : RV) (outs : List (Nat × M))
  | exc (c : Str) (d : D) (outs : List (Nat × M))
def ArgOk (K : Kc) (Hf H : Hp) : Arg → V → Prop
  | .val d, v => Rp K Hf v d
  | .ref m, v => ∃ p, v = .ref p ∧ MOk K Hf H p m
def rfF (as : List Arg) (vs : List V) : Nat → Option Addr := fun i => match as[i]?, vs[i]? with
  | some (.ref _), some (.ref p) => some p
  | _, _ => none
structure Back (K : Kc) (Hf H : Hp) (as : List Arg) (vs : List V) (outs : List (Nat × M)) (Hf' H' : Hp) : Prop where
  ex : Ex Hf' H'
  grow : Ex Hf Hf'
  frozen : ∀ a o, Hf' a = some o → Hf a = some o ∨ H a = none
  keep : ∀ a o, H a = some o → (∀ i, rfF as vs i ≠ some a) → H' a = some o
  live : ∀ a o, H a = some o → ∃ o', H' a = some o'
  outs : ∀ i p, rfF as vs i = some p → ∃ m, outs.lookup i = some m ∧ MOk K Hf' H' p m
def SpEnd (K : Kc) (ca : Str → Option Addr) (Hf H : Hp) (as : List Arg) (vs : List V) (Q : VK) (E : XK) : Res → Prop
  | .ret rv outs => ∀ v Hf' H', Back K Hf H as vs outs Hf' H' → RvR ⟨K, H, Hf, rfF as vs⟩ Hf' H' rv v → Q v H'
  | .exc c d outs => ∀ Hf' H' A dd v, Back K Hf H as vs outs Hf' H' → ca c = some A → H' dd = some (.xd [(("at" : Str), v)]) → H dd = none → Rp K Hf' v d → E (.ref A) (some dd) H'
abbrev FM := List Arg → Option Res
/-- the promise: the def does what f says -/
def spOf (K : Kc) (ca : Str → Option Addr) (n : Nat) (f : FM) : Sp := fun vs H Q E => ∃ Hf as r, as.length = n ∧ Paired (ArgOk K Hf H) as vs ∧ Ex Hf H ∧ (∀ i j p, rfF as vs i = some p → rfF as vs j = some p → i = j) ∧
  f as = some r ∧ SpEnd K ca Hf H as vs Q E r

def outsAt : Nat → List Arg → Rho → Option (List (Nat × M))
  | _, [], _ => some []
  | k, .ref _ :: as, .ref m :: ρ => (outsAt (k + 1) as ρ).map ((k, m) :: ·)
  | k, .val _ :: as, _ :: ρ => outsAt (k + 1) as ρ
  | _, _, _ => none
theorem outsAt_get : ∀ {as : List Arg} {k : Nat} {ρ : Rho} {o : List (Nat × M)} {i : Nat} {m0 : M}, outsAt k as ρ = some o → as[i]? = some (.ref m0) → ∃ m, ρ[i]? = some (Sl.ref m) ∧ o.lookup (k + i) = some m
  | [], _, _, _, _, _, _, h => by simp at h
  | .ref _ :: as, k, .ref m :: ρ, o, i, m0, e, h => by
    simp only [outsAt, Option.map_eq_some_iff] at e
    obtain ⟨o', e, rfl⟩ := e
    cases i with
    | zero => exact ⟨m, rfl, by simp [List.lookup]⟩
    | succ i =>
      obtain ⟨m', h1, h2⟩ := outsAt_get (i := i) e (by simpa using h)
      refine ⟨m', by simpa using h1, ?_⟩
      have ne : (k + (i + 1) == k) = false := by simp
      rw [List.lookup_cons, ne]
      rw [show k + (i + 1) = k + 1 + i by omega]
      exact h2
  | .val _ :: as, k, s :: ρ, o, i, m0, e, h => by
    simp only [outsAt] at e
    cases i with
    | zero => simp at h
    | succ i =>
      obtain ⟨m', h1, h2⟩ := outsAt_get (i := i) e (by simpa using h)
      exact ⟨m', by simpa using h1, by rw [show k + (i + 1) = k + 1 + i by omega]; exact h2⟩
  | .ref _ :: as, _, [], _, _, _, e, _ => by simp [outsAt] at e
  | .ref _ :: as, _, .no :: _, _, _, _, e, _ => by simp [outsAt] at e
  | .ref _ :: as, _, .val _ :: _, _, _, _, e, _ => by simp [outsAt] at e
  | .ref _ :: as, _, .own _ :: _, _, _, _, e, _ => by simp [outsAt] at e
  | .val _ :: as, _, [], _, _, _, e, _ => by simp [outsAt] at e
def semF (n tot : Nat) (bd : SDen) : FM := fun as => if as.length = n then match bd (as.map Arg.sl ++ List.replicate (tot - n) .no) with
  | some (.next ρ) => (outsAt 0 as ρ).map (Res.ret (.val .non))
  | some (.ret r ρ) => (outsAt 0 as ρ).map (Res.ret r)
  | some (.exc c d ρ) => (outsAt 0 as ρ).map (Res.exc c d)
  | _ => none
  else none

theorem Paired.get {α β : Type} {R : α → β → Prop} : ∀ {xs : List α} {ys : List β} {i : Nat} {x : α}, Paired R xs ys → xs[i]? = some x → ∃ y, ys[i]? = some y ∧ R x y
  | _, _, _, _, .nil, e => by simp at e
  | _, _, 0, _, .cons r _, e => by simp at e; subst e; exact ⟨_, rfl, r⟩
  | _, _, i + 1, x, .cons _ t, e => by
    obtain ⟨u, h1, h2⟩ := Paired.get (i := i) (x := x) t (by simpa using e)
    exact ⟨u, by simpa using h1, h2⟩
section
variable {K : Kc} {ca : Str → Option Addr} {Hf H Hf' H' : Hp} {as : List Arg} {vs : List V} {outs : List (Nat × M)} {σ : L2.St} {ρ : Rho}
/-- a def's entry -/
theorem entry (pa : Paired (ArgOk K Hf H) as vs) (ex : Ex Hf H) (inj : ∀ i j p, rfF as vs i = some p → rfF as vs j = some p → i = j) {k : Nat} : Stt ⟨K, H, Hf, rfF as vs⟩ Hf H (vs.map some ++ List.replicate k none) (as.map Arg.sl ++ List.replicate k .no) := by
  have hl : as.length = vs.length := Paired.length pa
  have look : ∀ {i : Nat} {s : Sl}, (as.map Arg.sl ++ List.replicate k Sl.no)[i]? = some s → s = .no ∨ ∃ a v, as[i]? = some a ∧ vs[i]? = some v ∧ s = a.sl ∧ ArgOk K Hf H a v ∧ (vs.map some ++ List.replicate k none)[i]? = some (some v) := by
    intro i s h
    by_cases hi : i < as.length
    · rw [List.getElem?_append_left (by simpa using hi), List.getElem?_map, List.getElem?_eq_getElem hi] at h
      obtain ⟨v, hv, r⟩ := Paired.get pa (List.getElem?_eq_getElem hi)
      refine .inr ⟨as[i], v, List.getElem?_eq_getElem hi, hv, (Option.some.inj h).symm, r, ?_⟩
      rw [List.getElem?_append_left (by simpa [← hl] using hi), List.getElem?_map, hv]
      rfl
    · rw [List.getElem?_append_right (by simpa using hi), List.getElem?_replicate] at h
      split at h
      · exact .inl (Option.some.inj h).symm
      · cases h
  refine ⟨ex, Evl.Ex.refl _, fun a o h => .inl h, fun a o h _ => h, fun a o h => ⟨o, h⟩, by simp [hl], fun i d h => ?_, fun i m h => ?_, fun i m h => ?_, fun i j m m' p ne h1 h2 e1 e2 => ?_, inj, fun i p h => ?_⟩
  · rcases look h with z | ⟨a, v, h1, h2, h3, r, h4⟩
    · cases z
    · cases a with
      | val d' => cases h3; exact ⟨v, h4, r⟩
      | ref m => cases h3
  · rcases look h with z | ⟨a, v, h1, h2, h3, r, h4⟩
    · cases z
    · cases a <;> cases h3
  · rcases look h with z | ⟨a, v, h1, h2, h3, r, h4⟩
    · cases z
    · cases a with
      | val d' => cases h3
      | ref m' =>
        cases h3
        obtain ⟨p, rfl, mo⟩ := r
        exact ⟨p, h4, by simp only [rfF, h1, h2], mo⟩
  · rcases look h1 with z | ⟨a, v, _, _, h3, _, _⟩
    · cases z
    · cases a <;> cases h3
  · have h : rfF as vs i = some p := h
    unfold rfF at h
    split at h
    · rename_i m q h1 h2
      cases h
      obtain ⟨v, hv, r⟩ := Paired.get pa h1
      rw [h2] at hv; cases hv
      obtain ⟨q, e, mo⟩ := r
      cases e
      exact mo.there
    · cases h
theorem entry_back (S : Stt ⟨K, H, Hf, rfF as vs⟩ Hf' H' σ ρ) (e : outsAt 0 as ρ = some outs) : Back K Hf H as vs outs Hf' H' := by
  refine ⟨S.ex, S.grow, S.frozen, S.keep, S.live, fun i p h => ?_⟩
  have h0 := h
  unfold rfF at h
  split at h
  · rename_i m q h1 h2
    cases h
    obtain ⟨m', r1, r2⟩ := outsAt_get e h1
    obtain ⟨q', _, h4, mo⟩ := S.ref i m' r1
    have h4 : rfF as vs i = some q' := h4
    rw [h0] at h4; cases h4
    exact ⟨m', by simpa using r2, mo⟩
  · cases h
end
section
variable {P : Program} {w : World} {mg : Str → Option Value} {base : Heap} {K : Kc} {ca : Str → Option Addr}
/-- THE RULE: a def does what its body's meaning says -/
theorem fn_ok {x qual : Str} {st : Stmt} {f : Addr} {fd : FuncData} {N ps : List Str} {k : Nat} {bd : SDen} {dvs : List V} {kws : List (Str × V)} (F : FunD K.K x qual (defArgs st) (defBody st) (defScope st) dvs kws f fd) (S : FnScope N ps (defScope st)) (hn : ps.length ≤ N.length)
    (hbody : ∀ (cdv : Value) (A : Around) (outer : List Env) (s : Shared) (H : Hp) (E : XK) (W : Wd), W.K = K → Room k (A.deeper (envOfC qual (defScope st) s.heap.objs.size f cdv)) →
      PSs (cxOf (L2N.CX P w) P w K.K mg base N qual (defScope st) f cdv A outer s H E) (defBody st) (tSt ⟨W, fun cls d _ H => E cls d H, ca⟩ bd)) :
    FnOk P w K.K mg base (L2N.CX P w) (k + 1) f fd ps (spOf K ca ps.length (semF ps.length N.length bd)) := by
  refine F.ok S (fun vs H Q E h => ?_) (fun cdv A outer s H vs Q E hr h => ?_)
  · obtain ⟨Hf, as, r, hl, pa, _⟩ := h
    rw [← Paired.length pa, hl]
  · obtain ⟨Hf, as, r, hl, pa, ex, inj, e, fin⟩ := h
    refine ⟨_, hbody cdv A outer s H E ⟨K, H, Hf, rfF as vs⟩ rfl hr, ?_⟩
    have S0 := entry pa ex inj (k := N.length - vs.length)
    have hlv : as.length = vs.length := Paired.length pa
    unfold semF at e
    rw [if_pos hl] at e
    have hk : N.length - ps.length = N.length - vs.length := by rw [← hlv, hl]
    rw [hk] at e
    cases hb : bd (as.map Arg.sl ++ List.replicate (N.length - vs.length) .no) with
    | none => rw [hb] at e; cases e
    | some o =>
      rw [hb] at e
      refine ⟨Hf, _, o, S0, hb, ?_⟩
      cases o with
      | next ρ =>
        simp only [Option.map_eq_some_iff] at e
        obtain ⟨outs, e, rfl⟩ := e
        exact fun σ' Hf' H' S' _ => fin .non Hf' H' (entry_back S' e) .non
      | ret rv ρ =>
        simp only [Option.map_eq_some_iff] at e
        obtain ⟨outs, e, rfl⟩ := e
        exact fun v σ' Hf' H' S' _ r => fin v Hf' H' (entry_back S' e) r
      | exc c d ρ =>
        simp only [Option.map_eq_some_iff] at e
        obtain ⟨outs, e, rfl⟩ := e
        exact fun σ' Hf' H' A dd v S' _ h1 h2 h3 h4 => fin Hf' H' A dd v (entry_back S' e) h1 h2 h3 h4
      | brk ρ => cases e
      | cont ρ => cases e
end

/-! ### calls -/
def argOf (ρ : Rho) : CO → Option Arg
  | .val d => some (.val d)
  | .slot s => (getM s ρ).map .ref
def argsOf (ρ : Rho) : List CO → Option (List Arg)
  | [] => some []
  | c :: cs => match argOf ρ c, argsOf ρ cs with
    | some a, some as => some (a :: as)
    | _, _ => none
def slotsOf : List CO → List Nat
  | [] => []
  | .slot s :: cs => s :: slotsOf cs
  | .val _ :: cs => slotsOf cs
def updOf : Nat → List CO → List (Nat × M) → List (Nat × M)
  | _, [], _ => []
  | k, .slot s :: cs, o => match o.lookup k with
    | some m => (s, m) :: updOf (k + 1) cs o
    | none => updOf (k + 1) cs o
  | k, .val _ :: cs, o => updOf (k + 1) cs o
def Sl.put (m : M) : Sl → Sl
  | .own _ => .own m
  | .ref _ => .ref m
  | s => s
def upA (u : List (Nat × M)) : Nat → Rho → Rho
  | _, [] => []
  | k, s :: ρ => (match u.lookup k with | some m => s.put m | none => s) :: upA u (k + 1) ρ
theorem upA_get {u : List (Nat × M)} : ∀ {ρ : Rho} {k i : Nat}, (upA u k ρ)[i]? = ρ[i]?.map fun s => match u.lookup (k + i) with | some m => s.put m | none => s
  | [], _, _ => by simp [upA]
  | s :: ρ, k, 0 => by simp [upA]
  | s :: ρ, k, i + 1 => by
    have ih := upA_get (u := u) (ρ := ρ) (k := k + 1) (i := i)
    rw [show k + (i + 1) = k + 1 + i by omega]
    simpa [upA] using ih
theorem argsOf_get : ∀ {cs : List CO} {as : List Arg} {ρ : Rho} {i : Nat} {c : CO}, argsOf ρ cs = some as → cs[i]? = some c → ∃ a, as[i]? = some a ∧ argOf ρ c = some a
  | [], _, _, _, _, _, h => by simp at h
  | c0 :: cs, as, ρ, i, c, e, h => by
    simp only [argsOf] at e
    cases h1 : argOf ρ c0 with
    | none => rw [h1] at e; simp at e
    | some a =>
      cases h2 : argsOf ρ cs with
      | none => rw [h1, h2] at e; simp at e
      | some as' =>
        rw [h1, h2] at e; simp only [Option.some.injEq] at e; subst e
        cases i with
        | zero => simp at h; subst h; exact ⟨a, rfl, h1⟩
        | succ i =>
          obtain ⟨b, h3, h4⟩ := argsOf_get (i := i) h2 (by simpa using h)
          exact ⟨b, by simpa using h3, h4⟩
theorem argsOf_len : ∀ {cs : List CO} {as : List Arg} {ρ : Rho}, argsOf ρ cs = some as → as.length = cs.length
  | [], as, _, e => by simp only [argsOf, Option.some.injEq] at e; subst e; rfl
  | c0 :: cs, as, ρ, e => by
    simp only [argsOf] at e
    split at e
    · rename_i h; simp only [Option.some.injEq] at e; subst e; simp [argsOf_len h]
    · cases e
theorem slots_at : ∀ {cs : List CO} {i s : Nat}, cs[i]? = some (.slot s) → s ∈ slotsOf cs
  | [], _, _, h => by simp at h
  | .slot t :: cs, 0, s, h => by simp at h; subst h; simp [slotsOf]
  | .val d :: cs, 0, s, h => by simp at h
  | .slot t :: cs, i + 1, s, h => by simp [slotsOf]; exact .inr (slots_at (i := i) (by simpa using h))
  | .val d :: cs, i + 1, s, h => by simp [slotsOf]; exact slots_at (i := i) (by simpa using h)
theorem slots_inj : ∀ {cs : List CO} {i j s : Nat}, (slotsOf cs).Nodup → cs[i]? = some (.slot s) → cs[j]? = some (.slot s) → i = j
  | [], _, _, _, _, h, _ => by simp at h
  | c :: cs, 0, 0, _, _, _, _ => rfl
  | .slot t :: cs, 0, j + 1, s, nd, h1, h2 => by
    simp at h1; subst h1
    have := slots_at (i := j) (cs := cs) (by simpa using h2)
    simp only [slotsOf] at nd
    exact absurd this (List.nodup_cons.mp nd).1
  | .slot t :: cs, i + 1, 0, s, nd, h1, h2 => by
    simp at h2; subst h2
    have := slots_at (i := i) (cs := cs) (by simpa using h1)
    simp only [slotsOf] at nd
    exact absurd this (List.nodup_cons.mp nd).1
  | .slot t :: cs, i + 1, j + 1, s, nd, h1, h2 => by
    simp only [slotsOf] at nd
    rw [slots_inj (i := i) (j := j) (List.nodup_cons.mp nd).2 (by simpa using h1) (by simpa using h2)]
  | .val d :: cs, 0, _, _, _, h, _ => by simp at h
  | .val d :: cs, _ + 1, 0, _, _, _, h => by simp at h
  | .val d :: cs, i + 1, j + 1, s, nd, h1, h2 => by
    simp only [slotsOf] at nd
    rw [slots_inj (i := i) (j := j) nd (by simpa using h1) (by simpa using h2)]
theorem upd_none {o : List (Nat × M)} {s : Nat} : ∀ {cs : List CO} {k : Nat}, s ∉ slotsOf cs → (updOf k cs o).lookup s = none
  | [], _, _ => rfl
  | .slot t :: cs, k, h => by
    simp only [slotsOf, List.mem_cons, not_or] at h
    simp only [updOf]
    split
    · rw [List.lookup_cons, show (s == t) = false by simpa using h.1]; exact upd_none h.2
    · exact upd_none h.2
  | .val d :: cs, k, h => by
    simp only [slotsOf] at h
    simp only [updOf]
    exact upd_none h
theorem upd_some {o : List (Nat × M)} : ∀ {cs : List CO} {k i s : Nat} {m : M}, (slotsOf cs).Nodup → cs[i]? = some (.slot s) → o.lookup (k + i) = some m → (updOf k cs o).lookup s = some m
  | [], _, _, _, _, _, h, _ => by simp at h
  | .slot t :: cs, k, 0, s, m, nd, h, e => by
    simp at h; subst h
    simp only [updOf]
    rw [show k + 0 = k from rfl] at e
    rw [e]
    simp [List.lookup]
  | .slot t :: cs, k, i + 1, s, m, nd, h, e => by
    have mem := slots_at (i := i) (cs := cs) (by simpa using h)
    simp only [slotsOf] at nd
    have ne : (s == t) = false := by
      cases z : s == t with
      | false => rfl
      | true => rw [beq_iff_eq] at z; subst z; exact absurd mem (List.nodup_cons.mp nd).1
    have ih := upd_some (k := k + 1) (i := i) (List.nodup_cons.mp nd).2 (by simpa using h) (by rw [show k + 1 + i = k + (i + 1) by omega]; exact e)
    simp only [updOf]
    split
    · rw [List.lookup_cons, ne]; exact ih
    · exact ih
  | .val d :: cs, k, 0, s, m, nd, h, e => by simp at h
  | .val d :: cs, k, i + 1, s, m, nd, h, e => by
    simp only [slotsOf] at nd
    simp only [updOf]
    exact upd_some (k := k + 1) (i := i) nd (by simpa using h) (by rw [show k + 1 + i = k + (i + 1) by omega]; exact e)
def lCs : Lie (List CO) (List V) := fun W Hf H σ ρ cs vs => Paired (fun c v => lC W Hf H σ ρ c v) cs vs
section
variable {W : Wd} {Hf H Hf' H' : Hp} {cs : List CO} {as : List Arg} {vs : List V} {outs : List (Nat × M)} {σ : L2.St} {ρ : Rho}
theorem args_ok (S : Stt W Hf H σ ρ) : ∀ {cs : List CO} {as : List Arg} {vs : List V}, lCs W Hf H σ ρ cs vs → argsOf ρ cs = some as → Paired (ArgOk W.K Hf H) as vs
  | [], as, _, .nil, e => by simp only [argsOf, Option.some.injEq] at e; subst e; exact .nil
  | c :: cs, as, v :: vs, .cons r t, e => by
    simp only [argsOf] at e
    cases h1 : argOf ρ c with
    | none => rw [h1] at e; simp at e
    | some a =>
      cases h2 : argsOf ρ cs with
      | none => rw [h1, h2] at e; simp at e
      | some as' =>
        rw [h1, h2] at e; simp only [Option.some.injEq] at e; subst e
        refine .cons ?_ (args_ok S t h2)
        cases c with
        | val d => simp only [argOf, Option.some.injEq] at h1; subst h1; exact r
        | slot s =>
          simp only [argOf, Option.map_eq_some_iff] at h1
          obtain ⟨m, h1, rfl⟩ := h1
          obtain ⟨p, rfl, mo⟩ := getM_ok (C := ⟨W, fun _ _ _ _ => True, fun _ => none⟩) S (show σ[s]? = some (some v) from r) h1
          exact ⟨p, rfl, mo⟩
theorem rf_slot (S : Stt W Hf H σ ρ) (l : lCs W Hf H σ ρ cs vs) (ha : argsOf ρ cs = some as) {i : Nat} {p : Addr} (h : rfF as vs i = some p) : ∃ s m, cs[i]? = some (.slot s) ∧ σ[s]? = some (some (V.ref p)) ∧ getM s ρ = some m := by
  unfold rfF at h
  split at h
  · rename_i m q h1 h2
    cases h
    have hi : i < cs.length := by rw [← argsOf_len ha]; exact (List.getElem?_eq_some_iff.mp h1).1
    have hc := List.getElem?_eq_getElem hi
    obtain ⟨a, h3, h4⟩ := argsOf_get ha hc
    rw [h1] at h3; cases h3
    obtain ⟨v, h5, r⟩ := Paired.get l hc
    rw [h2] at h5; cases h5
    generalize cs[i] = c at *
    cases c with
    | val d => simp [argOf] at h4
    | slot s =>
      simp only [argOf, Option.map_eq_some_iff] at h4
      obtain ⟨m', h4, e⟩ := h4
      exact ⟨s, m', hc, r, h4⟩
  · cases h
theorem getM_at {s : Nat} {m : M} (h : getM s ρ = some m) : ρ[s]? = some (.own m) ∨ ρ[s]? = some (.ref m) := by
  unfold getM at h
  split at h
  · rename_i h'; cases h; exact .inl h'
  · rename_i h'; cases h; exact .inr h'
  · cases h
theorem same_slot (S : Stt W Hf H σ ρ) {s t : Nat} {m m' : M} {p : Addr} (h1 : getM s ρ = some m) (h2 : getM t ρ = some m') (e1 : σ[s]? = some (some (V.ref p))) (e2 : σ[t]? = some (some (V.ref p))) : s = t := by
  by_cases ne : s = t
  · exact ne
  · exfalso
    rcases getM_at h1 with h1 | h1 <;> rcases getM_at h2 with h2 | h2
    · exact S.sep s t _ _ p ne h1 h2 e1 e2
    · obtain ⟨q, a, b, _⟩ := S.own s _ h1
      obtain ⟨q', a', b', _⟩ := S.ref t _ h2
      rw [e1] at a; cases a
      rw [e2] at a'; cases a'
      exact S.notRef b b'
    · obtain ⟨q, a, b, _⟩ := S.own t _ h2
      obtain ⟨q', a', b', _⟩ := S.ref s _ h1
      rw [e2] at a; cases a
      rw [e1] at a'; cases a'
      exact S.notRef b b'
    · obtain ⟨q, a, b, _⟩ := S.ref s _ h1
      obtain ⟨q', a', b', _⟩ := S.ref t _ h2
      rw [e1] at a; cases a
      rw [e2] at a'; cases a'
      exact ne (S.inj _ _ _ b b')
theorem args_inj (S : Stt W Hf H σ ρ) (l : lCs W Hf H σ ρ cs vs) (ha : argsOf ρ cs = some as) (nd : (slotsOf cs).Nodup) : ∀ i j p, rfF as vs i = some p → rfF as vs j = some p → i = j := fun i j p h1 h2 => by
  obtain ⟨s, m, c1, e1, g1⟩ := rf_slot S l ha h1
  obtain ⟨t, m', c2, e2, g2⟩ := rf_slot S l ha h2
  have := same_slot S g1 g2 e1 e2
  subst this
  exact slots_inj nd c1 c2
/-- behind a call -/
theorem called (S : Stt W Hf H σ ρ) (l : lCs W Hf H σ ρ cs vs) (ha : argsOf ρ cs = some as) (nd : (slotsOf cs).Nodup) (B : Back W.K Hf H as vs outs Hf' H') : Stt W Hf' H' σ (upA (updOf 0 cs outs) 0 ρ) := by
  have get : ∀ {i : Nat} {s : Sl}, (upA (updOf 0 cs outs) 0 ρ)[i]? = some s → ∃ s0, ρ[i]? = some s0 ∧ s = (match (updOf 0 cs outs).lookup i with | some m => s0.put m | none => s0) := by
    intro i s h
    rw [upA_get, Option.map_eq_some_iff] at h
    obtain ⟨s0, h1, h2⟩ := h
    rw [Nat.zero_add] at h2
    exact ⟨s0, h1, h2.symm⟩
  have notF : ∀ {a : Addr} {o : HO}, Hf a = none → H a = some o → Hf' a = none := fun {a o} h1 h2 => by
    cases z : Hf' a with
    | none => rfl
    | some u =>
      rcases B.frozen a u z with y | y
      · rw [h1] at y; cases y
      · rw [h2] at y; cases y
  have passed : ∀ {i j : Nat} {p : Addr} {m : M}, cs[j]? = some (.slot i) → getM i ρ = some m → σ[i]? = some (some (V.ref p)) → ∃ m', (updOf 0 cs outs).lookup i = some m' ∧ MOk W.K Hf' H' p m' := fun {i j p m} hc hg hs => by
    obtain ⟨a, h1, h2⟩ := argsOf_get ha hc
    simp only [argOf, hg, Option.map_some, Option.some.injEq] at h2
    subst h2
    obtain ⟨v, h3, r⟩ := Paired.get l hc
    have r' : σ[i]? = some (some v) := r
    rw [hs] at r'; cases r'
    have hr : rfF as vs j = some p := by unfold rfF; rw [h1, h3]
    obtain ⟨m', e, mo⟩ := B.outs j p hr
    exact ⟨m', upd_some nd hc (by simpa using e), mo⟩
  have inCs : ∀ {i : Nat}, i ∈ slotsOf cs → ∃ j : Nat, cs[j]? = some (.slot i) := by
    intro i
    clear passed get notF nd ha l B
    induction cs with
    | nil => intro h; simp [slotsOf] at h
    | cons c cs ih =>
      intro h
      cases c with
      | val d =>
        simp only [slotsOf] at h
        obtain ⟨j, e⟩ := ih h
        exact ⟨j + 1, by simpa using e⟩
      | slot t =>
        simp only [slotsOf, List.mem_cons] at h
        rcases h with rfl | h
        · exact ⟨0, rfl⟩
        · obtain ⟨j, e⟩ := ih h
          exact ⟨j + 1, by simpa using e⟩
  have kept : ∀ {i : Nat} {p : Addr} {m : M}, i ∉ slotsOf cs → getM i ρ = some m → σ[i]? = some (some (V.ref p)) → ∀ o, H p = some o → H' p = some o := fun {i p m} hni hg hs o ho => by
    refine B.keep p o ho fun j hj => ?_
    obtain ⟨s, m', c1, e1, g1⟩ := rf_slot S l ha hj
    have := same_slot S hg g1 hs e1
    subst this
    exact hni (slots_at c1)
  have mk : ∀ {i : Nat} {p : Addr} {m : M} {s0 s : Sl}, getM i ρ = some m → σ[i]? = some (some (V.ref p)) → MOk W.K Hf H p m → s = (match (updOf 0 cs outs).lookup i with | some m => s0.put m | none => s0) → ∃ m', s = s0.put m' ∧ MOk W.K Hf' H' p m' ∨ (s = s0 ∧ MOk W.K Hf' H' p m) := fun {i p m s0 s} hg hs mo e => by
    by_cases hm : i ∈ slotsOf cs
    · obtain ⟨j, hj⟩ := inCs hm
      obtain ⟨m', h1, h2⟩ := passed hj hg hs
      rw [h1] at e
      exact ⟨m', .inl ⟨e, h2⟩⟩
    · rw [upd_none hm] at e
      obtain ⟨o, ho⟩ := mo.there
      exact ⟨m, .inr ⟨e, mo.mono B.grow (notF mo.no ho) (kept hm hg hs)⟩⟩
  refine ⟨B.ex, S.grow.trans B.grow, fun a o h => ?_, fun a o h n => ?_, fun a o h => ?_, ?_, fun i d h => ?_, fun i m h => ?_, fun i m h => ?_, fun i j m m' p ne h1 h2 e1 e2 => ?_, S.inj, S.rfH⟩
  · rcases B.frozen a o h with z | z
    · exact S.frozen a o z
    · exact .inr (S.H0none z)
  · refine B.keep a o (S.keep a o h n) fun j hj => ?_
    obtain ⟨s, m', c1, e1, g1⟩ := rf_slot S l ha hj
    rcases getM_at g1 with g | g
    · obtain ⟨q, b1, b2, _⟩ := S.own s _ g
      rw [e1] at b1; cases b1
      rw [h] at b2; cases b2
    · obtain ⟨q, b1, b2, _⟩ := S.ref s _ g
      rw [e1] at b1; cases b1
      exact n s b2
  · obtain ⟨o', e⟩ := S.live a o h
    exact B.live a o' e
  · have hl : ∀ (k : Nat) (r : Rho), (upA (updOf 0 cs outs) k r).length = r.length := by
      intro k r
      induction r generalizing k with
      | nil => rfl
      | cons s r ih => simp [upA, ih]
    rw [hl]; exact S.len
  · obtain ⟨s0, h1, h2⟩ := get h
    have : s0 = .val d := by
      revert h2
      cases (updOf 0 cs outs).lookup i <;> cases s0 <;> simp [Sl.put]
      all_goals (intro z; exact z.symm)
    subst this
    obtain ⟨v, a, b⟩ := S.val i d h1
    exact ⟨v, a, b.mono B.grow⟩
  · obtain ⟨s0, h1, h2⟩ := get h
    have : ∃ m0, s0 = .own m0 := by
      revert h2
      cases (updOf 0 cs outs).lookup i <;> cases s0 <;> simp [Sl.put]
    obtain ⟨m0, rfl⟩ := this
    obtain ⟨p, a, b, c⟩ := S.own i m0 h1
    have hg : getM i ρ = some m0 := by unfold getM; rw [h1]
    obtain ⟨m', ⟨h3, h4⟩ | ⟨h3, h4⟩⟩ := mk hg a c h2
    · cases h3; exact ⟨p, a, b, h4⟩
    · cases h3; exact ⟨p, a, b, h4⟩
  · obtain ⟨s0, h1, h2⟩ := get h
    have : ∃ m0, s0 = .ref m0 := by
      revert h2
      cases (updOf 0 cs outs).lookup i <;> cases s0 <;> simp [Sl.put]
    obtain ⟨m0, rfl⟩ := this
    obtain ⟨p, a, b, c⟩ := S.ref i m0 h1
    have hg : getM i ρ = some m0 := by unfold getM; rw [h1]
    obtain ⟨m', ⟨h3, h4⟩ | ⟨h3, h4⟩⟩ := mk hg a c h2
    · cases h3; exact ⟨p, a, b, h4⟩
    · cases h3; exact ⟨p, a, b, h4⟩
  · obtain ⟨s0, g1, g2⟩ := get h1
    obtain ⟨s0', g1', g2'⟩ := get h2
    have o1 : ∃ m0, s0 = .own m0 := by
      revert g2
      cases (updOf 0 cs outs).lookup i <;> cases s0 <;> simp [Sl.put]
    have o2 : ∃ m0, s0' = .own m0 := by
      revert g2'
      cases (updOf 0 cs outs).lookup j <;> cases s0' <;> simp [Sl.put]
    obtain ⟨m0, rfl⟩ := o1
    obtain ⟨m1, rfl⟩ := o2
    exact S.sep i j m0 m1 p ne g1 g1' e1 e2
end
end DI
set_option maxRecDepth 100000
set_option maxHeartbeats 4000000
namespace DI
open PySem PySem.Spec PyProof.Rows L2

def runFn (n : Nat) (f : FM) (cs : List CO) : Den RV := fun ρ => match argsOf ρ cs with
  | none => none
  | some as => if (slotsOf cs).Nodup ∧ as.length = n then match f as with
      | some (.ret rv outs) => some (.ok rv (upA (updOf 0 cs outs) 0 ρ))
      | some (.exc c d outs) => some (.exc c d (upA (updOf 0 cs outs) 0 ρ))
      | none => none
    else none
theorem Apart.up {u : List (Nat × M)} {σ : L2.St} {ρ : Rho} {p : Addr} {k : Nat} (h : Apart σ ρ p) : Apart σ (upA u 0 ρ) p := fun i m g => by
  rw [upA_get, Option.map_eq_some_iff] at g
  obtain ⟨s0, h1, h2⟩ := g
  have : ∃ m0, s0 = .own m0 := by
    revert h2
    cases u.lookup (0 + i) <;> cases s0 <;> simp [Sl.put]
  obtain ⟨m0, rfl⟩ := this
  exact h i m0 h1
section
variable {C : Ck} {X : Cx}
theorem run_core {n : Nat} {f : FM} {ca : Str → Option Addr} (hca : C.ca = ca) {σ : L2.St} {H Hf : Hp} {ρ : Rho} {cs : List CO} {vs : List V} {o : Out RV} {Q : VK} (S : Stt C.W Hf H σ ρ) (l : lCs C.W Hf H σ ρ cs vs) (e : runFn n f cs ρ = some o) (fin : Fin C lV σ Hf o Q) :
    spOf C.W.K ca n f (vs ++ []) H Q (WE C.Wx σ) := by
  rw [List.append_nil]
  unfold runFn at e
  split at e
  · cases e
  · rename_i as ha
    split at e
    · rename_i hnd
      have hp := args_ok S l ha
      cases hf : f as with
      | none => rw [hf] at e; cases e
      | some r =>
        rw [hf] at e
        refine ⟨Hf, as, r, hnd.2, hp, S.ex, args_inj S l ha hnd.1, hf, ?_⟩
        cases r with
        | ret rv outs =>
          cases e
          intro v Hf' H' B rr
          have S' := called S l ha hnd.1 B
          refine fin v Hf' H' S' B.grow ?_
          cases rv with
          | val d => exact rr
          | new m =>
            obtain ⟨p, rfl, n0, mo⟩ := rr
            have n0' : H p = none := n0
            exact ⟨p, rfl, S.H0none n0', mo, (S.apart n0').up (k := 0)⟩
        | exc c d outs =>
          cases e
          intro Hf' H' A dd v B h1 h2 h3 h4
          exact fin Hf' H' A dd v (called S l ha hnd.1 B) B.grow (hca ▸ h1) h2 (S.H0none h3) h4
    · cases e
theorem pe_callD {k n : Nat} {f : Addr} {fd : FuncData} {ps : List Str} {fm : FM} {x : Str} {p pos : Pos} {e : Expr} {es : List Expr} {args : Den (List CO)} {ca : Str → Option Addr} (hca : C.ca = ca)
    (F : FnOk X.prog X.w X.K X.mg X.base (L2N.CX X.prog X.w) k f fd ps (spOf C.W.K ca n fm)) (hr : Room k X.A) (hg : Gl X x) (hm : X.mg x = some (.ref f)) (hk : PySem.W.keepIn X.K (.ref f) = true) (hb : Binds X.K fd ps []) (tk : L2N.Takes X C.Wx)
    (ha : PA X (e :: es) (tG C lCs args)) (hdb : (x == ("__debug__" : Str)) = false) (hs : (e :: es).all notStar = true) : PE X (.Call (.Name x p) (e :: es) [] pos) (tG C lV (bnd args (runFn n fm))) := by
  rw [List.all_cons, Bool.and_eq_true] at hs
  refine (pe_callSD (E := fun σ => WE C.Wx σ) F hr hg hm hk hb .nil (fun σ => L2N.passAt tk σ) ha hdb (star_cons hs.1) (star_any hs.2)).imp fun σ H Q hq => ?_
  obtain ⟨Hf, ρ, o, S, e, f⟩ := hq
  exact tG_bnd' S e f fun vs H1 Hf1 ρ1 cs S1 ex l e1 f1 => run_core hca S1 l e1 f1
def nilC : Den (List CO) := ret []
def consC (x : Den CO) (y : Den (List CO)) : Den (List CO) := bnd x fun c => bnd y fun cs => ret (c :: cs)
theorem pa_nilC : PA X [] (tG C lCs nilC) := by
  refine pa_nil.imp fun σ H Q hq => ?_
  obtain ⟨Hf, ρ, o, S, e, f⟩ := hq
  exact f.ret e S (Evl.Ex.refl _) .nil
theorem pa_consC {e : Expr} {es : List Expr} {x : Den CO} {y : Den (List CO)} (h : PE X e (tG C lC x)) (hs : PA X es (tG C lCs y)) (st : notStar e = true) : PA X (e :: es) (tG C lCs (consC x y)) := by
  refine (pa_cons h hs (star_cons st)).imp fun σ H Q hq => ?_
  obtain ⟨Hf, ρ, o, S, e, f⟩ := hq
  refine tG_bnd' S e f fun v H1 Hf1 ρ1 c S1 ex r e1 f1 => ?_
  refine tG_bnd' S1 e1 f1 fun vs H2 Hf2 ρ2 cs S2 ex2 r2 e2 f2 => ?_
  refine f2.ret e2 S2 (Evl.Ex.refl _) (.cons ?_ r2)
  cases c with
  | slot i => exact r
  | val d => exact Rp.mono ex2 r
theorem run0 {k n : Nat} {f : Addr} {fd : FuncData} {ps : List Str} {fm : FM} {x : Str} {p pos : Pos} {ca : Str → Option Addr} (hca : C.ca = ca)
    (F : FnOk X.prog X.w X.K X.mg X.base (L2N.CX X.prog X.w) k f fd ps (spOf C.W.K ca n fm)) (hr : Room k X.A) (hg : Gl X x) (hm : X.mg x = some (.ref f)) (hk : PySem.W.keepIn X.K (.ref f) = true) (hb : Binds X.K fd ps []) (tk : L2N.Takes X C.Wx)
    (hdb : (x == ("__debug__" : Str)) = false) : PE X (.Call (.Name x p) [] [] pos) (tG C lV (bnd nilC (runFn n fm))) := by
  refine ⟨fun pins s σ H Q I hq => ?_⟩
  obtain ⟨Hf, ρ, o, S, e, f⟩ := hq
  refine wpAny_Call_Name_kw (ld_glob I hg hm ?_ hdb)
  refine PySem.W.callWith_K0 I.kIn hk (run_fnSD (E := fun σ => WE C.Wx σ) (us := []) (vs := []) F hr hb .nil (L2N.passAt tk σ) I .nil ?_)
  have e' : runFn n fm [] ρ = some o := e
  exact run_core (vs := []) hca S .nil e' f
end
end DI
set_option maxRecDepth 100000
set_option maxHeartbeats 4000000
namespace DI
open PySem PySem.Spec PyProof.Rows L2

/-! ### within a comprehension: every name's own list is handed by reference, the walked one is hidden -/
def innS : Sl → Sl
  | .own m => .ref m
  | s => s
def outS : Sl → Sl → Sl
  | .own _, .ref m => .own m
  | .ref _, .ref m => .ref m
  | .val d, _ => .val d
  | _, _ => .no
def inn (hide : Option Nat) : Nat → Rho → Rho
  | _, [] => []
  | k, s :: ρ => (if hide = some k then .no else innS s) :: inn hide (k + 1) ρ
def outn (hide : Option Nat) : Nat → Rho → Rho → Rho
  | _, [], _ => []
  | k, s :: ρ, ρ2 => (if hide = some k then s else outS s (ρ2.headD .no)) :: outn hide (k + 1) ρ ρ2.tail
theorem inn_get {hide : Option Nat} : ∀ {ρ : Rho} {k i : Nat}, (inn hide k ρ)[i]? = ρ[i]?.map fun s => if hide = some (k + i) then Sl.no else innS s
  | [], _, _ => by simp [inn]
  | s :: ρ, k, 0 => by simp [inn]
  | s :: ρ, k, i + 1 => by
    have ih := inn_get (hide := hide) (ρ := ρ) (k := k + 1) (i := i)
    rw [show k + (i + 1) = k + 1 + i by omega]
    simpa [inn] using ih
theorem headD_get {ρ : Rho} : ρ.headD .no = ρ[0]?.getD .no := by cases ρ <;> rfl
theorem outn_get {hide : Option Nat} : ∀ {ρ ρ2 : Rho} {k i : Nat}, (outn hide k ρ ρ2)[i]? = ρ[i]?.map fun s => if hide = some (k + i) then s else outS s (ρ2[i]?.getD .no)
  | [], _, _, _ => by simp [outn]
  | s :: ρ, ρ2, k, 0 => by cases ρ2 <;> simp [outn]
  | s :: ρ, ρ2, k, i + 1 => by
    have ih := outn_get (hide := hide) (ρ := ρ) (ρ2 := ρ2.tail) (k := k + 1) (i := i)
    rw [show k + (i + 1) = k + 1 + i by omega]
    have e : ρ2.tail[i]? = ρ2[i + 1]? := by simp
    rw [e] at ih
    simpa [outn] using ih
theorem inn_len {hide : Option Nat} : ∀ (ρ : Rho) (k : Nat), (inn hide k ρ).length = ρ.length
  | [], _ => rfl
  | s :: ρ, k => by simp [inn, inn_len ρ]
theorem outn_len {hide : Option Nat} : ∀ (ρ ρ2 : Rho) (k : Nat), (outn hide k ρ ρ2).length = ρ.length
  | [], _, _ => rfl
  | s :: ρ, ρ2, k => by simp [outn, outn_len ρ]
def nestRf (hide : Option Nat) (σ : L2.St) (ρ : Rho) : Nat → Option Addr := fun i => if hide = some i then none else match ρ[i]?, σ[i]? with
  | some (.own _), some (some (.ref p)) => some p
  | some (.ref _), some (some (.ref p)) => some p
  | _, _ => none
def nestW (W : Wd) (hide : Option Nat) (Hf H : Hp) (σ : L2.St) (ρ : Rho) : Wd := ⟨W.K, H, Hf, nestRf hide σ ρ⟩
section
variable {W : Wd} {Hf H Hf' H' : Hp} {σ σ2 : L2.St} {ρ ρ2 : Rho} {hide : Option Nat} {C : Ck}
theorem nestRf_inv (S : Stt W Hf H σ ρ) {i : Nat} {p : Addr} (h : nestRf hide σ ρ i = some p) : hide ≠ some i ∧ ∃ m, getM i ρ = some m ∧ σ[i]? = some (some (V.ref p)) ∧ MOk W.K Hf H p m := by
  unfold nestRf at h
  split at h
  · cases h
  · rename_i hh
    refine ⟨hh, ?_⟩
    split at h
    · rename_i m q h1 h2
      cases h
      have g : getM i ρ = some m := by unfold getM; rw [h1]
      obtain ⟨q, e, mo⟩ := getM_slot (C := ⟨W, fun _ _ _ _ => True, fun _ => none⟩) S g
      rw [h2] at e; cases e
      exact ⟨m, g, h2, mo⟩
    · rename_i m q h1 h2
      cases h
      have g : getM i ρ = some m := by unfold getM; rw [h1]
      obtain ⟨q, e, mo⟩ := getM_slot (C := ⟨W, fun _ _ _ _ => True, fun _ => none⟩) S g
      rw [h2] at e; cases e
      exact ⟨m, g, h2, mo⟩
    · cases h
theorem nest_in (S : Stt W Hf H σ ρ) : Stt (nestW W hide Hf H σ ρ) Hf H σ (inn hide 0 ρ) := by
  have get : ∀ {i : Nat} {s : Sl}, (inn hide 0 ρ)[i]? = some s → ∃ s0, ρ[i]? = some s0 ∧ s = if hide = some i then Sl.no else innS s0 := by
    intro i s h
    rw [inn_get, Option.map_eq_some_iff] at h
    obtain ⟨s0, h1, h2⟩ := h
    rw [Nat.zero_add] at h2
    exact ⟨s0, h1, h2.symm⟩
  refine ⟨S.ex, Evl.Ex.refl _, fun a o h => .inl h, fun a o h _ => h, fun a o h => ⟨o, h⟩, by rw [inn_len]; exact S.len, fun i d h => ?_, fun i m h => ?_, fun i m h => ?_, fun i j m m' p ne h1 h2 e1 e2 => ?_, fun i j p h1 h2 => ?_, fun i p h => ?_⟩
  · obtain ⟨s0, h1, h2⟩ := get h
    split at h2
    · cases h2
    · cases s0 <;> simp only [innS] at h2 <;> cases h2
      exact S.val i d h1
  · obtain ⟨s0, h1, h2⟩ := get h
    split at h2
    · cases h2
    · cases s0 <;> simp only [innS] at h2 <;> cases h2
  · obtain ⟨s0, h1, h2⟩ := get h
    split at h2
    · cases h2
    · rename_i hh
      cases s0 <;> simp only [innS] at h2 <;> cases h2
      · obtain ⟨p, a, b, c⟩ := S.own i m h1
        exact ⟨p, a, by show nestRf hide σ ρ i = some p; unfold nestRf; rw [if_neg hh, h1, a], c⟩
      · obtain ⟨p, a, b, c⟩ := S.ref i m h1
        exact ⟨p, a, by show nestRf hide σ ρ i = some p; unfold nestRf; rw [if_neg hh, h1, a], c⟩
  · obtain ⟨s0, g1, g2⟩ := get h1
    split at g2
    · cases g2
    · cases s0 <;> simp only [innS] at g2 <;> cases g2
  · obtain ⟨_, m, g1, e1, _⟩ := nestRf_inv S h1
    obtain ⟨_, m', g2, e2, _⟩ := nestRf_inv S h2
    exact same_slot S g1 g2 e1 e2
  · obtain ⟨_, m, _, _, mo⟩ := nestRf_inv S h
    exact mo.there
/-- back outside: the slots at σ2 differ from σ at most where ρ says nothing -/
theorem nest_out (S : Stt W Hf H σ ρ) (S2 : Stt (nestW W hide Hf H σ ρ) Hf' H' σ2 ρ2) (hl : σ2.length = σ.length) (hσ : ∀ (i : Nat) (s : Sl), ρ[i]? = some s → s ≠ Sl.no → σ2[i]? = σ[i]?) :
    Stt W Hf' H' σ2 (outn hide 0 ρ ρ2) ∧ Ex Hf Hf' ∧ (∀ a o, H a = some o → (∀ i, nestRf hide σ ρ i ≠ some a) → H' a = some o) := by
  have gr : Ex Hf Hf' := S2.grow
  refine ⟨?_, gr, S2.keep⟩
  have get : ∀ {i : Nat} {s : Sl}, (outn hide 0 ρ ρ2)[i]? = some s → ∃ s0, ρ[i]? = some s0 ∧ s = if hide = some i then s0 else outS s0 (ρ2[i]?.getD .no) := by
    intro i s h
    rw [outn_get, Option.map_eq_some_iff] at h
    obtain ⟨s0, h1, h2⟩ := h
    rw [Nat.zero_add] at h2
    exact ⟨s0, h1, h2.symm⟩
  have notF : ∀ {a : Addr} {o : HO}, Hf a = none → H a = some o → Hf' a = none := fun {a o} h1 h2 => by
    cases z : Hf' a with
    | none => rfl
    | some u =>
      rcases S2.frozen a u z with y | y
      · have y : Hf a = some u := y
        rw [h1] at y; cases y
      · have y : H a = none := y
        rw [h2] at y; cases y
  have notRef : ∀ {i : Nat} {p : Addr} {m : M}, hide = some i → getM i ρ = some m → σ[i]? = some (some (V.ref p)) → ∀ j, nestRf hide σ ρ j ≠ some p := fun {i p m} hh hg hs j hj => by
    obtain ⟨nh, m', g, e, _⟩ := nestRf_inv S hj
    have := same_slot S hg g hs e
    subst this
    exact nh hh
  have fromRef : ∀ {i : Nat} {p : Addr} {m m2 : M}, hide ≠ some i → getM i ρ = some m → σ[i]? = some (some (V.ref p)) → ρ2[i]? = some (.ref m2) → σ2[i]? = some (some (V.ref p)) ∧ MOk W.K Hf' H' p m2 := fun {i p m m2} hh hg hs h2 => by
    obtain ⟨q, a, b, c⟩ := S2.ref i m2 h2
    have b : nestRf hide σ ρ i = some q := b
    have hr : nestRf hide σ ρ i = some p := by
      unfold nestRf
      rw [if_neg hh]
      rcases getM_at hg with h | h <;> rw [h, hs]
    rw [hr] at b; cases b
    exact ⟨a, c⟩
  have same : ∀ {i : Nat} {p : Addr} {m : M}, getM i ρ = some m → σ[i]? = some (some (V.ref p)) → σ2[i]? = some (some (V.ref p)) := fun {i p m} hg hs => by
    rcases getM_at hg with h | h
    · rw [hσ i _ h (by simp)]; exact hs
    · rw [hσ i _ h (by simp)]; exact hs
  have slotM : ∀ {i : Nat} {s0 s : Sl} {m0 : M}, ρ[i]? = some s0 → getM i ρ = some m0 → (s0 = .own m0 ∨ s0 = .ref m0) → s = (if hide = some i then s0 else outS s0 (ρ2[i]?.getD .no)) → s = .no ∨ ∃ p m, σ[i]? = some (some (V.ref p)) ∧ σ2[i]? = some (some (V.ref p)) ∧ MOk W.K Hf' H' p m ∧ ((s0 = .own m0 ∧ s = .own m) ∨ (s0 = .ref m0 ∧ s = .ref m)) := by
    intro i s0 s m0 h1 hg hs0 h2
    obtain ⟨p, hs, mo⟩ := getM_slot (C := ⟨W, fun _ _ _ _ => True, fun _ => none⟩) S hg
    split at h2
    · rename_i hh
      obtain ⟨o, ho⟩ := mo.there
      refine .inr ⟨p, m0, hs, same hg hs, mo.mono gr (notF mo.no ho) fun u hu => S2.keep p u hu (notRef hh hg hs), ?_⟩
      rcases hs0 with rfl | rfl
      · exact .inl ⟨rfl, h2⟩
      · exact .inr ⟨rfl, h2⟩
    · rename_i hh
      cases h3 : ρ2[i]? with
      | none =>
        rw [h3] at h2
        rcases hs0 with rfl | rfl <;> exact .inl h2
      | some s2 =>
        rw [h3] at h2
        cases s2 with
        | ref m2 =>
          obtain ⟨a, c⟩ := fromRef hh hg hs h3
          refine .inr ⟨p, m2, hs, a, c, ?_⟩
          rcases hs0 with rfl | rfl
          · exact .inl ⟨rfl, h2⟩
          · exact .inr ⟨rfl, h2⟩
        | no => rcases hs0 with rfl | rfl <;> exact .inl h2
        | val d => rcases hs0 with rfl | rfl <;> exact .inl h2
        | own m => rcases hs0 with rfl | rfl <;> exact .inl h2
  refine ⟨S2.ex, S.grow.trans gr, fun a o h => ?_, fun a o h n => ?_, fun a o h => ?_, ?_, fun i d h => ?_, fun i m h => ?_, fun i m h => ?_, fun i j m m' p ne h1 h2 e1 e2 => ?_, S.inj, S.rfH⟩
  · rcases S2.frozen a o h with z | z
    · exact S.frozen a o z
    · exact .inr (S.H0none z)
  · refine S2.keep a o (S.keep a o h n) fun j hj => ?_
    obtain ⟨_, m', g, e, _⟩ := nestRf_inv S hj
    rcases getM_at g with g | g
    · obtain ⟨q, b1, b2, _⟩ := S.own j _ g
      rw [e] at b1; cases b1
      rw [h] at b2; cases b2
    · obtain ⟨q, b1, b2, _⟩ := S.ref j _ g
      rw [e] at b1; cases b1
      exact n j b2
  · obtain ⟨o', e⟩ := S.live a o h
    exact S2.live a o' e
  · rw [outn_len, hl]; exact S.len
  · obtain ⟨s0, h1, h2⟩ := get h
    have : s0 = .val d := by
      split at h2
      · exact h2.symm
      · revert h2
        cases s0 <;> cases ρ2[i]?.getD .no <;> simp [outS]
        all_goals (intro z; exact z.symm)
    subst this
    obtain ⟨v, a, b⟩ := S.val i d h1
    exact ⟨v, by rw [hσ i _ h1 (by simp)]; exact a, b.mono gr⟩
  · obtain ⟨s0, h1, h2⟩ := get h
    have : ∃ m0, s0 = .own m0 := by
      split at h2
      · exact ⟨m, h2.symm⟩
      · revert h2
        cases s0 <;> cases ρ2[i]?.getD .no <;> simp [outS]
    obtain ⟨m0, rfl⟩ := this
    have hg : getM i ρ = some m0 := by unfold getM; rw [h1]
    rcases slotM h1 hg (.inl rfl) h2 with z | ⟨p, m', a, b, c, ⟨_, d⟩ | ⟨d, _⟩⟩
    · cases z
    · cases d
      obtain ⟨q, a', b', _⟩ := S.own i m0 h1
      rw [a] at a'; cases a'
      exact ⟨p, b, b', c⟩
    · cases d
  · obtain ⟨s0, h1, h2⟩ := get h
    have : ∃ m0, s0 = .ref m0 := by
      split at h2
      · exact ⟨m, h2.symm⟩
      · revert h2
        cases s0 <;> cases ρ2[i]?.getD .no <;> simp [outS]
    obtain ⟨m0, rfl⟩ := this
    have hg : getM i ρ = some m0 := by unfold getM; rw [h1]
    rcases slotM h1 hg (.inr rfl) h2 with z | ⟨p, m', a, b, c, ⟨d, _⟩ | ⟨_, d⟩⟩
    · cases z
    · cases d
    · cases d
      obtain ⟨q, a', b', _⟩ := S.ref i m0 h1
      rw [a] at a'; cases a'
      exact ⟨p, b, b', c⟩
  · obtain ⟨s0, g1, g2⟩ := get h1
    obtain ⟨s0', g1', g2'⟩ := get h2
    have o1 : ∃ m0, s0 = .own m0 := by
      split at g2
      · exact ⟨m, g2.symm⟩
      · revert g2
        cases s0 <;> cases ρ2[i]?.getD .no <;> simp [outS]
    have o2 : ∃ m0, s0' = .own m0 := by
      split at g2'
      · exact ⟨m', g2'.symm⟩
      · revert g2'
        cases s0' <;> cases ρ2[j]?.getD .no <;> simp [outS]
    obtain ⟨m0, rfl⟩ := o1
    obtain ⟨m1, rfl⟩ := o2
    rw [hσ i _ g1 (by simp)] at e1
    rw [hσ j _ g1' (by simp)] at e2
    exact S.sep i j m0 m1 p ne g1 g1' e1 e2
end
end DI
set_option maxRecDepth 100000
set_option maxHeartbeats 4000000
namespace DI
open PySem PySem.Spec PyProof.Rows L2

def lcL (elt : Den D) (cond : Den Bool) (k : Nat) (hide : Option Nat) : List D → List D → Rho → Option (List D × Rho)
  | acc, [], ρ => some (acc, ρ)
  | acc, d :: ds, ρ => match cond ((inn hide 0 ρ).set k (.val d)) with
    | some (.ok false ρ2) => lcL elt cond k hide acc ds ((outn hide 0 ρ ρ2).set k .no)
    | some (.ok true ρ2) => match elt ρ2 with
      | some (.ok y ρ3) => if acc.length < 90000 then lcL elt cond k hide (acc ++ [y]) ds ((outn hide 0 ρ ρ3).set k .no) else none
      | _ => none
    | _ => none
section
variable {W : Wd} {Hf H Hf' H' : Hp} {σ σ2 : L2.St} {ρ ρ2 : Rho} {hide : Option Nat} {C : Ck} {p : Addr} {o : HO}
/-- an object that no name holds is written -/
theorem Stt.other (S : Stt W Hf H σ ρ) (n0 : W.H0 p = none) (nf : Hf p = none) (ap : Apart σ ρ p) : Stt W Hf (upd H p o) σ ρ := by
  refine ⟨fun a u g => ?_, S.grow, S.frozen, fun a u g n => ?_, fun a u g => ?_, S.len, S.val, fun j n g => ?_, fun j n g => ?_, S.sep, S.inj, S.rfH⟩
  · by_cases z : a = p
    · subst z; rw [nf] at g; cases g
    · rw [upd_ne z]; exact S.ex _ _ g
  · by_cases z : a = p
    · subst z; rw [n0] at g; cases g
    · rw [upd_ne z]; exact S.keep _ _ g n
  · by_cases z : a = p
    · subst z; exact ⟨_, upd_same⟩
    · obtain ⟨o', e⟩ := S.live a u g; exact ⟨o', by rw [upd_ne z]; exact e⟩
  · obtain ⟨q, a, b, c⟩ := S.own j n g
    have ne : q ≠ p := fun z => ap j n g (z ▸ a)
    exact ⟨q, a, b, c.mono (Evl.Ex.refl _) c.no fun u z => by rw [upd_ne ne]; exact z⟩
  · obtain ⟨q, a, b, c⟩ := S.ref j n g
    have ne : q ≠ p := fun z => S.notRef n0 (z ▸ b)
    exact ⟨q, a, b, c.mono (Evl.Ex.refl _) c.no fun u z => by rw [upd_ne ne]; exact z⟩
theorem Apart.outn (h : Apart σ ρ p) {ρ3 : Rho} {σ3 : L2.St} {k : Nat} (hσ : ∀ (i : Nat) (s : Sl), ρ[i]? = some s → s ≠ Sl.no → σ3[i]? = σ[i]?) : Apart σ3 ((DI.outn hide 0 ρ ρ3).set k .no) p := fun i m g => by
  rcases getset g with ⟨_, z⟩ | ⟨ne, g⟩
  · cases z
  · rw [outn_get, Option.map_eq_some_iff] at g
    obtain ⟨s0, h1, h2⟩ := g
    have : ∃ m0, s0 = .own m0 := by
      split at h2
      · exact ⟨m, h2⟩
      · revert h2
        cases s0 <;> cases ρ3[i]?.getD .no <;> simp [outS]
    obtain ⟨m0, rfl⟩ := this
    rw [hσ i _ h1 (by simp)]
    exact h i m0 h1
/-- the block's state at a turn: the new list is at q -/
structure Blk (W : Wd) (Hf1 : Hp) (k : Nat) (q : Addr) (σw : L2.St) (Hf H : Hp) (ρ : Rho) (acc : List D) : Prop where
  S : Stt W Hf H σw ρ
  ex : Ex Hf1 Hf
  no : ρ[k]? = some .no
  q0 : W.H0 q = none
  qf : Hf q = none
  ap : Apart σw ρ q
  li : ∃ xs, H q = some (.lst xs) ∧ RpA W.K Hf xs acc
theorem Blk.inn {Hf1 : Hp} {k : Nat} {q : Addr} {σw : L2.St} {acc : List D} {x : V} {d : D} (B : Blk W Hf1 k q σw Hf H ρ acc) (r : Rp W.K Hf x d) : Stt (nestW W hide Hf H σw ρ) Hf H (σw.set k (some x)) ((DI.inn hide 0 ρ).set k (.val d)) := by
  refine (nest_in B.S).setVal r fun n h => ?_
  rw [inn_get, B.no] at h
  simp only [Option.map_some, Option.some.injEq] at h
  split at h <;> cases h
theorem Blk.out {Hf1 : Hp} {k : Nat} {q : Addr} {σw : L2.St} {acc : List D} {x : V} (B : Blk W Hf1 k q σw Hf H ρ acc) (S2 : Stt (nestW W hide Hf H σw ρ) Hf' H' (σw.set k (some x)) ρ2) (hk : σw[k]? = some none) :
    Blk W Hf1 k q σw Hf' H' ((outn hide 0 ρ ρ2).set k .no) acc ∧ (∀ a o, H a = some o → (∀ i, nestRf hide σw ρ i ≠ some a) → H' a = some o) := by
  have hσ : ∀ (i : Nat) (s : Sl), ρ[i]? = some s → s ≠ Sl.no → (σw.set k (some x))[i]? = σw[i]? := fun i s h hs => by
    have ne : k ≠ i := fun z => by subst z; rw [B.no] at h; cases h; exact hs rfl
    rw [List.getElem?_set_ne ne]
  obtain ⟨S3, gr, kp⟩ := nest_out B.S S2 (by simp) hσ
  have notQ : ∀ i, nestRf hide σw ρ i ≠ some q := fun i h => by
    obtain ⟨_, m, g, e, _⟩ := nestRf_inv B.S h
    rcases getM_at g with g | g
    · exact B.ap i m g e
    · obtain ⟨p, a, b, _⟩ := B.S.ref i m g
      rw [e] at a; cases a
      exact B.S.notRef B.q0 b
  obtain ⟨xs, hq, ra⟩ := B.li
  have back : (σw.set k (some x)).set k none = σw := by
    rw [List.set_set]
    refine List.ext_getElem? fun i => ?_
    by_cases hi : k = i
    · subst hi
      by_cases hl : k < σw.length
      · rw [List.getElem?_set_self hl, hk]
      · rw [List.getElem?_eq_none (by simpa using hl)] at hk; cases hk
    · rw [List.getElem?_set_ne hi]
  have S4 := S3.setNo (i := k) (ov := none) fun n h => by
    rw [outn_get, B.no] at h
    simp only [Option.map_some, Option.some.injEq] at h
    split at h
    · cases h
    · revert h; cases ρ2[k]?.getD .no <;> simp [outS]
  rw [back] at S4
  refine ⟨⟨S4, B.ex.trans gr, ?_, B.q0, ?_, ?_, xs, kp q _ hq notQ, ra.mono gr⟩, kp⟩
  · have hl : k < (outn hide 0 ρ ρ2).length := by
      rw [outn_len]
      exact (List.getElem?_eq_some_iff.mp B.no).1
    exact List.getElem?_set_self hl
  · cases z : Hf' q with
    | none => rfl
    | some u =>
      rcases S2.frozen q u z with y | y
      · have y : Hf q = some u := y
        rw [B.qf] at y; cases y
      · have y : H q = none := y
        rw [hq] at y; cases y
  · exact Apart.outn B.ap fun i s h hs => rfl
theorem Blk.app {Hf1 : Hp} {k : Nat} {q : Addr} {σw : L2.St} {acc : List D} {y : V} {d : D} {xs : List V} (B : Blk W Hf1 k q σw Hf H ρ acc) (hq : H q = some (.lst xs)) (r : Rp W.K Hf y d) : Blk W Hf1 k q σw Hf (upd H q (.lst (xs ++ [y]))) ρ (acc ++ [d]) := by
  obtain ⟨xs', hq', ra⟩ := B.li
  rw [hq] at hq'; cases hq'
  exact ⟨B.S.other B.q0 B.qf B.ap, B.ex, B.no, B.q0, B.qf, B.ap, _, upd_same, ra.append (.cons r .nil)⟩
/-- the element's reading, the test's: in whatever world -/
def tIn {α β : Type} (C : Ck) (P : Lie α β) (x : Den α) : L2.St → Hp → (β → Hp → Prop) → Prop := fun σ H Q => ∃ W : Wd, W.K = C.W.K ∧ tG ⟨W, fun _ _ _ _ => False, C.ca⟩ P x σ H Q
/-- one turn -/
theorem lc_turn {Hf1 : Hp} {k : Nat} {q : Addr} {σw : L2.St} {acc : List D} {x : V} {d : D} {ds ys : List D} {ρe : Rho} {elt : Den D} {cond : Den Bool} (B : Blk C.W Hf1 k q σw Hf H ρ acc) (hk : σw[k]? = some none) (r : Rp C.W.K Hf x d)
    (e : lcL elt cond k hide acc (d :: ds) ρ = some (ys, ρe)) {Nx : Hp → Prop}
    (hN : ∀ Hf' H' ρ' acc', Blk C.W Hf1 k q σw Hf' H' ρ' acc' → lcL elt cond k hide acc' ds ρ' = some (ys, ρe) → (∀ a o, H a = some o → a ≠ q → (∀ i, nestRf hide σw ρ i ≠ some a) → H' a = some o) → (∀ i m, hide = some i → ρ[i]? = some (.own m) → ρ'[i]? = some (.own m)) → (∀ i m, hide = some i → ρ[i]? = some (.ref m) → ρ'[i]? = some (.ref m)) → Nx H') :
    tIn C lB cond (σw.set k (some x)) H fun b H3 => if b = true then tIn C lD elt (σw.set k (some x)) H3 fun y H4 => ∃ acc, H4 q = some (.lst acc) ∧ acc.length < sizeLine ∧ Nx (upd H4 q (.lst (acc ++ [y]))) else Nx H3 := by
  have hidden : ∀ (ρ3 : Rho) (i : Nat) (s : Sl), hide = some i → ρ[i]? = some s → s ≠ .no → ((outn hide 0 ρ ρ3).set k .no)[i]? = some s := fun ρ3 i s hh h hs => by
    have ne : k ≠ i := fun z => by subst z; rw [B.no] at h; cases h; exact hs rfl
    rw [List.getElem?_set_ne ne, outn_get, h]
    simp [hh]
  simp only [lcL] at e
  cases hc : cond ((inn hide 0 ρ).set k (.val d)) with
  | none => rw [hc] at e; cases e
  | some oc =>
    rw [hc] at e
    cases oc with
    | exc c' d' ρ' => cases e
    | ok b ρ2 =>
      refine ⟨nestW C.W hide Hf H σw ρ, rfl, Hf, _, _, B.inn r, hc, fun b' Hf2 H2 S2 ex2 l => ?_⟩
      have l' : b' = b := l
      subst l'
      cases b' with
      | false =>
        have e : lcL elt cond k hide acc ds ((outn hide 0 ρ ρ2).set k .no) = some (ys, ρe) := e
        obtain ⟨B2, kp⟩ := B.out S2 hk
        exact hN Hf2 H2 _ acc B2 e (fun a o h _ n => kp a o h n) (fun i m hh h => hidden ρ2 i _ hh h (by simp)) (fun i m hh h => hidden ρ2 i _ hh h (by simp))
      | true =>
        dsimp only
        rw [if_pos rfl]
        simp only at e
        cases he : elt ρ2 with
        | none => rw [he] at e; cases e
        | some oe =>
          rw [he] at e
          cases oe with
          | exc c' d' ρ' => cases e
          | ok y ρ3 =>
            simp only at e
            split at e
            · rename_i hz
              refine ⟨nestW C.W hide Hf H σw ρ, rfl, Hf2, ρ2, _, S2, he, fun u Hf3 H3 S3 ex3 lu => ?_⟩
              obtain ⟨B3, kp⟩ := B.out S3 hk
              obtain ⟨xs, hq, ra⟩ := B3.li
              refine ⟨xs, hq, by rw [ra.length]; exact Evl.sz_lt (by omega), ?_⟩
              exact hN Hf3 _ _ _ (B3.app hq lu) e (fun a o h na n => by rw [upd_ne na]; exact kp a o h n) (fun i m hh h => hidden ρ3 i _ hh h (by simp)) (fun i m hh h => hidden ρ3 i _ hh h (by simp))
            · cases e
theorem getset_self {α : Type} {l : List α} {k : Nat} {x : α} (h : l[k]? = some x) : l.set k x = l := by
  refine List.ext_getElem? fun i => ?_
  by_cases hi : k = i
  · subst hi
    rw [List.getElem?_set_self (List.getElem?_eq_some_iff.mp h).1, h]
  · rw [List.getElem?_set_ne hi]
theorem blk_start {k : Nat} {q : Addr} (S : Stt C.W Hf H σ ρ) (hn : ρ[k]? = some .no) (nq : H q = none) : Blk C.W Hf k q (wipe σ [k]) Hf (upd H q (.lst [])) ρ [] := by
  have S1 := S.setNo (i := k) (ov := none) fun n h => by rw [hn] at h; cases h
  rw [getset_self hn] at S1
  exact ⟨S1.made nq, Evl.Ex.refl _, hn, S.H0none nq, Evl.fresh_back S.ex nq, S1.apart nq, [], upd_same, .nil⟩
theorem blk_end {Hf1 : Hp} {k : Nat} {q : Addr} {ys : List D} {Q : VK} {ρe : Rho} (B : Blk C.W Hf1 k q (wipe σ [k]) Hf H ρe ys) (hl : k < σ.length) (f : Fin C lV σ Hf1 (.ok (.new (.lst ys)) ρe) Q) : Q (.ref q) H := by
  have S1 := B.S.setNo (i := k) (ov := σ[k]) fun n h => by rw [B.no] at h; cases h
  have back : (wipe σ [k]).set k σ[k] = σ := by
    show (σ.set k none).set k σ[k] = σ
    rw [List.set_set]
    exact getset_self (List.getElem?_eq_getElem hl)
  rw [getset_self B.no, back] at S1
  obtain ⟨xs, hq, ra⟩ := B.li
  refine f _ Hf H S1 B.ex ⟨q, rfl, B.q0, .lst B.qf hq ra, fun i m h e => B.ap i m h ?_⟩
  have ne : k ≠ i := fun z => by subst z; rw [B.no] at h; cases h
  show (σ.set k none)[i]? = _
  rw [List.getElem?_set_ne ne]; exact e
def lcEnd (elt : Den D) (cond : Den Bool) (k : Nat) (hide : Option Nat) (items : List D) : Den RV := fun ρ => match ρ[k]? with
  | some .no => match lcL elt cond k hide [] items ρ with
    | some (ys, ρ') => some (.ok (.new (.lst ys)) ρ')
    | none => none
  | _ => none
theorem lcEnd_inv {elt : Den D} {cond : Den Bool} {k : Nat} {items : List D} {o : Out RV} (e : lcEnd elt cond k hide items ρ = some o) : ρ[k]? = some .no ∧ ∃ ys ρe, lcL elt cond k hide [] items ρ = some (ys, ρe) ∧ o = .ok (.new (.lst ys)) ρe := by
  unfold lcEnd at e
  split at e
  · rename_i h
    split at e
    · rename_i ys ρ' h2
      cases e
      exact ⟨h, ys, ρ', h2, rfl⟩
    · cases e
  · cases e
theorem wiped {k : Nat} (hl : k < σ.length) : (wipe σ [k])[k]? = some none := by
  show (σ.set k none)[k]? = _
  exact List.getElem?_set_self hl
abbrev LcP (C : Ck) (elt : Den D) (cond : Den Bool) (k : Nat) (items ys : List D) (ρe : Rho) (σ : L2.St) (Hf1 : Hp) (q : Addr) (i : Nat) (H : Hp) : Prop := ∃ Hf ρ acc, Blk C.W Hf1 k q (wipe σ [k]) Hf H ρ acc ∧ lcL elt cond k none acc (items.drop i) ρ = some (ys, ρe)
theorem lc_step {k i : Nat} {q : Addr} {items ys : List D} {ρe : Rho} {elt : Den D} {cond : Den Bool} {Hf1 : Hp} {x : V} {d : D} (hl : k < σ.length) (h : LcP C elt cond k items ys ρe σ Hf1 q i H) (hd : items[i]? = some d) (r : ∀ Hf, Ex Hf1 Hf → Rp C.W.K Hf x d) :
    gName k x (wipe σ [k]) H fun σ2 H2 => wipe σ2 [k] = wipe σ [k] ∧ tIn C lB cond σ2 H2 fun b H3 => if b = true then tIn C lD elt σ2 H3 fun y H4 => ∃ acc, H4 q = some (.lst acc) ∧ acc.length < sizeLine ∧ LcP C elt cond k items ys ρe σ Hf1 q (i + 1) (upd H4 q (.lst (acc ++ [y]))) else LcP C elt cond k items ys ρe σ Hf1 q (i + 1) H3 := by
  obtain ⟨Hf, ρ, acc, B, e⟩ := h
  refine ⟨by show ((σ.set k none).set k (some x)).set k none = σ.set k none; rw [List.set_set, List.set_set], ?_⟩
  rw [drop_get hd] at e
  exact lc_turn B (wiped hl) (r Hf B.ex) e fun Hf' H' ρ' acc' B' e' _ _ _ => ⟨Hf', ρ', acc', B', e'⟩
theorem lc_fin {k n : Nat} {q : Addr} {items ys : List D} {ρe : Rho} {elt : Den D} {cond : Den Bool} {Hf1 : Hp} {Q : VK} (hl : k < σ.length) (h : LcP C elt cond k items ys ρe σ Hf1 q n H) (hn : items.length ≤ n) (f : Fin C lV σ Hf1 (.ok (.new (.lst ys)) ρe) Q) : Q (.ref q) H := by
  obtain ⟨Hf, ρ, acc, B, e⟩ := h
  rw [List.drop_eq_nil_of_le hn] at e
  simp only [lcL, Option.some.injEq, Prod.mk.injEq] at e
  obtain ⟨rfl, rfl⟩ := e
  exact blk_end B hl f
end
section
variable {C : Ck} {X : Cx}
theorem pe_in {X' : Cx} {e : Expr} {x : Den D} (h : ∀ W : Wd, W.K = C.W.K → PE X' e (tG ⟨W, fun _ _ _ _ => False, C.ca⟩ lD x)) : PE X' e (tIn C lD x) := ⟨fun pins s σ H Q I hq => by
  obtain ⟨W, hW, hq⟩ := hq
  exact (h W hW).run pins s σ H Q I hq⟩
theorem pts_in {X' : Cx} {e : Expr} {x : Den Bool} (h : ∀ W : Wd, W.K = C.W.K → PT X' e (tG ⟨W, fun _ _ _ _ => False, C.ca⟩ lB x)) : PTs X' [e] (tIn C lB x) := pts_one ⟨fun pins s σ H Q I hq => by
  obtain ⟨W, hW, hq⟩ := hq
  exact (h W hW).run pins s σ H Q I hq⟩
theorem pts_in0 {X' : Cx} : PTs X' [] (tIn C lB (ret true)) := ⟨fun pins s σ H Q I hq => by
  obtain ⟨W, hW, Hf, ρ, o, S, e, f⟩ := hq
  exact (pts_nil (X := X')).run pins s σ H Q I (f.ret e S (Evl.Ex.refl _) rfl)⟩
def lcD (x : Den D) (elt : Den D) (cond : Den Bool) (k : Nat) : Den RV := bnd x fun d => fun ρ => match itemsD d with
  | some items => lcEnd elt cond k none items ρ
  | none => none
/-- what a comprehension's block must be -/
structure LcOk (C : Ck) (X : Cx) (scope : Scope) (v : Str) (k : Nat) (tg elt : Expr) (ifs : List Expr) (x : Den D) (c : Den Bool) : Prop where
  blk : BlkOk X.N X.env.scope scope [(v, k)]
  tg : ∀ (s : Shared) (H : Hp) (A : Addr) (cl : List (Str × Addr)) (fp : List Addr), PG (X.blk s H scope (compEnvC scope cl A X.env) fp) tg (gName k)
  elt : ∀ (s : Shared) (H : Hp) (A : Addr) (cl : List (Str × Addr)) (fp : List Addr), PE (X.blk s H scope (compEnvC scope cl A X.env) fp) elt (tIn C lD x)
  ifs : ∀ (s : Shared) (H : Hp) (A : Addr) (cl : List (Str × Addr)) (fp : List Addr), PTs (X.blk s H scope (compEnvC scope cl A X.env) fp) ifs (tIn C lB c)
theorem lcd_core (hK : X.K = C.W.K.K) {k : Nat} {x elt : Den D} {cond : Den Bool} {σ : L2.St} {H Hf : Hp} {ρ : Rho} {o : Out RV} {Q : VK} (S : Stt C.W Hf H σ ρ) (e : lcD x elt cond k ρ = some o) (f : Fin C lV σ Hf o Q) :
    tLc (fun σ H R => tG C lD x σ H fun v H1 => ∃ a, v = .ref a ∧ (((∃ xs, SqL X.K H1 a xs) ∧ R (Itl X.K a) H1) ∨ ((∃ xs, SqT X.K H1 a xs) ∧ R (Itt X.K a) H1))) (gName k) (tIn C lB cond) (tIn C lD elt) [k] σ H Q := by
  refine tG_bnd' S e f fun v H1 Hf1 ρ1 d S1 ex l e1 f1 => ?_
  split at e1
  · rename_i items hd
    obtain ⟨hn, ys, ρe, e2, rfl⟩ := lcEnd_inv e1
    have hl : k < σ.length := by rw [S1.len]; exact (List.getElem?_eq_some_iff.mp hn).1
    have base : ∀ q, H1 q = none → LcP C elt cond k items ys ρe σ Hf1 q 0 (upd H1 q (.lst [])) := fun q nq => ⟨Hf1, ρ1, [], blk_start S1 hn nq, e2⟩
    have exq : ∀ {q i H}, LcP C elt cond k items ys ρe σ Hf1 q i H → Ex Hf1 H := fun {q i H} ⟨Hf, ρ, acc, B, _⟩ => B.ex.trans B.S.ex
    have list : ∀ {a : Addr} {xs : List V}, (∀ H, Ex Hf1 H → SqL X.K H a xs) → RpA C.W.K Hf1 xs items → ∀ q, H1 q = none → ∃ W : Nat → Nat → Hp → Prop, (∃ m, W 0 m (upd H1 q (.lst []))) ∧ ∀ i m H, W i m H →
        ((Itl X.K a).stop i H ∧ Q (.ref q) H) ∨ ((Itl X.K a).go i H ∧ ∃ Nx : Hp → Prop, (∀ H', Nx H' → ∃ m', m' < m ∧ W (i + 1) m' H') ∧ ∀ x H', (Itl X.K a).yld i H x H' → gName k x (wipe σ [k]) H' fun σ2 H2 => wipe σ2 [k] = wipe σ [k] ∧ tIn C lB cond σ2 H2 fun b H3 =>
          if b = true then tIn C lD elt σ2 H3 fun y H4 => ∃ acc, H4 q = some (.lst acc) ∧ acc.length < sizeLine ∧ Nx (upd H4 q (.lst (acc ++ [y]))) else Nx H3) := fun {a xs} hx ra q nq =>
      lc_list (K := X.K) (a := a) (xs := xs) (D := q) (Qd := fun H => Q (.ref q) H) (LcP C elt cond k items ys ρe σ Hf1 q) (base q nq) (fun i H _ h => hx H (exq h))
        (fun i y H hy h => by
          obtain ⟨d', hd', rd⟩ := ra.get' hy
          exact lc_step hl h hd' fun Hf ex => rd.mono ex) (fun H h => lc_fin hl h (by rw [ra.length]; exact Nat.le_refl _) f1)
    cases d with
    | lst ds' =>
      cases hd
      cases (show Rp C.W.K Hf1 v (.lst _) from l) with
      | lst a b => exact ⟨_, rfl, .inl ⟨⟨_, .inl (.inl (S1.ex _ _ a))⟩, list (fun H ex => .inl (.inl (ex _ _ a))) b⟩⟩
    | fls ds' =>
      cases hd
      cases (show Rp C.W.K Hf1 v (.fls _) from l) with
      | fls a b => exact ⟨_, rfl, .inl ⟨⟨_, hK ▸ Evl.ex_l S1.ex a⟩, list (fun H ex => hK ▸ Evl.ex_l ex a) b⟩⟩
    | tup ds' =>
      cases hd
      cases (show Rp C.W.K Hf1 v (.tup _) from l) with
      | @tup a xs _ qt b =>
        refine ⟨_, rfl, .inr ⟨⟨_, hK ▸ Evl.ex_t S1.ex qt⟩, fun q nq => ?_⟩⟩
        exact lc_tup (K := X.K) (a := a) (xs := xs) (D := q) (Qd := fun H => Q (.ref q) H) (LcP C elt cond k items ys ρe σ Hf1 q) (base q nq) (fun i H _ h => hK ▸ Evl.ex_t (exq h) qt)
          (fun i y H hy h => by
            obtain ⟨d', hd', rd⟩ := b.get' hy
            exact lc_step hl h hd' fun Hf ex => rd.mono ex) (fun H h => lc_fin hl h (by rw [b.length]; exact Nat.le_refl _) f1)
    | _ => cases hd
  · cases e1
theorem pe_lcD (hK : X.K = C.W.K.K) (hc : X.calm = true) (hN : X.N.Nodup) {elt tg iter : Expr} {ifs : List Expr} {scope : Scope} {pos : Pos} {v : Str} {k : Nat} {x y : Den D} {c : Den Bool} (L : LcOk C X scope v k tg elt ifs y c) (hi : PE X iter (tG C lD x)) (hs : notSet iter = true) :
    PE X (.ListComp elt [⟨tg, iter, ifs, 0⟩] scope pos) (tG C lV (lcD x y c k)) :=
  (pe_lc (own := [(v, k)]) hc hN (pi_seq hi) L.blk L.tg L.ifs L.elt (notSet_iter hs)).imp fun σ H Q ⟨Hf, ρ, o, S, e, f⟩ => lcd_core hK S e f
def asgLc (i : Nat) (x : Den RV) : SDen := asgS i x
theorem ps_lcD (hK : X.K = C.W.K.K) (hc : X.calm = true) (hN : X.N.Nodup) {i : Nat} {n : Str} {py spos : Pos} {elt tg iter : Expr} {ifs : List Expr} {scope : Scope} {pos : Pos} {v : Str} {k : Nat} {x y : Den D} {c : Den Bool} (hy : X.N[i]? = some n) (hyl : X.env.scope.names.lookup n = some .local)
    (hsw : swapsWith (.ListComp elt [⟨tg, iter, ifs, 0⟩] scope pos) (some (.Name n py)) spos.line X.env = pure true) (L : LcOk C X scope v k tg elt ifs y c) (hi : PE X iter (tG C lD x)) (hs : notSet iter = true) :
    PS X (.Assign [.Name n py] (.ListComp elt [⟨tg, iter, ifs, 0⟩] scope pos) spos) (tSt C (asgS i (lcD x y c k))) := by
  refine (ps_setLc (own := [(v, k)]) hc hN hy hyl hsw (pi_seq hi) L.blk L.tg L.ifs L.elt (notSet_iter hs)).imp fun E σ H ⟨Hf, ρ, o, S, e, f⟩ => ?_
  -- the end of the assignment as the wish of the comprehension's value
  unfold asgS bS at e
  split at e
  · cases e
  · rename_i c' d' ρ' h
    exact lcd_core hK S h fun Hf1 H1 A dd v S1 ex a b n r => by cases e; exact f σ Hf1 H1 A dd v S1 ex a b n r
  · rename_i r ρ' h
    rw [Option.map_eq_some_iff] at e
    obtain ⟨ρ2, e, rfl⟩ := e
    exact lcd_core (Q := fun u H1 => E.nx (σ.set i (some u)) H1) hK S h fun u Hf1 H1 S1 ex l => f _ Hf1 H1 (storeR_ok S1 l e) ex
/-- over a range -/
def lcR (x : Den D) (elt : Den D) (cond : Den Bool) (k : Nat) : Den RV := bnd x fun d => fun ρ => match d with
  | .int j => if rngOk j then lcEnd elt cond k none (rngL 0 j.toNat) ρ else none
  | _ => none
theorem lcr_core {k : Nat} {x elt : Den D} {cond : Den Bool} {σ : L2.St} {H Hf : Hp} {ρ : Rho} {o : Out RV} {Q : VK} (S : Stt C.W Hf H σ ρ) (e : lcR x elt cond k ρ = some o) (f : Fin C lV σ Hf o Q) :
    tLc (iRng1 (tCons (tG C lD x) tNil)) (gName k) (tIn C lB cond) (tIn C lD elt) [k] σ H Q := by
  refine tG_bnd' S e f fun v H1 Hf1 ρ1 d S1 ex l e1 f1 => ?_
  split at e1
  · rename_i j
    split at e1
    · rename_i hz
      unfold rngOk at hz
      have hz := of_decide_eq_true hz
      cases (show Rp C.W.K Hf1 v (.int j) from l)
      obtain ⟨hn, ys, ρe, e2, rfl⟩ := lcEnd_inv e1
      have hl : k < σ.length := by rw [S1.len]; exact (List.getElem?_eq_some_iff.mp hn).1
      refine ⟨j, rfl, hz.1, hz.2, fun q nq => ?_⟩
      exact lc_range (lo := 0) (n := j.toNat) (D := q) (Qd := fun H => Q (.ref q) H) (LcP C elt cond k (rngL 0 j.toNat) ys ρe σ Hf1 q) ⟨Hf1, ρ1, [], blk_start S1 hn nq, e2⟩
        (fun i H hi h => lc_step hl h (rngL_get hi) fun Hf ex => .int _) (fun H h => lc_fin hl h (Nat.le_of_eq rngL_len) f1)
    · cases e1
  · cases e1
theorem pe_lcR (hc : X.calm = true) (hN : X.N.Nodup) {elt tg a : Expr} {ifs : List Expr} {scope : Scope} {p p' pos : Pos} {v : Str} {k : Nat} {x y : Den D} {c : Den Bool} (L : LcOk C X scope v k tg elt ifs y c) (hgl : Gl X "range") (hm : X.mg "range" = none) (hi : PE X a (tG C lD x)) (hst : notStar a = true) :
    PE X (.ListComp elt [⟨tg, .Call (.Name "range" p) [a] [] p', ifs, 0⟩] scope pos) (tG C lV (lcR x y c k)) :=
  (pe_lc (own := [(v, k)]) hc hN (pi_range1 hgl hm (pa_cons hi pa_nil (star_cons hst)) (star_cons hst)) L.blk L.tg L.ifs L.elt (notSet_iter rfl)).imp fun σ H Q ⟨Hf, ρ, o, S, e, f⟩ => lcr_core S e f
theorem ps_lcR (hc : X.calm = true) (hN : X.N.Nodup) {i : Nat} {n : Str} {py spos : Pos} {elt tg a : Expr} {ifs : List Expr} {scope : Scope} {p p' pos : Pos} {v : Str} {k : Nat} {x y : Den D} {c : Den Bool} (hy : X.N[i]? = some n) (hyl : X.env.scope.names.lookup n = some .local)
    (hsw : swapsWith (.ListComp elt [⟨tg, .Call (.Name "range" p) [a] [] p', ifs, 0⟩] scope pos) (some (.Name n py)) spos.line X.env = pure true) (L : LcOk C X scope v k tg elt ifs y c) (hgl : Gl X "range") (hm : X.mg "range" = none) (hi : PE X a (tG C lD x)) (hst : notStar a = true) :
    PS X (.Assign [.Name n py] (.ListComp elt [⟨tg, .Call (.Name "range" p) [a] [] p', ifs, 0⟩] scope pos) spos) (tSt C (asgS i (lcR x y c k))) := by
  refine (ps_setLc (own := [(v, k)]) hc hN hy hyl hsw (pi_range1 hgl hm (pa_cons hi pa_nil (star_cons hst)) (star_cons hst)) L.blk L.tg L.ifs L.elt (notSet_iter rfl)).imp fun E σ H ⟨Hf, ρ, o, S, e, f⟩ => ?_
  unfold asgS bS at e
  split at e
  · cases e
  · rename_i c' d' ρ' h
    exact lcr_core S h fun Hf1 H1 A dd v S1 ex a b n r => by cases e; exact f σ Hf1 H1 A dd v S1 ex a b n r
  · rename_i r ρ' h
    rw [Option.map_eq_some_iff] at e
    obtain ⟨ρ2, e, rfl⟩ := e
    exact lcr_core (Q := fun u H1 => E.nx (σ.set i (some u)) H1) S h fun u Hf1 H1 S1 ex l => f _ Hf1 H1 (storeR_ok S1 l e) ex
end
end DI
set_option maxRecDepth 100000
set_option maxHeartbeats 4000000
namespace DI
open PySem PySem.Spec PyProof.Rows L2

/-! ### what is walked: a list, a tuple, a text -/
/-- a source as it stands -/
inductive Src (K : PySem.W.Frag) (H : Hp) : V → List V → Prop
  | lst {a : Addr} {xs : List V} : SqL K H a xs → Src K H (.ref a) xs
  | tup {a : Addr} {xs : List V} : SqT K H a xs → Src K H (.ref a) xs
  | str (x : Str) : Src K H (.str x) (x.cps.toList.map fun c => V.str ⟨#[c]⟩)
/-- the object that iter(v) makes, where, and how far it is -/
inductive Sk where
  | lk (a : Addr)
  | tk (a : Addr)
  | sk (x : Str) (u : Tok)
def Sk.it (k : Sk) (h : Heap) (it : Addr) (i : Nat) : Prop := match k with
  | .lk a => h.IsListIter it a i
  | .tk a => h.IsTupleIter it a i
  | .sk x u => h.IsStrIter it (strIterType x) x u i
def Sk.st (k : Sk) (h : Heap) (items : List Value) : Prop := match k with
  | .lk a => h.IsList a items.toArray
  | .tk a => h.IsTuple a items.toArray
  | .sk x _ => items.length = x.cps.size
def Sk.fp : Sk → List Addr
  | .lk a => [a]
  | .tk a => [a]
  | .sk _ _ => []
def Sk.ob : Sk → Obj
  | .lk a => { cls := .type "list_iterator", data := .fields #[.ref a, .int 0 0] }
  | .tk a => { cls := .type "tuple_iterator", data := .fields #[.ref a, .int 0 0] }
  | .sk x u => { cls := .type (strIterType x), data := .fields #[.str x u, .int 0 0] }
def Sk.v : Sk → Value
  | .lk a => .ref a
  | .tk a => .ref a
  | .sk x u => .str x u
/-- the item at place i -/
def Sk.P (k : Sk) (items : List Value) (i : Nat) (v : Value) : Prop := match k with
  | .lk _ => items.toArray[i]? = some v
  | .tk _ => items.toArray[i]? = some v
  | .sk x _ => ∃ c u, x.cps[i]? = some c ∧ v = .str ⟨#[c]⟩ u
theorem Sk.draws {prog : Program} {w : World} {A : Around} (hh : A.handled = none) (k : Sk) (it : Addr) (hne : it ∉ k.fp) (items : List Value) : Draws prog w A it (it :: k.fp) items.length (k.P items) (fun i h => k.it h it i ∧ k.st h items) := by
  cases k with
  | lk a => exact Draws.list hh it a (fun z => hne (by simp [Sk.fp, z])) items.toArray
  | tk a => exact Draws.tuple hh it a (fun z => hne (by simp [Sk.fp, z])) items.toArray
  | sk x t =>
    have D := Draws.text (prog := prog) (w := w) (A := A) hh it x t
    exact { live := fun i h st => D.live i h st.1, frame := fun i h h' st k => ⟨D.frame i h h' st.1 k, st.2⟩,
            item := fun i s Q E hi st hQ => D.item i s Q E (by rw [← st.2]; exact hi) st.1 fun y h' tk p st' sb => hQ y h' tk p ⟨st', st.2⟩ sb,
            done := fun s Q E st hE => D.done s Q E (by rw [← st.2]; exact st.1) hE }
theorem Sk.begins (k : Sk) (items : List Value) : Begins k.v k.ob fun h => k.st h items := by
  cases k with
  | lk a => exact begins_list a items.toArray
  | tk a => exact begins_tuple a items.toArray
  | sk x t =>
    have B := begins_text x t
    exact ⟨fun prog w A E s Q _ h => B.iter prog w A E s Q trivial h, fun h h' z _ => z, rfl⟩
theorem Sk.fresh {k : Sk} {h : Heap} {it : Addr} (e : h.get? it = some k.ob) : k.it h it 0 := by
  cases k with
  | lk a => exact ⟨_, e, rfl, rfl⟩
  | tk a => exact ⟨_, e, rfl, rfl⟩
  | sk x t => exact ⟨_, e, rfl, rfl⟩
theorem Sk.at_ {k : Sk} {h h' : Heap} {it : Addr} {i : Nat} (x : k.it h it i) (hk : ∀ o, h.get? it = some o → h'.get? it = some o) : k.it h' it i := by
  cases k with
  | lk a => exact Heap.IsListIter.at x hk
  | tk a => exact Heap.IsTupleIter.at x hk
  | sk y t => obtain ⟨o, e, r⟩ := x; exact ⟨o, hk o e, r⟩
theorem Sk.obj {k : Sk} {h : Heap} {it : Addr} {i : Nat} (x : k.it h it i) : ∃ o, h.get? it = some o ∧ ∀ v, o.data ≠ .cell v := by
  cases k with
  | lk a => obtain ⟨o, e, c, d⟩ := x; exact ⟨o, e, fun v q => by rw [d] at q; cases q⟩
  | tk a => obtain ⟨o, e, c, d⟩ := x; exact ⟨o, e, fun v q => by rw [d] at q; cases q⟩
  | sk y t => obtain ⟨o, e, c, d⟩ := x; exact ⟨o, e, fun v q => by rw [d] at q; cases q⟩
/-- which source a kind speaks of, in the abstract heap -/
def Sk.src (k : Sk) (K : PySem.W.Frag) (H : Hp) (xs : List V) : Prop := match k with
  | .lk a => SqL K H a xs
  | .tk a => SqT K H a xs
  | .sk x _ => xs = x.cps.toList.map fun c => V.str ⟨#[c]⟩
section
variable {X : Cx} {pins : List (Addr × Obj)} {σ : L2.St} {H : Hp} {s : Shared} {xs : List V} {v : V} {u : Value}
theorem Src.kind (S : Src X.K H v xs) (r : RelV v u) : ∃ k : Sk, u = k.v ∧ k.src X.K H xs := by
  cases S with
  | lst h => cases r; exact ⟨.lk _, rfl, h⟩
  | tup h => cases r; exact ⟨.tk _, rfl, h⟩
  | str x => obtain ⟨t, rfl⟩ := r; exact ⟨.sk x t, rfl, rfl⟩
theorem Sk.stands {k : Sk} (I : Inv X pins σ H s) (h : k.src X.K H xs) : ∃ items : List Value, k.st s.heap items ∧ items.length = xs.length ∧ (∀ b ∈ k.fp, b < s.heap.objs.size) ∧
    ∀ (i : Nat) (y : Value), k.P items i y → ∃ x : V, xs[i]? = some x ∧ RelV x y := by
  have at_ : ∀ {its : List Value}, Vals xs its → ∀ (i : Nat) (y : Value), its.toArray[i]? = some y → ∃ x : V, xs[i]? = some x ∧ RelV x y := fun {its} rv i y e => by
    have e' : its[i]? = some y := by simpa using e
    have hi : i < xs.length := by
      rw [rv.length]
      exact (List.getElem?_eq_some_iff.mp e').1
    obtain ⟨w, h1, h2⟩ := rv.get (List.getElem?_eq_getElem hi)
    rw [e'] at h1
    cases h1
    exact ⟨_, List.getElem?_eq_getElem hi, h2⟩
  cases k with
  | lk a =>
    obtain ⟨its, rv, p, _⟩ := I.list h
    exact ⟨its, p.isList, rv.length.symm, fun b hb => by rw [List.mem_singleton.mp hb]; exact p.lt, at_ rv⟩
  | tk a =>
    obtain ⟨its, rv, p, _⟩ := I.tuple h
    obtain ⟨o, e, _⟩ := id p
    exact ⟨its, p, rv.length.symm, fun b hb => by rw [List.mem_singleton.mp hb]; exact Heap.lt_size e, at_ rv⟩
  | sk x t =>
    have h' : xs = x.cps.toList.map fun c => V.str ⟨#[c]⟩ := h
    subst h'
    refine ⟨List.replicate x.cps.size .none, (show (List.replicate x.cps.size Value.none).length = x.cps.size by simp), by simp, (fun b hb => by cases hb), fun i y p => ?_⟩
    obtain ⟨c, w, e, rfl⟩ := p
    refine ⟨.str ⟨#[c]⟩, ?_, ⟨w, rfl⟩⟩
    rw [List.getElem?_map, Array.getElem?_toList, e]
    rfl
end

/-! ### new pairs at each turn -/
/-- (what the i-th pair holds) -/
def Itp (Is : Nat → Hp → List V → Prop) (n : Nat) (G : Hp → Prop) : It :=
  ⟨fun i H => i < n ∧ G H, fun i H v H' => ∃ T vs, v = .ref T ∧ H T = none ∧ H' = upd H T (.tup vs) ∧ Is i H vs, fun i H => i = n ∧ G H⟩
theorem turn_walk {P : Program} {w : World} {K : PySem.W.Frag} {elts : List Expr} {kk : Nat} {tpos : Pos} {Is : Nat → Hp → List V → Prop} {n : Nat} {G : Hp → Prop} {priv wr : List Addr} {it : Addr} {tn : Nat → Heap → Prop} (mem : it ∈ priv) (hwr : ∀ b ∈ wr, b ∈ priv)
    (obj : ∀ i h, tn i h → ∀ b ∈ priv, ∃ o, h.get? b = some o ∧ ∀ v, o.data ≠ .cell v) (keep : ∀ i h h', tn i h → (∀ b ∈ priv, ∀ o, h.get? b = some o → h'.get? b = some o) → tn i h')
    (self : ∀ (A : Around) (i : Nat) (s : Shared) (Q : Value → Shared → Prop) (E : Value → Shared → Prop), tn i s.heap → Q (.ref it) s → wpAny (model P w) A (pyIter (.ref it)) Q E s)
    (walk : ∀ (X : Cx), X.prog = P → X.w = w → X.K = K → X.calm = true → ∀ (i : Nat) (pins : List (Addr × Obj)) (s : Shared) (σ : L2.St) (H : Hp), Inv X pins σ H s → (∀ b ∈ priv, H b = none) → tn i s.heap → G H →
      ∃ fp Pt St Mid, WalksT P w X.A it fp wr n Pt St Mid ∧ St i s.heap ∧ (∀ vals, Pt i vals → ∃ vs, Vals vs vals.toList ∧ vs.length ≤ sizeLine ∧ Is i H vs) ∧ ∀ h, St (i + 1) h → tn (i + 1) h) :
    Turn P w K (.Tuple elts kk tpos) (Itp Is n G) priv it tn where
  mem := mem
  obj := obj
  keep := keep
  item := by
    intro X hP hw hK hc i pins s σ H E I hf st hg
    obtain ⟨fp, Pt, St, Mid, W, hst, hv, hn⟩ := walk X hP hw hK hc i pins s σ H I (fun b hb => (hf b hb).1) st hg.2
    refine W.item i s _ E hg.1 hst fun T vals h' tk p hT hI hm hk => ?_
    refine ⟨_, rfl, W.go elts kk tpos i T { s with heap := h', toks := tk } _ E hm fun h'' st' hk' => ?_⟩
    obtain ⟨vs, rv, hz, is⟩ := hv vals p
    have hI' : h''.IsTuple T vals := hI.at fun o e => hk' T o (W.apart i T h' hm) e
    have nT : H T = none := I.hok.fresh hT
    have new : ObjOk X.prog X.w (upd H T (.tup vs)) h'' T (.tup vs) := ⟨hz, vals.toList, rv, (show h''.IsTuple T vals.toList.toArray by simpa using hI')⟩
    have I1 : Inv X pins σ (upd H T (.tup vs)) { s with heap := h'', toks := tk } :=
      I.turnedNew (ch := priv) (fun b ob hb q => hk' b ob (fun z => hb (hwr b z)) (hk b ob (fun z => hb (hwr b z)) q)) hf hT new
    refine ⟨.ref T, _, I1, rfl, ⟨T, vs, rfl, nT, rfl, is⟩, hn _ st', fun b hb => ?_⟩
    have hb' : b < s.heap.objs.size := by
      obtain ⟨o, e, _⟩ := obj i _ st b hb
      exact Heap.lt_size e
    rw [upd_ne (Nat.ne_of_lt (Nat.lt_of_lt_of_le hb' hT))]
    exact (hf b hb).1
  done := by
    intro X hP hw hK hc i pins s σ H E I hf st hg
    obtain ⟨rfl, g⟩ := hg
    obtain ⟨fp, Pt, St, Mid, W, hst, hv, hn⟩ := walk X hP hw hK hc i pins s σ H I (fun b hb => (hf b hb).1) st g
    exact W.done s _ E hst fun h' tk hk => ⟨rfl, I.turnedL (t' := tk) (ch := priv) (fun c o hb q => hk c o (fun z => hb (hwr c z)) q) hf⟩
  self := self
section
variable {X : Cx}
def isEnumV (k0 : Int) (xs : List V) : Nat → Hp → List V → Prop := fun i _ vs => ∃ x, xs[i]? = some x ∧ vs = [.int (k0 + (i : Int)), x]
theorem turn_enumS {P : Program} {w : World} {K : PySem.W.Frag} {elts : List Expr} {kk : Nat} {tpos : Pos} (k : Sk) (k0 : Int) (e it : Addr) (xs : List V) (hne : e ≠ it) (he : e ∉ k.fp) (hit : it ∉ k.fp) :
    Turn P w K (.Tuple elts kk tpos) (Itp (isEnumV k0 xs) xs.length fun H => k.src K H xs) [e, it] e (fun i h => (∃ old, IsEnum h e it (k0 + (i : Int)) old) ∧ k.it h it i) := by
  refine turn_walk (wr := [e, it]) (by simp) (fun b hb => hb) (fun i h st b hb => ?_) (fun i h h' st k => ?_) (fun A i s Q E st h => ?_) fun X hP hw hK hc i pins s σ H I hfr st g => ?_
  · obtain ⟨⟨old, he⟩, hi⟩ := st
    have e' : b = e ∨ b = it := by simpa using hb
    rcases e' with z | z
    · rw [z]; exact ⟨_, he, fun v q => nomatch q⟩
    · rw [z]; exact Sk.obj hi
  · obtain ⟨⟨old, he⟩, hi⟩ := st
    exact ⟨⟨old, k e (by simp) _ he⟩, Sk.at_ hi fun o q => k it (by simp) o q⟩
  · obtain ⟨⟨old, he⟩, _⟩ := st
    exact wpAny_pyIter_enum he h
  · subst hP hw hK
    obtain ⟨items, hs, hl, _, hv⟩ := Sk.stands I g
    refine ⟨_, _, _, _, hl ▸ WalksT.enumFrom k0 (k.draws (show X.A.in1.handled = none from I.ok.hd hc) it hit items) e hne (by simp [hne, he]) (by simp), ⟨st.1, st.2, hs⟩, fun vals p => ?_, fun h st' => ⟨st'.1, st'.2.1⟩⟩
    obtain ⟨t, y, py, rfl⟩ := p
    obtain ⟨x, hx, rx⟩ := hv i y py
    exact ⟨[.int (k0 + (i : Int)), x], .cons ⟨t, rfl⟩ (.cons rx .nil), by show 2 ≤ sizeLine; decide, x, hx, rfl⟩
def isZipV (xs ys : List V) : Nat → Hp → List V → Prop := fun i _ vs => ∃ x y, xs[i]? = some x ∧ ys[i]? = some y ∧ vs = [x, y]
theorem turn_zipS {P : Program} {w : World} {K : PySem.W.Frag} {elts : List Expr} {kk : Nat} {tpos : Pos} (k1 k2 : Sk) (z TI TO i1 i2 : Addr) (xs ys : List V) (D : ZipSep2 z TI TO i1 i2 (i1 :: k1.fp) (i2 :: k2.fp)) (h1 : i1 ∉ k1.fp) (h2 : i2 ∉ k2.fp) :
    Turn P w K (.Tuple elts kk tpos) (Itp (isZipV xs ys) (min xs.length ys.length) fun H => k1.src K H xs ∧ k2.src K H ys) [z, TI, TO, i1, i2] z
      (fun i h => IsZip h z TI TO .none ∧ IsTupOf2 h TI (.ref i1) (.ref i2) ∧ (∃ x y, IsTupOf2 h TO x y) ∧ k1.it h i1 i ∧ k2.it h i2 i) := by
  refine turn_walk (wr := [z, TO, i1, i2]) (by simp) (fun b hb => ?_) (fun i h st c hc => ?_) (fun i h h' st k => ?_) (fun A i s Q E st h => wpAny_pyIter_zip st.1 h) fun X hP hw hK hc i pins s σ H I hfr st g => ?_
  · have e' : b = z ∨ b = TO ∨ b = i1 ∨ b = i2 := by simpa using hb
    rcases e' with q | q | q | q <;> simp [q]
  · obtain ⟨hz, hTI, ⟨x, y, hTO⟩, q1, q2⟩ := st
    have e' : c = z ∨ c = TI ∨ c = TO ∨ c = i1 ∨ c = i2 := by simpa using hc
    rcases e' with q | q | q | q | q
    · rw [q]; exact ⟨_, hz, fun v q => nomatch q⟩
    · rw [q]; exact ⟨_, hTI, fun v q => nomatch q⟩
    · rw [q]; exact ⟨_, hTO, fun v q => nomatch q⟩
    · rw [q]; exact Sk.obj q1
    · rw [q]; exact Sk.obj q2
  · obtain ⟨hz, hTI, ⟨x, y, hTO⟩, q1, q2⟩ := st
    exact ⟨k z (by simp) _ hz, k TI (by simp) _ hTI, ⟨x, y, k TO (by simp) _ hTO⟩, Sk.at_ q1 fun o q => k i1 (by simp) o q, Sk.at_ q2 fun o q => k i2 (by simp) o q⟩
  · subst hP hw hK
    obtain ⟨it1, s1, l1, _, v1⟩ := Sk.stands I g.1
    obtain ⟨it2, s2, l2, _, v2⟩ := Sk.stands I g.2
    have hd : X.A.in1.handled = none := I.ok.hd hc
    refine ⟨_, _, _, _, (show min it1.length it2.length = min xs.length ys.length by rw [l1, l2]) ▸ WalksT.zipD2 D (k1.draws hd i1 h1 it1) (k2.draws hd i2 h2 it2), ⟨st.1, st.2.1, st.2.2.1, ⟨st.2.2.2.1, s1⟩, st.2.2.2.2, s2⟩, fun vals p => ?_, fun h st' => ⟨st'.1, st'.2.1, st'.2.2.1, st'.2.2.2.1.1, st'.2.2.2.2.1⟩⟩
    obtain ⟨a, b, p1, p2, rfl⟩ := p
    obtain ⟨x, hx, rx⟩ := v1 i a p1
    obtain ⟨y, hy, ry⟩ := v2 i b p2
    exact ⟨[x, y], .cons rx (.cons ry .nil), by show 2 ≤ sizeLine; decide, x, y, hx, hy, rfl⟩
/-- enumerate(v) -/
theorem meets_enum1 {v : Value} {o : Obj} {H : Heap → Prop} (B : Begins v o H) :
    Meets (Builtin.«enumerate.__new__» ⟨[.type "enumerate", v], []⟩) (fun _ R s => H s.heap ∧
      R (.ok (.ret (.ref (s.heap.push o).objs.size))) { s with heap := (s.heap.push o).push { cls := .type "enumerate", data := .fields #[.none, .bool false, .ref s.heap.objs.size, rawInt 0, .none, .none] } }) :=
  .of_wp fun prog w A R s h => by
    obtain ⟨hp, g, d, tk, os⟩ := s
    obtain ⟨h1, h⟩ := h
    have hsub := sub_enumerate
    have q1 : ∀ {A' : Around} {E : Value → Shared → Prop} {Q : Value → Shared → Prop}, Q (.ref hp.objs.size) ⟨hp.push o, g, d, tk, os⟩ → wpAny (model prog w) A' (pyIter v) Q E ⟨hp, g, d, tk, os⟩ := fun q => B.iter prog w _ _ ⟨hp, g, d, tk, os⟩ _ h1 q
    wp_walk using q1
    refine wpAny_stack_any fun st => wpAny_pure ?_
    split
    · rename_i c _ _ _ _ _
      cases (c == Value.type "enumerate") <;> (wp_walk using q1; exact ⟨_, rfl, h⟩)
    · wp_walk using q1
      exact ⟨_, rfl, h⟩
theorem enum_begins1 {prog : Program} {w : World} {A : Around} {E : Value → Shared → Prop} {s : Shared} {v : Value} {o : Obj} {H : Heap → Prop} {Q : Value → Shared → Prop} (B : Begins v o H) (h1 : H s.heap)
    (h : ∀ h', IsEnum h' (s.heap.objs.size + 1) s.heap.objs.size 0 .none → h'.get? s.heap.objs.size = some o → (∀ b o, s.heap.get? b = some o → h'.get? b = some o) → Q (.ref (s.heap.objs.size + 1)) { s with heap := h' }) :
    wpAny (model prog w) A (call (.type "enumerate") [v]) Q E s := by
  refine callType_new F.called_enumerate (by decide) (F.typeCall_enumerate_1 _) (F.newCall_enumerate_1 _) (fun obj => F.args_object_init_2 obj _) F.entry_enumerate_new (meets_enum1 B) ⟨h1, ?_⟩
  have hz : (s.heap.push o).objs.size = s.heap.objs.size + 1 := Heap.size_push ..
  show _ ∧ _
  rw [hz]
  have he : IsEnum ((s.heap.push o).push { cls := .type "enumerate", data := .fields #[.none, .bool false, .ref s.heap.objs.size, rawInt 0, .none, .none] }) (s.heap.objs.size + 1) s.heap.objs.size 0 .none := by
    have := Heap.get?_push_size (s.heap.push o) (o := { cls := .type "enumerate", data := .fields #[.none, .bool false, .ref s.heap.objs.size, rawInt 0, .none, .none] }) rfl
    rw [hz] at this; exact this
  exact ⟨⟨_, he, rfl⟩, h _ he (Heap.get?_push_of_some _ (Heap.get?_push_size _ B.free)) fun b o x => Heap.get?_push_of_some _ (Heap.get?_push_of_some _ x)⟩
end
end DI
set_option maxRecDepth 100000
set_option maxHeartbeats 4000000
namespace DI
open PySem PySem.Spec PyProof.Rows L2

/-- a source, as the abstract heap has it -/
inductive Sx where
  | lx (a : Addr)
  | tx (a : Addr)
  | sx (x : Str)
def signsV (x : Str) : List V := x.cps.toList.map fun c => V.str ⟨#[c]⟩
def Sx.v : Sx → V
  | .lx a => .ref a
  | .tx a => .ref a
  | .sx x => .str x
def Sx.src (k : Sx) (K : PySem.W.Frag) (H : Hp) (xs : List V) : Prop := match k with
  | .lx a => SqL K H a xs
  | .tx a => SqT K H a xs
  | .sx x => xs = signsV x
theorem Sx.kind {k : Sx} {u : Value} (r : RelV k.v u) : ∃ q : Sk, u = q.v ∧ ∀ K H xs, q.src K H xs = k.src K H xs := by
  cases k with
  | lx a => cases r; exact ⟨.lk a, rfl, fun _ _ _ => rfl⟩
  | tx a => cases r; exact ⟨.tk a, rfl, fun _ _ _ => rfl⟩
  | sx x => obtain ⟨t, rfl⟩ := r; exact ⟨.sk x t, rfl, fun _ _ _ => rfl⟩
section
variable {X : Cx}
/-- over a list, a tuple, a text -/
theorem pi_any {tg l : Expr} {tl : TE} (hl : PE X l tl) : PI X tg l (fun σ H R => tl σ H fun x H1 => (∃ a, x = .ref a ∧ (((∃ xs, SqL X.K H1 a xs) ∧ R (Itl X.K a) H1) ∨ ((∃ xs, SqT X.K H1 a xs) ∧ R (Itt X.K a) H1))) ∨ ∃ z, x = .str z ∧ R (Its z) H1) := by
  constructor
  intro pins s σ H R I h
  refine thn (hl.run pins s σ H _ I h) fun v s1 ⟨x, H1, I1, r1, q1⟩ => ?_
  rcases q1 with ⟨a, e, q1⟩ | ⟨z, e, q⟩
  · subst e
    cases r1
    have mine : ∀ b ∈ [s1.heap.objs.size], FpOk X pins H1 b := fun b hb => by
      rw [List.mem_singleton.mp hb]
      exact I1.fpOk (Nat.le_refl _) (I1.hok.fresh (Nat.le_refl _))
    have still : ∀ ob : Obj, Inv X pins σ H1 { s1 with heap := s1.heap.push ob } := fun ob => I1.kept (t' := s1.toks) fun b o e => Heap.get?_push_of_some _ e
    rcases q1 with ⟨⟨xs, hq⟩, q⟩ | ⟨⟨xs, hq⟩, q⟩
    · obtain ⟨its, rv, p, hz⟩ := I1.list hq
      exact wpAny_pyIter_list p.isList ⟨s1.heap.objs.size, [s1.heap.objs.size], _, _, H1, rfl, still _, turn_list a _, ⟨_, Heap.get?_push_size _ rfl, rfl, rfl⟩, mine, q⟩
    · obtain ⟨its, rv, p, hz⟩ := I1.tuple hq
      exact wpAny_pyIter_tuple (show s1.heap.IsTuple a its.toArray from p) ⟨s1.heap.objs.size, [s1.heap.objs.size], _, _, H1, rfl, still _, turn_tuple a _, ⟨_, Heap.get?_push_size _ rfl, rfl, rfl⟩, mine, q⟩
  · subst e
    obtain ⟨t, rfl⟩ := r1
    cases ha : z.cps.all (· < 128)
    · exact wpAny_pyIter_wide ha (pi_one (tk := s1.toks) I1 _ (turn_str _ z t "str_iterator" (.inr rfl)) ⟨_, Heap.get?_push_size _ rfl, rfl, rfl⟩ q)
    · exact wpAny_pyIter_ascii ha (pi_one (tk := s1.toks) I1 _ (turn_str _ z t "str_ascii_iterator" (.inl rfl)) ⟨_, Heap.get?_push_size _ rfl, rfl, rfl⟩ q)
theorem pi_enumS {l : Expr} {ta : TA} {p pos tpos : Pos} {elts : List Expr} {kk : Nat} (hg : Gl X "enumerate") (hm : X.mg "enumerate" = none) (ha : PA X [l] ta) (hs : notStar l = true) :
    PI X (.Tuple elts kk tpos) (.Call (.Name "enumerate" p) [l] [] pos) (fun σ H R => ta σ H fun vs H1 => ∃ (k : Sx) (xs : List V), vs = [k.v] ∧ k.src X.K H1 xs ∧ R (Itp (isEnumV 0 xs) xs.length fun H => k.src X.K H xs) H1) := by
  constructor
  intro pins s σ H R I h
  refine Call_ (ld_blt I hg hm boot_enumerate (PyProof.Rows.callWith_type1 (thn (ha.run pos pins s σ H _ I h) fun us s1 ⟨vs, H1, I1, r1, q1⟩ => ?_) (star_cons hs) rfl))
  obtain ⟨k, xs, rfl, hq, q⟩ := q1
  cases r1 with
  | cons r rr =>
    cases rr with
    | nil =>
      obtain ⟨sk, rfl, same⟩ := Sx.kind r
      have hq' : sk.src X.K H1 xs := by rw [same]; exact hq
      obtain ⟨items, hst, hlen, hlt, _⟩ := Sk.stands I1 hq'
      refine enum_begins1 (sk.begins items) hst fun h' he hit hk => wpAny_pyIter_enum he ?_
      have I2 : Inv X pins σ H1 { s1 with heap := h' } := I1.kept (t' := s1.toks) hk
      have nin : ∀ b, s1.heap.objs.size ≤ b → b ∉ sk.fp := fun b hb hf => absurd (hlt b hf) (Nat.not_lt.mpr hb)
      have T := turn_enumS (P := X.prog) (w := X.w) (K := X.K) (elts := elts) (kk := kk) (tpos := tpos) sk 0 (s1.heap.objs.size + 1) s1.heap.objs.size xs (Nat.succ_ne_self _) (nin _ (Nat.le_succ _)) (nin _ (Nat.le_refl _))
      have eG : (fun H => sk.src X.K H xs) = fun H => k.src X.K H xs := funext fun H => same _ _ _
      rw [eG] at T
      refine ⟨s1.heap.objs.size + 1, [s1.heap.objs.size + 1, s1.heap.objs.size], _, _, H1, rfl, I2, T, ⟨⟨.none, he⟩, Sk.fresh hit⟩, fun b hb => ?_, q⟩
      have e' : b = s1.heap.objs.size + 1 ∨ b = s1.heap.objs.size := by simpa using hb
      have hle : s1.heap.objs.size ≤ b := by
        rcases e' with z | z <;> rw [z] <;> first | exact Nat.le_refl _ | exact Nat.le_add_right _ _
      exact I1.fpOk hle (I1.hok.fresh hle)
theorem pi_zipS {l m : Expr} {ta : TA} {p pos tpos : Pos} {elts : List Expr} {kk : Nat} (hg : Gl X "zip") (hm : X.mg "zip" = none) (ha : PA X [l, m] ta) (hs : notStar l = true) (hs2 : notStar m = true) :
    PI X (.Tuple elts kk tpos) (.Call (.Name "zip" p) [l, m] [] pos) (fun σ H R => ta σ H fun vs H1 => ∃ (k k2 : Sx) (xs ys : List V), vs = [k.v, k2.v] ∧ k.src X.K H1 xs ∧ k2.src X.K H1 ys ∧ R (Itp (isZipV xs ys) (min xs.length ys.length) fun H => k.src X.K H xs ∧ k2.src X.K H ys) H1) := by
  constructor
  intro pins s σ H R I h
  refine Call_ (ld_blt I hg hm PyProof.Rows.boot_zip (PyProof.Rows.callWith_type1 (thn (ha.run pos pins s σ H _ I h) fun us s1 ⟨vs, H1, I1, r1, q1⟩ => ?_) (star_cons hs) (star_any (by simp [hs2]))))
  obtain ⟨k, k2, xs, ys, rfl, hq, hq2, q⟩ := q1
  cases r1 with
  | cons r rr =>
    cases rr with
    | cons r2 rr =>
      cases rr
      obtain ⟨a, rfl, same⟩ := Sx.kind r
      obtain ⟨b, rfl, same2⟩ := Sx.kind r2
      have hq' : a.src X.K H1 xs := by rw [same]; exact hq
      have hq2' : b.src X.K H1 ys := by rw [same2]; exact hq2
      obtain ⟨it1, hst, _, hlt, _⟩ := Sk.stands I1 hq'
      obtain ⟨it2, hst2, _, hlt2, _⟩ := Sk.stands I1 hq2'
      refine zip_begins2 (a.begins it1) (b.begins it2) hst hst2 fun h' hz hTI hTO h1 h2 hsz hk => wpAny_pyIter_zip hz ?_
      have I2 : Inv X pins σ H1 { s1 with heap := h' } := I1.kept (t' := s1.toks) hk
      have n1 : ∀ c, s1.heap.objs.size ≤ c → c ∉ a.fp := fun c hc hf => absurd (hlt c hf) (Nat.not_lt.mpr hc)
      have n2 : ∀ c, s1.heap.objs.size ≤ c → c ∉ b.fp := fun c hc hf => absurd (hlt2 c hf) (Nat.not_lt.mpr hc)
      have T := turn_zipS (P := X.prog) (w := X.w) (K := X.K) (elts := elts) (kk := kk) (tpos := tpos) a b (s1.heap.objs.size + 4) (s1.heap.objs.size + 2) (s1.heap.objs.size + 3) s1.heap.objs.size (s1.heap.objs.size + 1) xs ys (zip_sep2 hlt hlt2) (n1 _ (Nat.le_refl _)) (n2 _ (Nat.le_succ _))
      have eG : (fun H => a.src X.K H xs ∧ b.src X.K H ys) = fun H => k.src X.K H xs ∧ k2.src X.K H ys := funext fun H => by rw [same, same2]
      rw [eG] at T
      refine ⟨s1.heap.objs.size + 4, [s1.heap.objs.size + 4, s1.heap.objs.size + 2, s1.heap.objs.size + 3, s1.heap.objs.size, s1.heap.objs.size + 1], _, _, H1, rfl, I2, T, ⟨hz, hTI, ⟨_, _, hTO⟩, Sk.fresh h1, Sk.fresh h2⟩, fun c hc => ?_, q⟩
      have e' : c = s1.heap.objs.size + 4 ∨ c = s1.heap.objs.size + 2 ∨ c = s1.heap.objs.size + 3 ∨ c = s1.heap.objs.size ∨ c = s1.heap.objs.size + 1 := by simpa using hc
      have hle : s1.heap.objs.size ≤ c := by
        rcases e' with z | z | z | z | z <;> rw [z] <;> first | exact Nat.le_refl _ | exact Nat.le_add_right _ _
      exact I1.fpOk hle (I1.hok.fresh hle)
end

/-! ### what an iterator gives, as plain data -/
structure Feeds (K : Kc) (J : It) (Hf : Hp) (ds : List D) : Prop where
  go : ∀ i H, Ex Hf H → i < ds.length → J.go i H
  stop : ∀ H, Ex Hf H → J.stop ds.length H
  yld : ∀ i H x H' d, Ex Hf H → J.yld i H x H' → ds[i]? = some d → (H' = H ∧ Rp K Hf x d) ∨ ∃ T vs es, x = .ref T ∧ H T = none ∧ H' = upd H T (.tup vs) ∧ d = .tup es ∧ RpA K Hf vs es
def lF : Lie (List D) It := fun W Hf _ _ _ ds J => Feeds W.K J Hf ds
abbrev tF (C : Ck) (x : Den (List D)) : TI := tG C lF x
def signsD (x : Str) : List D := x.cps.toList.map fun c => D.str ⟨#[c]⟩
def itemsI : D → Option (List D)
  | .lst ds => some ds
  | .fls ds => some ds
  | .tup ds => some ds
  | .str x => some (signsD x)
  | _ => none
section
variable {K : Kc} {Hf : Hp} {v : V} {d : D} {ds : List D}
theorem signs_rp (x : Str) : RpA K Hf (signsV x) (signsD x) := by
  unfold signsV signsD
  induction x.cps.toList with
  | nil => exact .nil
  | cons c r ih => exact .cons (.str _) ih
/-- plain data that can be walked -/
theorem Rp.src (r : Rp K Hf v d) (e : itemsI d = some ds) : ∃ (k : Sx) (xs : List V), v = k.v ∧ (∀ H, Ex Hf H → k.src K.K H xs) ∧ RpA K Hf xs ds := by
  cases d with
  | lst es => cases e; cases r with | lst a b => exact ⟨.lx _, _, rfl, fun H ex => .inl (.inl (ex _ _ a)), b⟩
  | fls es => cases e; cases r with | fls a b => exact ⟨.lx _, _, rfl, fun H ex => Evl.ex_l ex a, b⟩
  | tup es => cases e; cases r with | tup a b => exact ⟨.tx _, _, rfl, fun H ex => Evl.ex_t ex a, b⟩
  | str x => cases e; cases r; exact ⟨.sx x, _, rfl, fun H ex => rfl, signs_rp x⟩
  | _ => cases e
theorem feeds_seq {k : Sx} {xs : List V} (h : ∀ H, Ex Hf H → k.src K.K H xs) (r : RpA K Hf xs ds) : ∃ J, Feeds K J Hf ds ∧ (match k with | .lx a => J = Itl K.K a | .tx a => J = Itt K.K a | .sx x => J = Its x) := by
  have at_ : ∀ {i : Nat} {x : V} {d : D}, xs[i]? = some x → ds[i]? = some d → Rp K Hf x d := fun {i x d} e1 e2 => by
    obtain ⟨w, a, b⟩ := r.get e2
    rw [e1] at a
    cases a
    exact b
  cases k with
  | lx a =>
    refine ⟨Itl K.K a, ⟨fun i H ex hi => ⟨xs, xs[i]'(by rw [r.length]; exact hi), h H ex, List.getElem?_eq_getElem _⟩, fun H ex => ⟨xs, h H ex, Nat.le_of_eq r.length⟩, fun i H x H' d ex y e => ?_⟩, rfl⟩
    obtain ⟨rfl, y⟩ := y
    exact .inl ⟨rfl, at_ (y xs (h _ ex)) e⟩
  | tx a =>
    refine ⟨Itt K.K a, ⟨fun i H ex hi => ⟨xs, xs[i]'(by rw [r.length]; exact hi), h H ex, List.getElem?_eq_getElem _⟩, fun H ex => ⟨xs, h H ex, Nat.le_of_eq r.length⟩, fun i H x H' d ex y e => ?_⟩, rfl⟩
    obtain ⟨rfl, y⟩ := y
    exact .inl ⟨rfl, at_ (y xs (h _ ex)) e⟩
  | sx x =>
    have hx : xs = signsV x := h Hf (Evl.Ex.refl _)
    subst hx
    have hl : x.cps.size = ds.length := by
      rw [← r.length]
      simp [signsV]
    refine ⟨Its x, ⟨fun i H ex hi => (by rw [hl]; exact hi : i < x.cps.size), fun H ex => Nat.le_of_eq hl, fun i H y H' d ex q e => ?_⟩, rfl⟩
    obtain ⟨rfl, c, hc, rfl⟩ := q
    refine .inl ⟨rfl, at_ (i := i) ?_ e⟩
    unfold signsV
    rw [List.getElem?_map, Array.getElem?_toList, hc]
    rfl
def enumD (k0 : Int) (ds : List D) : List D := ds.mapIdx fun i d => .tup [.int (k0 + (i : Int)), d]
def zipD (ds es : List D) : List D := List.zipWith (fun a b => D.tup [a, b]) ds es
theorem feeds_enum {k : Sx} {xs : List V} {k0 : Int} (h : ∀ H, Ex Hf H → k.src K.K H xs) (r : RpA K Hf xs ds) : Feeds K (Itp (isEnumV k0 xs) xs.length fun H => k.src K.K H xs) Hf (enumD k0 ds) := by
  have hl : (enumD k0 ds).length = xs.length := by rw [r.length]; simp [enumD]
  refine ⟨fun i H ex hi => ⟨by rw [← hl]; exact hi, h H ex⟩, fun H ex => ⟨hl, h H ex⟩, fun i H x H' d ex y e => ?_⟩
  obtain ⟨T, vs, rfl, nT, rfl, x, hx, rfl⟩ := y
  have e' : ds[i]?.map (fun d => D.tup [.int (k0 + (i : Int)), d]) = some d := by
    unfold enumD at e
    rw [List.getElem?_mapIdx] at e
    exact e
  rw [Option.map_eq_some_iff] at e'
  obtain ⟨d', e1, rfl⟩ := e'
  obtain ⟨w, a, b⟩ := r.get e1
  rw [hx] at a
  cases a
  exact .inr ⟨T, _, _, rfl, nT, rfl, rfl, .cons (.int _) (.cons b .nil)⟩
theorem feeds_zip {k k2 : Sx} {xs ys : List V} {es : List D} (h : ∀ H, Ex Hf H → k.src K.K H xs) (h2 : ∀ H, Ex Hf H → k2.src K.K H ys) (r : RpA K Hf xs ds) (r2 : RpA K Hf ys es) : Feeds K (Itp (isZipV xs ys) (min xs.length ys.length) fun H => k.src K.K H xs ∧ k2.src K.K H ys) Hf (zipD ds es) := by
  have hl : (zipD ds es).length = min xs.length ys.length := by rw [r.length, r2.length]; simp [zipD]
  refine ⟨fun i H ex hi => ⟨by rw [← hl]; exact hi, h H ex, h2 H ex⟩, fun H ex => ⟨hl, h H ex, h2 H ex⟩, fun i H x H' d ex y e => ?_⟩
  obtain ⟨T, vs, rfl, nT, rfl, x, y, hx, hy, rfl⟩ := y
  unfold zipD at e
  rw [List.getElem?_zipWith] at e
  cases e1 : ds[i]? with
  | none => rw [e1] at e; cases e
  | some d1 =>
    cases e2 : es[i]? with
    | none => rw [e1, e2] at e; cases e
    | some d2 =>
      rw [e1, e2] at e
      cases e
      obtain ⟨w, a, b⟩ := r.get e1
      rw [hx] at a
      cases a
      obtain ⟨w2, a2, b2⟩ := r2.get e2
      rw [hy] at a2
      cases a2
      exact .inr ⟨T, _, _, rfl, nT, rfl, rfl, .cons b (.cons b2 .nil)⟩
theorem feeds_rng {lo : Int} {n : Nat} : Feeds K (Itr lo n) Hf (rngL lo n) := by
  refine ⟨fun i H ex hi => (by rw [rngL_len] at hi; exact hi : i < n), fun H ex => Nat.le_of_eq rngL_len.symm, fun i H x H' d ex y e => ?_⟩
  obtain ⟨rfl, rfl⟩ := y
  have hi : i < n := by
    have := (List.getElem?_eq_some_iff.mp e).1
    rw [rngL_len] at this
    exact this
  rw [rngL_get hi] at e
  cases e
  exact .inl ⟨rfl, .int _⟩
end
section
variable {C : Ck} {X : Cx}
/-- which things a loop goes over -/
def optF (o : Option (List D)) : Den (List D) := fun ρ => o.map fun r => .ok r ρ
def itemsF (x : Den D) : Den (List D) := bnd x fun d => optF (itemsI d)
def enumF (k0 : Int) (x : Den D) : Den (List D) := bnd x fun d => optF ((itemsI d).map (enumD k0))
def zipI (d e : D) : Option (List D) := match itemsI d, itemsI e with
  | some ds, some es => some (zipD ds es)
  | _, _ => none
def zipF (x y : Den D) : Den (List D) := bnd x fun d => bnd y fun e => optF (zipI d e)
def rngF1 (x : Den D) : Den (List D) := bnd x fun d => match d with
  | .int j => if rngOk j then ret (rngL 0 j.toNat) else stuck
  | _ => stuck
def rngF2 (x y : Den D) : Den (List D) := bnd x fun d1 => bnd y fun d2 => match d1, d2 with
  | .int i, .int j => if rngOk i && rngOk j then ret (rngL i (j - i).toNat) else stuck
  | _, _ => stuck
theorem _root_.L2.PI.imp {tg iter : Expr} {t t' : TI} (h : PI X tg iter t) (k : ∀ σ H R, t' σ H R → t σ H R) : PI X tg iter t' := ⟨fun pins s σ H R I hq => h.run pins s σ H R I (k σ H R hq)⟩
theorem pi_itemsF (hK : X.K = C.W.K.K) {tg l : Expr} {x : Den D} (hl : PE X l (tG C lD x)) : PI X tg l (tF C (itemsF x)) := by
  refine (pi_any hl).imp fun σ H R ⟨Hf, ρ, o, S, e, f⟩ => ?_
  refine tG_bnd' S e f fun v H1 Hf1 ρ1 d S1 ex l e1 f1 => ?_
  unfold optF at e1
  rw [Option.map_eq_some_iff] at e1
  obtain ⟨ds, hd, rfl⟩ := e1
  obtain ⟨k, xs, rfl, hs, ra⟩ := Rp.src l hd
  obtain ⟨J, F, hJ⟩ := feeds_seq hs ra
  have fin : R J H1 := f1 J Hf1 H1 S1 (Evl.Ex.refl _) F
  cases k with
  | lx a => subst hJ; exact .inl ⟨a, rfl, .inl ⟨⟨xs, hK ▸ hs _ S1.ex⟩, by rw [hK]; exact fin⟩⟩
  | tx a => subst hJ; exact .inl ⟨a, rfl, .inr ⟨⟨xs, hK ▸ hs _ S1.ex⟩, by rw [hK]; exact fin⟩⟩
  | sx z => subst hJ; exact .inr ⟨z, rfl, fin⟩
theorem pi_enumF (hK : X.K = C.W.K.K) {l : Expr} {x : Den D} {p pos tpos : Pos} {elts : List Expr} {kk : Nat} (hg : Gl X "enumerate") (hm : X.mg "enumerate" = none) (hl : PE X l (tG C lD x)) (hs : notStar l = true) :
    PI X (.Tuple elts kk tpos) (.Call (.Name "enumerate" p) [l] [] pos) (tF C (enumF 0 x)) := by
  refine (pi_enumS hg hm (pa_cons hl pa_nil (star_cons hs)) hs).imp fun σ H R ⟨Hf, ρ, o, S, e, f⟩ => ?_
  refine tG_bnd' S e f fun v H1 Hf1 ρ1 d S1 ex l e1 f1 => ?_
  unfold optF at e1
  rw [Option.map_eq_some_iff] at e1
  obtain ⟨ds', hd', rfl⟩ := e1
  rw [Option.map_eq_some_iff] at hd'
  obtain ⟨ds, hd, rfl⟩ := hd'
  obtain ⟨k, xs, rfl, hs, ra⟩ := Rp.src l hd
  have fin := f1 _ Hf1 H1 S1 (Evl.Ex.refl _) (feeds_enum (k0 := 0) hs ra)
  exact ⟨k, xs, rfl, hK ▸ hs _ S1.ex, by rw [hK]; exact fin⟩
theorem pi_zipF (hK : X.K = C.W.K.K) {l m : Expr} {x y : Den D} {p pos tpos : Pos} {elts : List Expr} {kk : Nat} (hg : Gl X "zip") (hm : X.mg "zip" = none) (hl : PE X l (tG C lD x)) (hr : PE X m (tG C lD y)) (hs : notStar l = true) (hs2 : notStar m = true) :
    PI X (.Tuple elts kk tpos) (.Call (.Name "zip" p) [l, m] [] pos) (tF C (zipF x y)) := by
  refine (pi_zipS hg hm (pa_cons hl (pa_cons hr pa_nil (star_cons hs2)) (star_cons hs)) hs hs2).imp fun σ H R ⟨Hf, ρ, o, S, e, f⟩ => ?_
  refine tG_bnd' S e f fun v H1 Hf1 ρ1 d S1 ex l e1 f1 => ?_
  refine tG_bnd' S1 e1 f1 fun w H2 Hf2 ρ2 d2 S2 ex2 l2 e2 f2 => ?_
  unfold optF at e2
  rw [Option.map_eq_some_iff] at e2
  obtain ⟨ds', hd', rfl⟩ := e2
  unfold zipI at hd'
  split at hd'
  · rename_i ds es hd he
    cases hd'
    obtain ⟨k, xs, rfl, hs, ra⟩ := Rp.src (Rp.mono ex2 l) hd
    obtain ⟨k2, ys, rfl, hs2, ra2⟩ := Rp.src l2 he
    have fin := f2 _ Hf2 H2 S2 (Evl.Ex.refl _) (feeds_zip hs hs2 ra ra2)
    exact ⟨k, k2, xs, ys, rfl, hK ▸ hs _ S2.ex, hK ▸ hs2 _ S2.ex, by rw [hK]; exact fin⟩
  · cases hd'
theorem pi_rngF1 {tg a : Expr} {p p' : Pos} {x : Den D} (hgl : Gl X "range") (hm : X.mg "range" = none) (hi : PE X a (tG C lD x)) (hst : notStar a = true) : PI X tg (.Call (.Name "range" p) [a] [] p') (tF C (rngF1 x)) := by
  refine (pi_range1 hgl hm (pa_cons hi pa_nil (star_cons hst)) (star_cons hst)).imp fun σ H R ⟨Hf, ρ, o, S, e, f⟩ => ?_
  refine tG_bnd' S e f fun v H1 Hf1 ρ1 d S1 ex l e1 f1 => ?_
  split at e1
  · rename_i j
    split at e1
    · rename_i hz
      have hz := of_decide_eq_true hz
      cases (show Rp C.W.K Hf1 v (.int j) from l)
      exact ⟨j, rfl, hz.1, hz.2, f1.ret e1 S1 (Evl.Ex.refl _) feeds_rng⟩
    · cases e1
  · cases e1
theorem pi_rngF2 {tg a a2 : Expr} {p p' : Pos} {x y : Den D} (hgl : Gl X "range") (hm : X.mg "range" = none) (hi : PE X a (tG C lD x)) (hi2 : PE X a2 (tG C lD y)) (hst : notStar a = true) (hst2 : notStar a2 = true) : PI X tg (.Call (.Name "range" p) [a, a2] [] p') (tF C (rngF2 x y)) := by
  refine (pi_range2 hgl hm (pa_cons hi (pa_cons hi2 pa_nil (star_cons hst2)) (star_cons hst)) ((star_cons hst).trans (by rw [star_cons hst2]; rfl)) (star_cons hst2)).imp fun σ H R ⟨Hf, ρ, o, S, e, f⟩ => ?_
  refine tG_bnd' S e f fun v H1 Hf1 ρ1 d1 S1 ex l e1 f1 => ?_
  refine tG_bnd' S1 e1 f1 fun w H2 Hf2 ρ2 d2 S2 ex2 l2 e2 f2 => ?_
  split at e2
  · rename_i i j
    split at e2
    · rename_i hz
      rw [Bool.and_eq_true] at hz
      have h1 := of_decide_eq_true hz.1
      have h2 := of_decide_eq_true hz.2
      cases (show Rp C.W.K Hf1 v (.int i) from l)
      cases (show Rp C.W.K Hf2 w (.int j) from l2)
      exact ⟨i, j, rfl, ⟨h1.1, h1.2, h2.1, h2.2⟩, f2.ret e2 S2 (Evl.Ex.refl _) feeds_rng⟩
    · cases e2
  · cases e2
/-- for .. in .. -/
def forF (its : Den (List D)) (t : Tg) (body : SDen) : SDen := bS its fun ds => forL body t ds
theorem ps_forF (hp : PassesOwn (model X.prog X.w) X.A X.env X.xe) (hc : X.calm = true) {tg iter : Expr} {b : List Stmt} {pos : Pos} {its : Den (List D)} {t : Tg} {body : SDen} (hi : PI X tg iter (tF C its)) (hg : PG X tg (tTg C t)) (hb : PSs X b (tSt C body)) (hs : notSet iter = true) :
    PS X (.For tg iter b [] pos) (tSt C (forF its t body)) := by
  refine (ps_for hp hc hi hg hb (notSet_iter hs)).imp fun E σ H h => ?_
  obtain ⟨Hf, ρ, o, S, e, f⟩ := h
  refine bS_inv (P := lF) S e f fun J H1 Hf1 ρ1 ds S1 ex F e1 f1 => ?_
  refine ⟨fun i m σ H => m = ds.length - i ∧ i ≤ ds.length ∧ ∃ Hf ρ, Stt C.W Hf H σ ρ ∧ Ex Hf1 Hf ∧ forL body t (ds.drop i) ρ = some o, ⟨ds.length, rfl, Nat.zero_le _, Hf1, ρ1, S1, Evl.Ex.refl _, e1⟩, ?_⟩
  rintro i m σ2 H2 ⟨rfl, hi, Hf2, ρ2, S2, ex2, e2⟩
  by_cases hlt : i < ds.length
  · refine .inr ⟨F.go i H2 (ex2.trans S2.ex) hlt, fun σ' H' => ∃ Hf ρ, Stt C.W Hf H' σ' ρ ∧ Ex Hf1 Hf ∧ forL body t (ds.drop (i + 1)) ρ = some o, fun σ' H' n => ⟨ds.length - (i + 1), by omega, rfl, hlt, n⟩, fun x H' y => ?_⟩
    have hd := List.getElem?_eq_getElem hlt
    rcases F.yld i H2 x H' _ (ex2.trans S2.ex) y hd with ⟨rfl, r⟩ | ⟨T, vs, es, rfl, nT, rfl, hes, ra⟩
    · exact for_turn S2 ex2 f1 hd (r.mono ex2) e2
    · obtain ⟨S3, ex3, _⟩ := S2.laid (o := .tup vs) nT
      have r : Rp C.W.K (upd Hf2 T (.tup vs)) (.ref T) ds[i] := by
        rw [hes]
        exact .tup (SqT.of upd_same) ((ra.mono ex2).mono ex3)
      exact for_turn S3 (ex2.trans ex3) f1 hd r e2
  · have hi' : i = ds.length := by omega
    subst hi'
    exact .inl ⟨F.stop H2 (ex2.trans S2.ex), for_end f1 (Nat.le_refl _) ⟨Hf2, ρ2, S2, ex2, e2⟩⟩
end
end DI
set_option maxRecDepth 100000
set_option maxHeartbeats 4000000
namespace DI
open PySem PySem.Spec PyProof.Rows L2

/-! ### comprehensions over anything that feeds -/
def wipeR (ρ : Rho) : List Nat → Rho
  | [] => ρ
  | k :: ks => (wipeR ρ ks).set k .no
def isNo : Option Sl → Bool
  | some .no => true
  | _ => false
theorem isNo_ok {s : Option Sl} (h : isNo s = true) : s = some .no := by
  unfold isNo at h
  split at h
  · rfl
  · cases h
def isPl : Option Sl → Bool
  | some .no => true
  | some (.val _) => true
  | _ => false
/-- the walked names, as they were -/
def backR (ρ0 : Rho) : List Nat → Rho → Rho
  | [], ρ => ρ
  | k :: ks, ρ => backR ρ0 ks (ρ.set k ((ρ0[k]?).getD .no))
theorem backR_out {ρ0 : Rho} : ∀ {ks : List Nat} {ρ : Rho} {i : Nat}, i ∉ ks → (backR ρ0 ks ρ)[i]? = ρ[i]?
  | [], _, _, _ => rfl
  | k :: ks, ρ, i, h => by
    unfold backR
    rw [backR_out fun z => h (List.mem_cons_of_mem _ z), List.getElem?_set_ne (fun e => h (by simp [e]))]
theorem backR_in {ρ0 : Rho} : ∀ {ks : List Nat} {ρ : Rho} {i : Nat}, i ∈ ks → i < ρ.length → (backR ρ0 ks ρ)[i]? = some ((ρ0[i]?).getD .no)
  | k :: ks, ρ, i, h, hl => by
    unfold backR
    by_cases hi : i ∈ ks
    · exact backR_in hi (by simpa using hl)
    · rw [backR_out hi]
      rcases List.mem_cons.mp h with z | z
      · subst z
        exact List.getElem?_set_self hl
      · exact absurd z hi
theorem wipeR_len (ρ : Rho) : ∀ ks : List Nat, (wipeR ρ ks).length = ρ.length
  | [] => rfl
  | k :: ks => by simp [wipeR, wipeR_len ρ ks]
theorem wipeR_in {ρ : Rho} : ∀ {ks : List Nat} {k : Nat}, k ∈ ks → k < ρ.length → (wipeR ρ ks)[k]? = some .no
  | k0 :: ks, k, h, hl => by
    unfold wipeR
    by_cases e : k0 = k
    · subst e
      exact List.getElem?_set_self (by rw [wipeR_len]; exact hl)
    · rw [List.getElem?_set_ne e]
      rcases List.mem_cons.mp h with z | z
      · exact absurd z.symm e
      · exact wipeR_in z hl
theorem wipeR_out {ρ : Rho} : ∀ {ks : List Nat} {k : Nat}, k ∉ ks → (wipeR ρ ks)[k]? = ρ[k]?
  | [], _, _ => rfl
  | k0 :: ks, k, h => by
    unfold wipeR
    rw [List.getElem?_set_ne (fun e => h (by simp [e]))]
    exact wipeR_out fun z => h (List.mem_cons_of_mem _ z)
theorem wipe_out {σ : L2.St} : ∀ {ks : List Nat} {k : Nat}, k ∉ ks → (wipe σ ks)[k]? = σ[k]?
  | [], _, _ => rfl
  | k0 :: ks, k, h => by
    show ((wipe σ ks).set k0 none)[k]? = _
    rw [List.getElem?_set_ne (fun e => h (by simp [e]))]
    exact wipe_out fun z => h (List.mem_cons_of_mem _ z)
theorem wipe_in {σ : L2.St} : ∀ {ks : List Nat} {k : Nat}, k ∈ ks → k < σ.length → (wipe σ ks)[k]? = some none
  | k0 :: ks, k, h, hl => by
    show ((wipe σ ks).set k0 none)[k]? = _
    by_cases e : k0 = k
    · subst e
      exact List.getElem?_set_self (by rw [wipe_length]; exact hl)
    · rw [List.getElem?_set_ne e]
      rcases List.mem_cons.mp h with z | z
      · exact absurd z.symm e
      · exact wipe_in z hl
theorem wipe_eq {σ σ2 : L2.St} {ks : List Nat} (hl : σ2.length = σ.length) (h : ∀ i, i ∉ ks → σ2[i]? = σ[i]?) : wipe σ2 ks = wipe σ ks := by
  refine List.ext_getElem? fun i => ?_
  by_cases hi : i ∈ ks
  · by_cases hb : i < σ.length
    · rw [wipe_in hi hb, wipe_in hi (by rw [hl]; exact hb)]
    · rw [List.getElem?_eq_none (by rw [wipe_length, hl]; omega), List.getElem?_eq_none (by rw [wipe_length]; omega)]
  · rw [wipe_out hi, wipe_out hi, h i hi]
theorem Stt.wipe {W : Wd} {Hf H : Hp} {σ : L2.St} {ρ : Rho} (S : Stt W Hf H σ ρ) : ∀ {ks : List Nat}, (∀ k ∈ ks, ∀ n : M, ρ[k]? ≠ some (Sl.ref n)) → Stt W Hf H (L2.wipe σ ks) (wipeR ρ ks)
  | [], _ => S
  | k :: ks, h => by
    have ih := S.wipe (ks := ks) fun k' hk => h k' (List.mem_cons_of_mem _ hk)
    refine ih.setNo (i := k) (ov := none) fun n e => ?_
    by_cases hk : k ∈ ks
    · by_cases hb : k < ρ.length
      · rw [wipeR_in hk hb] at e; cases e
      · rw [List.getElem?_eq_none (by rw [wipeR_len]; omega)] at e; cases e
    · rw [wipeR_out hk] at e
      exact h k (by simp) n e
def lcT (elt : Den D) (cond : Den Bool) (t : Tg) (ks : List Nat) : List D → List D → Rho → Option (List D × Rho)
  | acc, [], ρ => some (acc, ρ)
  | acc, d :: ds, ρ => match stT t d (inn none 0 ρ) with
    | none => none
    | some ρ1 => match cond ρ1 with
      | some (.ok false ρ2) => lcT elt cond t ks acc ds (wipeR (outn none 0 ρ ρ2) ks)
      | some (.ok true ρ2) => match elt ρ2 with
        | some (.ok y ρ3) => if acc.length < 100000 then lcT elt cond t ks (acc ++ [y]) ds (wipeR (outn none 0 ρ ρ3) ks) else none
        | _ => none
      | _ => none
def lcF (its : Den (List D)) (elt : Den D) (cond : Den Bool) (t : Tg) (ks : List Nat) : Den RV := bnd its fun ds => fun ρ => if ks.all (fun k => isPl ρ[k]?) then (lcT elt cond t ks [] ds (wipeR ρ ks)).map fun p => .ok (.new (.lst p.1)) (backR ρ ks p.2) else none

/-! ### the target within the block -/
def gK (C : Ck) (ks : List Nat) (t : Tg) : TG := fun v σ H Q => ∃ W Hf ρ d ρ', W.K = C.W.K ∧ Stt W Hf H σ ρ ∧ Rp W.K Hf v d ∧ stT t d ρ = some ρ' ∧ ∀ σ', σ'.length = σ.length → (∀ i, i ∉ ks → σ'[i]? = σ[i]?) → Stt W Hf H σ' ρ' → Q σ' H
def gKs (C : Ck) (ks : List Nat) (ts : List Tg) : TGs := fun vs σ H Q => ∃ W Hf ρ ds ρ', W.K = C.W.K ∧ Stt W Hf H σ ρ ∧ RpA W.K Hf vs ds ∧ stTs ts ds ρ = some ρ' ∧ ∀ σ', σ'.length = σ.length → (∀ i, i ∉ ks → σ'[i]? = σ[i]?) → Stt W Hf H σ' ρ' → Q σ' H
section
variable {C : Ck} {X : Cx} {ks : List Nat}
theorem pg_nameK {i : Nat} {x : Str} {pos : Pos} (hik : i ∈ ks) (hN : X.N.Nodup) (hi : X.N[i]? = some x) (hx : Loc X.env.scope x) (hf : X.fn x = true ∨ X.env.scope.names.lookup x = some .local) : PG X (.Name x pos) (gK C ks (.name i)) := by
  refine (pg_name hN hi hx hf).imp fun v σ H Q h => ?_
  obtain ⟨W, Hf, ρ, d, ρ', hW, S, r, e, k⟩ := h
  simp only [stT] at e
  exact k _ (by simp) (fun j hj => by rw [List.getElem?_set_ne (fun z : i = j => hj (z ▸ hik))]) (storeV_ok (C := ⟨W, fun _ _ _ _ => True, fun _ => none⟩) S r e)
theorem pgs_nilK : PGs X [] (gKs C ks []) := by
  refine pgs_nil.imp fun vs σ H Q h => ?_
  obtain ⟨W, Hf, ρ, ds, ρ', hW, S, r, e, k⟩ := h
  cases ds with
  | nil => cases r; simp only [stTs, Option.some.injEq] at e; subst e; exact ⟨rfl, k _ rfl (fun _ _ => rfl) S⟩
  | cons d ds => simp [stTs] at e
theorem pgs_consK {e : Expr} {es : List Expr} {t : Tg} {ts : List Tg} (h1 : PG X e (gK C ks t)) (h2 : PGs X es (gKs C ks ts)) (hs : (assignEach (e :: es) X.env).map (·.2) = assign e X.env :: (assignEach es X.env).map (·.2)) : PGs X (e :: es) (gKs C ks (t :: ts)) := by
  refine (pgs_cons h1 h2 hs).imp fun vs σ H Q h => ?_
  obtain ⟨W, Hf, ρ, ds, ρ', hW, S, r, e, k⟩ := h
  cases ds with
  | nil => simp [stTs] at e
  | cons d ds =>
    simp only [stTs] at e
    cases r with
    | cons a b =>
      split at e
      · rename_i ρ1 e1
        exact ⟨_, _, rfl, W, Hf, ρ, d, ρ1, hW, S, a, e1, fun σ1 l1 o1 S1 => ⟨W, Hf, ρ1, ds, ρ', hW, S1, b, e, fun σ2 l2 o2 S2 => k σ2 (l2.trans l1) (fun i hi => (o2 i hi).trans (o1 i hi)) S2⟩⟩
      · cases e
theorem pg_tupK (hK : X.K = C.W.K.K) {es : List Expr} {k : Nat} {pos : Pos} {ts : List Tg} (hc : X.calm = true) (h : PGs X es (gKs C ks ts)) (hn : (assignEach es X.env).length = ts.length) (hst : (assignEach es X.env).findIdx? (·.1) = none) : PG X (.Tuple es k pos) (gK C ks (.tup ts)) := by
  refine (pg_or (pg_tup hc h hn hst) (pg_lst hc h hn hst)).imp fun v σ H Q h => ?_
  obtain ⟨W, Hf, ρ, d, ρ', hW, S, r, e, k⟩ := h
  cases d with
  | tup ds =>
    simp only [stT] at e
    cases r with
    | tup a b =>
      refine .inl ⟨_, _, rfl, ?_, by rw [b.length, ← stTs_len e], W, Hf, ρ, ds, ρ', hW, S, b, e, k⟩
      rw [hK, ← hW]
      exact Evl.ex_t S.ex a
  | lst ds =>
    simp only [stT] at e
    cases r with
    | lst a b =>
      exact .inr ⟨_, _, rfl, .inl (.inl (S.ex _ _ a)), by rw [b.length, ← stTs_len e], W, Hf, ρ, ds, ρ', hW, S, b, e, k⟩
  | fls ds =>
    simp only [stT] at e
    cases r with
    | fls a b =>
      refine .inr ⟨_, _, rfl, ?_, by rw [b.length, ← stTs_len e], W, Hf, ρ, ds, ρ', hW, S, b, e, k⟩
      rw [hK, ← hW]
      exact Evl.ex_l S.ex a
  | _ => simp [stT] at e
/-- the block's state at a turn: the new list is at q -/
structure Blt (W : Wd) (Hf1 : Hp) (ks : List Nat) (q : Addr) (σw : L2.St) (Hf H : Hp) (ρ : Rho) (acc : List D) : Prop where
  S : Stt W Hf H σw ρ
  ex : Ex Hf1 Hf
  no : ∀ k ∈ ks, ρ[k]? = some .no
  q0 : W.H0 q = none
  qf : Hf q = none
  ap : Apart σw ρ q
  li : ∃ xs, H q = some (.lst xs) ∧ RpA W.K Hf xs acc
section
variable {W : Wd} {Hf1 Hf H Hf' H' : Hp} {q : Addr} {σw σ2 : L2.St} {ρ ρ2 : Rho} {acc : List D}
/-- a new tuple is laid -/
theorem Blt.laid (B : Blt W Hf1 ks q σw Hf H ρ acc) {T : Addr} {o : HO} (nT : H T = none) : Blt W Hf1 ks q σw (upd Hf T o) (upd H T o) ρ acc ∧ Ex Hf (upd Hf T o) := by
  obtain ⟨S2, e1, e2⟩ := B.S.laid (o := o) nT
  obtain ⟨xs, hq, ra⟩ := B.li
  have ne : q ≠ T := fun z => by rw [z, nT] at hq; cases hq
  exact ⟨⟨S2, B.ex.trans e1, B.no, B.q0, by rw [upd_ne ne]; exact B.qf, B.ap, xs, by rw [upd_ne ne]; exact hq, ra.mono e1⟩, e1⟩
theorem Blt.out (B : Blt W Hf1 ks q σw Hf H ρ acc) (S2 : Stt (nestW W none Hf H σw ρ) Hf' H' σ2 ρ2) (hl : σ2.length = σw.length) (ho : ∀ i, i ∉ ks → σ2[i]? = σw[i]?) (hw : L2.wipe σ2 ks = σw) : Blt W Hf1 ks q σw Hf' H' (wipeR (outn none 0 ρ ρ2) ks) acc := by
  have hσ : ∀ (i : Nat) (s : Sl), ρ[i]? = some s → s ≠ Sl.no → σ2[i]? = σw[i]? := fun i s h hs => ho i fun z => by
    rw [B.no i z] at h
    cases h
    exact hs rfl
  obtain ⟨S3, gr, kp⟩ := nest_out B.S S2 hl hσ
  have notQ : ∀ i, nestRf none σw ρ i ≠ some q := fun i h => by
    obtain ⟨_, m, g, e, _⟩ := nestRf_inv B.S h
    rcases getM_at g with g | g
    · exact B.ap i m g e
    · obtain ⟨p, a, b, _⟩ := B.S.ref i m g
      rw [e] at a; cases a
      exact B.S.notRef B.q0 b
  obtain ⟨xs, hq, ra⟩ := B.li
  have atk : ∀ k ∈ ks, (outn none 0 ρ ρ2)[k]? = some .no := fun k hk => by
    rw [outn_get, B.no k hk]
    simp [outS]
  have S4 := S3.wipe (ks := ks) fun k hk n e => by
    rw [atk k hk] at e
    cases e
  rw [hw] at S4
  refine ⟨S4, B.ex.trans gr, fun k hk => wipeR_in hk ?_, B.q0, ?_, fun i m h => ?_, xs, kp q _ hq notQ, ra.mono gr⟩
  · rw [outn_len]
    exact (List.getElem?_eq_some_iff.mp (B.no k hk)).1
  · cases z : Hf' q with
    | none => rfl
    | some u =>
      rcases S2.frozen q u z with y | y
      · have y : Hf q = some u := y
        rw [B.qf] at y; cases y
      · have y : H q = none := y
        rw [hq] at y; cases y
  · by_cases hi : i ∈ ks
    · rw [wipeR_in hi (by rw [outn_len]; exact (List.getElem?_eq_some_iff.mp (B.no i hi)).1)] at h
      cases h
    · rw [wipeR_out hi, outn_get, Option.map_eq_some_iff] at h
      obtain ⟨s0, h1, h2⟩ := h
      have : ∃ m0, s0 = .own m0 := by
        revert h2
        cases s0 <;> cases ρ2[i]?.getD .no <;> simp [outS]
      obtain ⟨m0, rfl⟩ := this
      exact B.ap i m0 h1
theorem Blt.app {y : V} {d : D} {xs : List V} (B : Blt W Hf1 ks q σw Hf H ρ acc) (hq : H q = some (.lst xs)) (r : Rp W.K Hf y d) : Blt W Hf1 ks q σw Hf (upd H q (.lst (xs ++ [y]))) ρ (acc ++ [d]) := by
  obtain ⟨xs', hq', ra⟩ := B.li
  rw [hq] at hq'; cases hq'
  exact ⟨B.S.other B.q0 B.qf B.ap, B.ex, B.no, B.q0, B.qf, B.ap, _, upd_same, ra.append (.cons r .nil)⟩
end
/-- one turn -/
theorem lct_turn {σ : L2.St} {Hf1 Hf H : Hp} {q : Addr} {ρ ρe : Rho} {acc ds ys : List D} {x : V} {d : D} {elt : Den D} {cond : Den Bool} {t : Tg} (B : Blt C.W Hf1 ks q (wipe σ ks) Hf H ρ acc) (r : Rp C.W.K Hf x d) (e : lcT elt cond t ks acc (d :: ds) ρ = some (ys, ρe)) {Nx : Hp → Prop}
    (hN : ∀ Hf' H' ρ' acc', Blt C.W Hf1 ks q (wipe σ ks) Hf' H' ρ' acc' → lcT elt cond t ks acc' ds ρ' = some (ys, ρe) → Nx H') :
    gK C ks t x (wipe σ ks) H fun σ2 H2 => wipe σ2 ks = wipe σ ks ∧ tIn C lB cond σ2 H2 fun b H3 => if b = true then tIn C lD elt σ2 H3 fun y H4 => ∃ acc, H4 q = some (.lst acc) ∧ acc.length < sizeLine ∧ Nx (upd H4 q (.lst (acc ++ [y]))) else Nx H3 := by
  simp only [lcT] at e
  cases hs : stT t d (inn none 0 ρ) with
  | none => rw [hs] at e; cases e
  | some ρ1 =>
    rw [hs] at e
    dsimp only at e
    refine ⟨nestW C.W none Hf H (wipe σ ks) ρ, Hf, _, d, ρ1, rfl, nest_in B.S, r, hs, fun σ2 l2 o2 S2 => ?_⟩
    have hw : wipe σ2 ks = wipe σ ks := by
      rw [wipe_eq l2 o2]
      exact wipe_eq (wipe_length _ _) fun i hi => wipe_out hi
    refine ⟨hw, ?_⟩
    cases hc : cond ρ1 with
    | none => rw [hc] at e; cases e
    | some oc =>
      rw [hc] at e
      cases oc with
      | exc c' d' ρ' => cases e
      | ok b ρ2 =>
        refine ⟨nestW C.W none Hf H (wipe σ ks) ρ, rfl, Hf, _, _, S2, hc, fun b' Hf2 H2 S3 ex2 l => ?_⟩
        have l' : b' = b := l
        subst l'
        cases b' with
        | false => exact hN Hf2 H2 _ acc (B.out S3 l2 o2 hw) e
        | true =>
          dsimp only
          rw [if_pos rfl]
          simp only at e
          cases he : elt ρ2 with
          | none => rw [he] at e; cases e
          | some oe =>
            rw [he] at e
            cases oe with
            | exc c' d' ρ' => cases e
            | ok y ρ3 =>
              simp only at e
              split at e
              · rename_i hz
                refine ⟨nestW C.W none Hf H (wipe σ ks) ρ, rfl, Hf2, ρ2, _, S3, he, fun u Hf3 H3 S4 ex3 lu => ?_⟩
                have B3 := B.out S4 l2 o2 hw
                obtain ⟨xs, hq, ra⟩ := B3.li
                exact ⟨xs, hq, by rw [ra.length]; exact Evl.sz_lt hz, hN Hf3 _ _ _ (B3.app hq lu) e⟩
              · cases e
theorem lcf_core {its : Den (List D)} {elt : Den D} {cond : Den Bool} {t : Tg} {σ : L2.St} {H Hf : Hp} {ρ : Rho} {o : Out RV} {Q : VK} (S : Stt C.W Hf H σ ρ) (e : lcF its elt cond t ks ρ = some o) (f : Fin C lV σ Hf o Q) :
    tLc (tF C its) (gK C ks t) (tIn C lB cond) (tIn C lD elt) ks σ H Q := by
  refine tG_bnd' S e f fun J H1 Hf1 ρ1 ds S1 ex F e1 f1 => ?_
  split at e1
  case isFalse => cases e1
  rename_i hno
  rw [Option.map_eq_some_iff] at e1
  obtain ⟨⟨ys, ρe⟩, e1, rfl⟩ := e1
  have no : ∀ k ∈ ks, ρ1[k]? = some .no ∨ ∃ d, ρ1[k]? = some (.val d) := fun k hk => by
    have z := List.all_eq_true.mp hno k hk
    unfold isPl at z
    split at z
    · exact .inl (by assumption)
    · exact .inr ⟨_, by assumption⟩
    · cases z
  have inb : ∀ k ∈ ks, k < ρ1.length := fun k hk => by
    rcases no k hk with z | ⟨d, z⟩
    · exact (List.getElem?_eq_some_iff.mp z).1
    · exact (List.getElem?_eq_some_iff.mp z).1
  intro q nq
  have S2 := S1.wipe (ks := ks) fun k hk n z => by
    rcases no k hk with y | ⟨d, y⟩ <;> (rw [y] at z; cases z)
  have B0 : Blt C.W Hf1 ks q (wipe σ ks) Hf1 (upd H1 q (.lst [])) (wipeR ρ1 ks) [] := ⟨S2.made nq, Evl.Ex.refl _, fun k hk => wipeR_in hk (inb k hk), S1.H0none nq, Evl.fresh_back S1.ex nq, S2.apart nq, [], upd_same, .nil⟩
  refine ⟨fun i m H => m = ds.length - i ∧ i ≤ ds.length ∧ ∃ Hf ρ acc, Blt C.W Hf1 ks q (wipe σ ks) Hf H ρ acc ∧ lcT elt cond t ks acc (ds.drop i) ρ = some (ys, ρe), ⟨ds.length, rfl, Nat.zero_le _, Hf1, wipeR ρ1 ks, [], B0, e1⟩, ?_⟩
  rintro i m H2 ⟨rfl, hi, Hf2, ρ2, acc, B, e2⟩
  by_cases hlt : i < ds.length
  · refine .inr ⟨F.go i H2 (B.ex.trans B.S.ex) hlt, fun H' => ∃ Hf ρ acc, Blt C.W Hf1 ks q (wipe σ ks) Hf H' ρ acc ∧ lcT elt cond t ks acc (ds.drop (i + 1)) ρ = some (ys, ρe), fun H' n => ⟨ds.length - (i + 1), by omega, rfl, hlt, n⟩, fun x H' y => ?_⟩
    have hd := List.getElem?_eq_getElem hlt
    rw [drop_get hd] at e2
    rcases F.yld i H2 x H' _ (B.ex.trans B.S.ex) y hd with ⟨rfl, r⟩ | ⟨T, vs, es, rfl, nT, rfl, hes, ra⟩
    · exact lct_turn B (r.mono B.ex) e2 fun Hf' H' ρ' acc' B' e' => ⟨Hf', ρ', acc', B', e'⟩
    · obtain ⟨B3, ex3⟩ := B.laid (o := .tup vs) nT
      have r : Rp C.W.K (upd Hf2 T (.tup vs)) (.ref T) ds[i] := by
        rw [hes]
        exact .tup (SqT.of upd_same) ((ra.mono B.ex).mono ex3)
      exact lct_turn B3 r e2 fun Hf' H' ρ' acc' B' e' => ⟨Hf', ρ', acc', B', e'⟩
  · have hi' : i = ds.length := by omega
    subst hi'
    refine .inl ⟨F.stop H2 (B.ex.trans B.S.ex), ?_⟩
    rw [List.drop_eq_nil_of_le (Nat.le_refl _)] at e2
    simp only [lcT, Option.some.injEq, Prod.mk.injEq] at e2
    obtain ⟨rfl, rfl⟩ := e2
    obtain ⟨xs, hq, ra⟩ := B.li
    -- back to the slots as they were
    have back : ∀ (l : List Nat) (σ' : L2.St) (ρ' : Rho), (∀ k ∈ l, k ∈ ks) → σ'.length = σ.length → (∀ i, i ∉ l → σ'[i]? = σ[i]?) → Stt C.W Hf2 H2 σ' ρ' → (∀ k ∈ l, ∀ n : M, ρ'[k]? ≠ some (Sl.ref n)) → Stt C.W Hf2 H2 σ (backR ρ1 l ρ') := by
      intro l
      induction l with
      | nil =>
        intro σ' ρ' _ hl h S' _
        have : σ' = σ := List.ext_getElem? fun i => h i (by simp)
        rw [← this]
        exact S'
      | cons k l ih =>
        intro σ' ρ' hks hl h S' hn
        have hk : k ∈ ks := hks k (by simp)
        have nr : ∀ n : M, ρ'[k]? ≠ some (Sl.ref n) := hn k (by simp)
        have S3 : Stt C.W Hf2 H2 (σ'.set k ((σ[k]?).getD none)) (ρ'.set k ((ρ1[k]?).getD .no)) := by
          rcases no k hk with z | ⟨d, z⟩
          · rw [z]
            exact S'.setNo (i := k) (ov := (σ[k]?).getD none) fun n y => nr n y
          · rw [z]
            obtain ⟨v, a, b⟩ := S1.val k d z
            rw [a]
            refine storeV_ok (C := C) (i := k) (d := d) (v := v) S' (b.mono B.ex) ?_
            unfold storeV
            split
            · rename_i n y; exact absurd y (nr n)
            · rfl
        unfold backR
        refine ih _ _ (fun k' hk' => hks k' (List.mem_cons_of_mem _ hk')) (by simpa using hl) (fun i hi => ?_) S3 fun k' hk' n z => ?_
        · by_cases hik : k = i
          · subst hik
            by_cases hb : k < σ.length
            · rw [List.getElem?_set_self (by rw [hl]; exact hb), List.getElem?_eq_getElem hb]
              rfl
            · rw [List.getElem?_eq_none (by simp; omega), List.getElem?_eq_none (by omega)]
          · rw [List.getElem?_set_ne hik]
            exact h i fun z => by
              rcases List.mem_cons.mp z with w | w
              · exact hik w.symm
              · exact hi w
        · by_cases hkk : k = k'
          · subst hkk
            rw [List.getElem?_set] at z
            simp only [if_true] at z
            split at z
            · rcases no k hk with y | ⟨d, y⟩ <;> (rw [y] at z; cases z)
            · cases z
          · rw [List.getElem?_set_ne hkk] at z
            exact hn k' (List.mem_cons_of_mem _ hk') n z
    have S3 := back ks (wipe σ ks) ρ2 (fun _ h => h) (wipe_length _ _) (fun i hi => wipe_out hi) B.S fun k hk n z => by
      rw [B.no k hk] at z
      cases z
    have lenb : ∀ k ∈ ks, k < ρ2.length := fun k hk => (List.getElem?_eq_some_iff.mp (B.no k hk)).1
    refine f1 _ Hf2 H2 S3 B.ex ⟨q, rfl, B.q0, .lst B.qf hq ra, fun i m h z => ?_⟩
    have hi : i ∉ ks := fun w => by
      rw [backR_in w (lenb i w)] at h
      rcases no i w with y | ⟨d, y⟩ <;> (rw [y] at h; cases h)
    rw [backR_out hi] at h
    refine B.ap i m h ?_
    rw [wipe_out hi]
    exact z
/-- what a comprehension's block must be -/
structure LctOk (C : Ck) (X : Cx) (scope : Scope) (own : List (Str × Nat)) (tg elt : Expr) (ifs : List Expr) (t : Tg) (x : Den D) (c : Den Bool) : Prop where
  blk : BlkOk X.N X.env.scope scope own
  tg : ∀ (s : Shared) (H : Hp) (A : Addr) (cl : List (Str × Addr)) (fp : List Addr), PG (X.blk s H scope (compEnvC scope cl A X.env) fp) tg (gK C (own.map (·.2)) t)
  elt : ∀ (s : Shared) (H : Hp) (A : Addr) (cl : List (Str × Addr)) (fp : List Addr), PE (X.blk s H scope (compEnvC scope cl A X.env) fp) elt (tIn C lD x)
  ifs : ∀ (s : Shared) (H : Hp) (A : Addr) (cl : List (Str × Addr)) (fp : List Addr), PTs (X.blk s H scope (compEnvC scope cl A X.env) fp) ifs (tIn C lB c)
theorem pe_lcF (hc : X.calm = true) (hN : X.N.Nodup) {elt tg iter : Expr} {ifs : List Expr} {scope : Scope} {pos : Pos} {own : List (Str × Nat)} {its : Den (List D)} {t : Tg} {y : Den D} {c : Den Bool} (L : LctOk C X scope own tg elt ifs t y c) (hi : PI X tg iter (tF C its)) (hs : notSet iter = true) :
    PE X (.ListComp elt [⟨tg, iter, ifs, 0⟩] scope pos) (tG C lV (lcF its y c t (own.map (·.2)))) :=
  (pe_lc (own := own) hc hN hi L.blk L.tg L.ifs L.elt (notSet_iter hs)).imp fun σ H Q ⟨Hf, ρ, o, S, e, f⟩ => lcf_core S e f
theorem ps_lcF (hc : X.calm = true) (hN : X.N.Nodup) {i : Nat} {n : Str} {py spos : Pos} {elt tg iter : Expr} {ifs : List Expr} {scope : Scope} {pos : Pos} {own : List (Str × Nat)} {its : Den (List D)} {t : Tg} {x : Den D} {c : Den Bool} (hy : X.N[i]? = some n) (hyl : X.env.scope.names.lookup n = some .local)
    (hsw : swapsWith (.ListComp elt [⟨tg, iter, ifs, 0⟩] scope pos) (some (.Name n py)) spos.line X.env = pure true) (L : LctOk C X scope own tg elt ifs t x c) (hi : PI X tg iter (tF C its)) (hs : notSet iter = true) :
    PS X (.Assign [.Name n py] (.ListComp elt [⟨tg, iter, ifs, 0⟩] scope pos) spos) (tSt C (asgS i (lcF its x c t (own.map (·.2))))) := by
  refine (ps_setLc (own := own) hc hN hy hyl hsw hi L.blk L.tg L.ifs L.elt (notSet_iter hs)).imp fun E σ H ⟨Hf, ρ, o, S, e, f⟩ => ?_
  unfold asgS bS at e
  split at e
  · cases e
  · rename_i c' d' ρ' h
    exact lcf_core S h fun Hf1 H1 A dd v S1 ex a b n r => by cases e; exact f σ Hf1 H1 A dd v S1 ex a b n r
  · rename_i r ρ' h
    rw [Option.map_eq_some_iff] at e
    obtain ⟨ρ2, e, rfl⟩ := e
    exact lcf_core (Q := fun u H1 => E.nx (σ.set i (some u)) H1) S h fun u Hf1 H1 S1 ex l => f _ Hf1 H1 (storeR_ok S1 l e) ex
end
end DI
set_option maxRecDepth 100000
set_option maxHeartbeats 4000000
namespace DI
open PySem PySem.Spec PyProof.Rows L2

/-! ### own errors over Exception, whose __init__ keeps what it is given under the name at -/
abbrev exT : List Value := [.type "Exception", .type "BaseException", .type "object"]
/-- such a class at A, its maker at f -/
structure EkC (K : PySem.W.Frag) (A f : Addr) : Prop where
  new : PySem.W.excInitIn K A exT "Exception.__new__" = true
  ov : PySem.W.excOver K A exT = true
  sa : PySem.W.findIn K (.ref A) "__setattr__" = some (some (.builtin "object.__setattr__"))
  be : PySem.W.subIn K (.ref A) (.type "BaseException") = some true
  ty : PySem.W.typeIn K (.ref A) = some (.type "type")
  kp : PySem.W.keepIn K (.ref A) = true
  hd : PySem.W.hasDictIn K A = true
  na : PySem.W.findIn K (.ref A) "at" = some none
  ini : PySem.W.findIn K (.ref A) "__init__" = some (some (.ref f))
  fn : PySem.W.typeIn K (.ref f) = some (.type "function")
  ga : PySem.W.findIn K (.ref A) "__getattribute__" = some (some (.builtin "BaseException.__getattribute__"))
  gg : PySem.W.findIn K (.ref A) "__getattr__" = some none
/-- the first store into an error that has no dict as yet -/
theorem first_store {prog : Program} {w : World} {A : Around} {R : Result → Shared → Prop} {hp : Heap} {g : Array GenState} {d : Drawn} {t : Nat} {os : OsState} {K : PySem.W.Frag} {z : Str} {tk : Tok} {v : Value} {e C : Addr} {fv : Array Value}
    (kin : K.In hp) (he : hp.get? e = some { cls := .ref C, data := .fields fv }) (ov : PySem.W.excOver K C exT = true) (hd : PySem.W.hasDictIn K C = true) (no : PySem.W.findIn K (.ref C) z = some none)
    (go : ∀ h2 tk2 dx, (∀ b o, b ≠ e → hp.get? b = some o → h2.get? b = some o) → hp.objs.size ≤ dx → dx ≠ e → h2.get? e = some { cls := .ref C, dict := some dx, data := .fields fv } →
      h2.Ns1 dx (fun y => if y = z then some v else none) → R (.ok (.ret .none)) ⟨h2, g, d, tk2, os⟩) :
    codeAny (model prog w) A (.call (.builtin "object.__setattr__") ⟨[.ref e, .str z tk, v], []⟩) R ⟨hp, g, d, t, os⟩ := by
  obtain ⟨cd, hc, dd⟩ := PySem.W.any_some hd
  have looks : PySem.W.Looks (model prog w) hp (classData C) cd := PySem.W.looks_clsIn kin hc
  have far : e ≠ hp.objs.size := Nat.ne_of_lt (Heap.lt_size he)
  refine PySem.W.osa_openX (s := ⟨hp, g, d, t, os⟩) (od := none) PySem.F.store_Exception kin ⟨he, rfl, rfl, trivial⟩ ov (r := none) (by unfold PySem.W.takerIn; rw [no]; rfl) fun b => ?_
  show wpAny _ _ (Builtin.ObjectAttr.storeInOwnDict (.ref e) (.ref C) (.str z tk) z v b) _ _ _
  obtain ⟨n1, n2, n3, n4, n5, n6, n7, n8, n9, n10, n11⟩ := cd
  dsimp only at dd
  subst dd
  unfold Builtin.ObjectAttr.storeInOwnDict Builtin.ObjectAttr.ownDictForStores
  repeat (first | with_reducible refine PySem.HandSPX.store_in_new ?_ ?_ | with_reducible refine wpAny_loadPart_at he ?_ | with_reducible refine looks.at ?_ | wp_step)
  · refine ⟨_, #[], _, (Heap.get?_update_ne _ _ _ _ far.symm).trans (Heap.get?_push_at rfl rfl), rfl, fun u hu => absurd hu (by simp), fun _ => rfl⟩
  · intro h2 tk2 made same
    have there : (hp.push { cls := .type "dict", data := .dict #[] }).get? e = some { cls := .ref C, data := .fields fv } := Heap.get?_push_of_some _ he
    refine go h2 tk2 hp.objs.size (fun b o ne ho => ?_) (Nat.le_refl _) far.symm ?_ made
    · have nb : b ≠ hp.objs.size := Nat.ne_of_lt (Heap.lt_size ho)
      rw [same.2 b nb, Heap.get?_update_ne _ _ _ _ ne]
      exact Heap.get?_push_of_some _ ho
    · rw [same.2 e far]
      exact Heap.get?_update_self _ there rfl

section
variable {X : Cx} {pins : List (Addr × Obj)} {σ : L2.St} {H : Hp} {s : Shared} {a C f : Addr} {y : V} {u : Value} {A : Around}
/-- error.at = y, in the error that is being made -/
theorem at_store {Q : Unit → Shared → Prop} {E : Value → Shared → Prop} (T : EkC X.K C f) (I : Inv X pins σ H s) (he : H a = some (exo a C none)) (ry : RelV y u)
    (go : ∀ dx s2, H dx = none → dx ≠ a → Inv X pins σ (upd (upd H dx (exd dx [(("at" : Str), y)])) a (exo a C (some dx))) s2 → Q () s2) : wpAny (model X.prog X.w) A (setAttr (.ref a) "at" u) Q E s := by
  obtain ⟨t1, hob⟩ := exo_at I.hok he
  obtain ⟨hp, g, d, t, os⟩ := s
  refine PySem.W.set_plain I.kIn (ox := { cls := .ref C, data := .fields #[.ref t1, .none, .none, .none, .bool false, .none] }) (od := none) ⟨hob, rfl, rfl, trivial⟩ T.sa ?_
  refine first_store I.kIn hob T.ov T.hd T.na fun h2 tk2 dx kept dn dne there ns => ?_
  have nodx : H dx = none := I.hok.fresh dn
  have lt : ∀ {b : Addr} {o : Obj}, hp.get? b = some o → b ≠ dx := fun {b o} z => Nat.ne_of_lt (Nat.lt_of_lt_of_le (Heap.lt_size z) dn)
  have nota : ∀ {b : Addr}, H b = none → b ≠ a := fun {b} n z => by
    subst z
    rw [he] at n
    cases n
  refine go dx _ nodx dne (I.un (t' := tk2) ⟨fun b o z n _ _ => kept b o (nota n) z, fun b o z n _ _ => ⟨o.slots, kept b o (nota n) z⟩, fun b o z n _ => ?_, fun b o z _ => ?_, fun b xs z => ?_, fun b o v z => ?_, fun b ps z => ⟨#[], ?_⟩⟩ fun b o z => ?_)
  · rw [upd_ne (nota n), upd_ne (lt z)]
    exact n
  · by_cases hb : b = a
    · subst hb
      exact ⟨_, there⟩
    · exact ⟨o, kept b o hb z⟩
  · rw [upd_ne (at_ne he z exo_tup), upd_ne (ne_of_none z nodx)]
    exact z
  · rw [upd_ne (at_ne he z exo_frz), upd_ne (ne_of_none z nodx)]
    exact z
  · rw [upd_ne (at_ne he z exo_tbl), upd_ne (ne_of_none z nodx), z]
    simp
  · by_cases hb : b = a
    · subst hb
      rw [upd_same] at z
      cases z
      exact exo_ok there
    · rw [upd_ne hb] at z
      by_cases hd : b = dx
      · subst hd
        rw [upd_same] at z
        cases z
        exact exd_ok ns (relO_put (fs := []) ry fun _ => trivial)
      · rw [upd_ne hd] at z
        refine (I.hok b o z).stay (fun c v hc q => kept c v ?_ q) (fun c hc => ?_) (fun c xs hc => ?_)
        · rcases hc with hc | hc
          · subst hc
            exact hb
          · exact at_ne he hc exo_own
        · rw [upd_ne (at_ne he hc exo_own), upd_ne (ne_of_none hc nodx)]
          exact hc
        · rw [upd_ne (at_ne he hc exo_tup), upd_ne (ne_of_none hc nodx)]
          exact hc
end
/-- self.at = e -/
def tAt (K : PySem.W.Frag) (to te : TE) : TS := fun D σ H => te σ H fun y H1 => to σ H1 fun x H2 => ∃ a C f : Addr, x = .ref a ∧ EkC K C f ∧ H2 a = some (exo a C none) ∧
  ∀ dx, H2 dx = none → dx ≠ a → D.nx σ (upd (upd H2 dx (exd dx [(("at" : Str), y)])) a (exo a C (some dx)))
theorem ps_at {X : Cx} {o e : Expr} {to te : TE} {p pos : Pos} (ho : PE X o to) (he : PE X e te) (hs : swapsWith e (some (.Attribute o "at" p)) pos.line X.env = pure false := by rfl) : PS X (.Assign [.Attribute o "at" p] e pos) (tAt X.K to te) := by
  constructor
  intro pins s σ H D I h
  refine plainObj_wpAny_Assign_Attribute (thn (he.run pins s σ H _ I h) fun v s1 hv => ?_) hs
  obtain ⟨y, H1, I1, r1, q1⟩ := hv
  refine thn (ho.run pins s1 σ H1 _ I1 q1) fun u s2 hu => ?_
  obtain ⟨x, H2, I2, r2, a, C, f, ex, T, ea, q⟩ := hu
  subst ex
  obtain rfl : u = Value.ref a := r2
  exact at_store T I2 ea r1 fun dx s3 n ne J => ⟨σ, _, J, q dx n ne⟩
/-- what __init__ of such a class promises -/
def spAt (C : Addr) : Sp := fun vs H Q _ => ∃ (a : Addr) (y : V), vs = [.ref a, y] ∧ H a = some (exo a C none) ∧ ∀ dx, H dx = none → dx ≠ a → Q .non (upd (upd H dx (exd dx [(("at" : Str), y)])) a (exo a C (some dx)))
theorem passNo {X : Cx} : Passes (L2N.CX X.prog X.w) X (fun _ _ _ => False) := fun _ _ _ _ _ _ _ h => by
  obtain ⟨_, _, _, _, _, _, _, _, _, _, _, _, no⟩ := h
  exact no.elim
/-- C(e): the error, its one field in a new dict -/
def tMakeAt (C : Addr) (ta : TA) : L2.St → Hp → XK → Prop := fun σ H Q => ta σ H fun vs H1 => ∃ y, vs = [y] ∧ ∀ d, H1 d = none → Q (.ref C) (some d) (upd H1 d (.xd [(("at" : Str), y)]))
theorem made_same {H1 : Hp} {a d C : Addr} {fs : List (Str × V)} (na : H1 a = none) (ne : d ≠ a) : upd (del (upd (upd (upd H1 a (exo a C none)) d (exd d fs)) a (exo a C (some d))) a) d (.xd fs) = upd H1 d (.xd fs) := by
  funext b
  by_cases hd : b = d
  · subst hd
    rw [upd_same, upd_same]
  · rw [upd_ne hd, upd_ne hd]
    by_cases hb : b = a
    · subst hb
      rw [del_same, na]
    · rw [del_ne hb, upd_ne hb, upd_ne hd, upd_ne hb]
theorem pmk_at {X : Cx} {k : Nat} {x : Str} {C f : Addr} {fd : FuncData} {ps : List Str} {e : Expr} {ta : TA} {p pos : Pos} (T : EkC X.K C f) (F1 : FnOk X.prog X.w X.K X.mg X.base (L2N.CX X.prog X.w) k f fd ps (spAt C)) (hr : Room (k + 1) X.A) (hb : Binds X.K fd ps [])
    (hg : Gl X x) (hm : X.mg x = some (.ref C)) (ha : PA X [e] ta) (hdb : (x == ("__debug__" : Str)) = false) (hst : notStar e = true) : L2N.PMk X (.Call (.Name x p) [e] [] pos) (tMakeAt C ta) := by
  intro pins s σ H Q I h
  refine wpAny_Call_Name_kw (ld_glob I hg hm ?_ hdb)
  refine PySem.W.callWith_K (h₀ := X.base) I.ok.mod.kin T.kp (thn (ha.run pos pins s σ H _ I h) fun us s1 hu => ?_) (star_cons hst) (star_any (es := []) rfl)
  obtain ⟨vs, H1, I1, r1, y, ev, q⟩ := hu
  subst ev
  refine ⟨I1.kIn, ?_⟩
  cases r1 with
  | @cons _ u _ us' ry rn =>
  cases rn
  show wpAny _ _ (call (.ref C) [u]) _ _ _
  obtain ⟨hp, g, dr, tk, os⟩ := s1
  obtain ⟨nm, N2, qn, bs, bm, hdct, sn, sub, ab, col, dd, k0, k1, k2, k3, k5, hC, hT⟩ := PySem.W.excInit_of I1.kIn T.new
  have big : hp.objs.size ≤ hp.objs.size + 1 := Nat.le_succ _
  have na : H1 (hp.objs.size + 1) = none := I1.hok.fresh big
  have keep2 : ∀ b o, hp.get? b = some o → ((hp.push (PySem.W.kdv_tup [u])).push (PySem.HandSPX.excO C hp.objs.size)).get? b = some o := fun b o z => Heap.get?_push_of_some _ (Heap.get?_push_of_some _ z)
  have there : ((hp.push (PySem.W.kdv_tup [u])).push (PySem.HandSPX.excO C hp.objs.size)).get? (hp.objs.size + 1) = some (PySem.HandSPX.excO C hp.objs.size) := by heap_get
  have J : Inv X pins σ (upd H1 (hp.objs.size + 1) (exo (hp.objs.size + 1) C none)) ⟨(hp.push (PySem.W.kdv_tup [u])).push (PySem.HandSPX.excO C hp.objs.size), g, dr, tk, os⟩ :=
    I1.laid (t' := tk) keep2 big (exo_ok there)
  have rr : Vals [V.ref (hp.objs.size + 1), y] [Value.ref (hp.objs.size + 1), u] := .cons rfl (.cons ry .nil)
  have sp : spAt C [V.ref (hp.objs.size + 1), y] (upd H1 (hp.objs.size + 1) (exo (hp.objs.size + 1) C none))
      (fun v H2 => v = .non ∧ ∃ (d : Addr) (fs : List (Str × V)), H2 (hp.objs.size + 1) = some (exo (hp.objs.size + 1) C (some d)) ∧ H2 d = some (exd d fs) ∧ H1 d = none ∧ Q (.ref C) (some d) (upd (del H2 (hp.objs.size + 1)) d (.xd fs))) (fun _ _ _ => False) := by
    refine ⟨_, _, rfl, upd_same, fun dx nd ne => ⟨rfl, dx, [(("at" : Str), y)], upd_same, ?_, ?_, ?_⟩⟩
    · rw [upd_ne ne, upd_same]
    · rw [upd_ne ne] at nd
      exact nd
    · rw [upd_ne ne] at nd
      rw [made_same na ne]
      exact q dx nd
  have b2 := hb _ [Value.ref (hp.objs.size + 1), u] J.kIn (by
    have e := F1.len _ _ _ _ sp
    exact e)
  rw [List.append_nil] at b2
  refine wpAny_call (PySem.HandSPX.call_own PySem.F.excBase_Exception (fun Y => hT Y) hC (PySem.W.looks_findIn I1.kIn T.ini) (fun self => PySem.W.bind_fn I1.kIn self T.fn) (by show 1 ≤ sizeLine; rw [sizeLine_eq]; omega)
    (codeAny_mono (F1.run _ X.stack _ _ ⟨[Value.ref (hp.objs.size + 1), u], []⟩ [Value.ref (hp.objs.size + 1), u] _ _ (fun _ _ _ => False) (hr.make C [u] []) (J.env0.make C [u] []) b2 rr sp) fun r s3 hq => ?_))
  cases r with
  | error er => exact passNo pins σ _ _ er s3 J hq
  | ok fl =>
    cases fl with
    | ret v =>
      obtain ⟨v', H2, os2, bare2, un2, hok2, rv, ev, d, fs, ea, ed, hd1, q2⟩ := hq
      subst ev
      obtain ⟨h3, g3, d3, t3, os'⟩ := s3
      obtain ⟨t0, G, J3, kG, ge, hoe, na3⟩ := mk_end0 (d2 := d3) (t2 := t3) I1 big keep2 un2 hok2 os2 bare2 ea ed hd1
      exact ⟨rv, ⟨hp.objs.size + 1, _, _, ⟨G, g3, d3, t3, os'⟩, _, .ref C, some d, rfl, J3, kG, ge, hoe, ⟨rfl, rfl, fun vs hv => by cases hv; rfl⟩, rfl, rfl, na3, rfl, bare2, raises_own T.be T.ty, q2⟩⟩
    | next => exact False.elim hq
    | brk => exact False.elim hq
    | cont => exact False.elim hq
/-- raise x(e) -/
def raiseS (x : Str) (y : Den D) : SDen := bS y fun d ρ => some (.exc x d ρ)
theorem ps_raiseD {C : Ck} {X : Cx} {k : Nat} {x : Str} {A f : Addr} {fd : FuncData} {ps : List Str} {e : Expr} {y : Den D} {p p2 pos : Pos} (hc : X.calm = true) (tk : L2N.Takes X C.Wx) (ca : C.ca x = some A) (T : EkC X.K A f)
    (F1 : FnOk X.prog X.w X.K X.mg X.base (L2N.CX X.prog X.w) k f fd ps (spAt A)) (hr : Room (k + 1) X.A) (hb : Binds X.K fd ps []) (hg : Gl X x) (hm : X.mg x = some (.ref A)) (he : PE X e (tG C lD y)) (hdb : (x == ("__debug__" : Str)) = false) (hst : notStar e = true) :
    PS X (.Raise (some (.Call (.Name x p) [e] [] p2)) none pos) (tSt C (raiseS x y)) := by
  refine (L2N.ps_raise hc tk (pmk_at T F1 hr hb hg hm (pa_cons he pa_nil (star_cons hst)) hdb hst)).imp fun E σ H h => ?_
  obtain ⟨Hf, ρ, o, S, e, f⟩ := h
  refine bS_inv (P := lD) S e f fun v H1 Hf1 ρ1 d S1 ex l e1 f1 => ?_
  cases e1
  refine ⟨v, rfl, fun dd n => ?_⟩
  exact f1 σ Hf1 _ A dd v (S1.made n) (Evl.Ex.refl _) ca upd_same (S1.H0none n) l
end DI
set_option maxRecDepth 100000
set_option maxHeartbeats 4000000
namespace DI
open PySem PySem.Spec PyProof.Rows L2

/-! ### what class a caught error is of; its field -/
/-- what isinstance asks of an error's class -/
structure EisC (K : PySem.W.Frag) (A : Addr) : Prop where
  kl : PySem.W.findIn K (.ref A) "__class__" = some (some (.builtin "object.__class__"))
  gs : PySem.W.specialIn K (.builtin "object.__class__") "__get__" = some (some (.builtin "getset_descriptor.__get__"))
  tk : PySem.W.takesIn K (.builtin "object.__class__") = some true
  ob : PySem.W.mroIn K A (.type "object") = some true
section
variable {prog : Program} {w : World} {A : Around} {E : Value → Shared → Prop} {s : Shared} {K : PySem.W.Frag} {x D f : Addr} {ox : Obj} {od : Obj}
open PySem.W in
theorem err_class {Q : Option Value → Shared → Prop} (T : EkC K D f) (U : EisC K D) (kin : K.In s.heap) (J : InstAt s.heap x ox D (some od)) (go : Q (some (.ref D)) { s with toks := s.toks + 1 }) : wpAny (model prog w) A (getAttr? (.ref x) "__class__") Q E s := by
  have cls : (clsIn K D).isSome = true := by
    obtain ⟨cd, hc, _⟩ := any_some T.hd
    rw [hc]
    rfl
  have found : findObj K D (some od) "__class__" = some (.bind (.builtin "getset_descriptor.__get__") (.builtin "object.__class__")) := findObj_data cls U.kl U.gs U.tk
  obtain ⟨hp, g, d, t, os⟩ := s
  have ty := J.type (M := model prog w)
  have l1 := looks_findIn (M := model prog w) kin T.ga
  have l2 := looks_findIn (M := model prog w) kin T.gg
  have l3 := looks_find (M := model prog w) kin J found
  have isB : Looks (model prog w) hp (isInstance (.ref x) (.type "BaseException")) true := ty.andThen (looks_subIn kin T.be)
  have n1 : (false && onTheHeap (Value.builtin "BaseException.__getattribute__")) = false := rfl
  have n2 : (onTheHeap (Value.ref D) && Value.builtin "BaseException.__getattribute__" == Value.builtin "object.__getattribute__") = false := by
    have e : (Value.builtin "BaseException.__getattribute__" == Value.builtin "object.__getattribute__") = false := by decide +kernel
    rw [e]
    rfl
  unfold getAttr? getAttrBy? getAttrBy
  refine wpAny_bind (wpAny_mkText (wpAny_bind (wpAny_attempt (wpAny_holding (wpAny_bind (ty.at (wpAny_bind (l1.at ?_))))))))
  show wpAny _ _ (if (onTheHeap (Value.ref D) && Value.builtin "BaseException.__getattribute__" == Value.builtin "object.__getattribute__") = true then _ else _) _ _ _
  rw [n2, if_neg Bool.false_ne_true]
  unfold getAttrByItsOwn hookBefore
  refine wpAny_bind ?_
  rw [if_pos (show onTheHeap (Value.ref D) = true from rfl)]
  refine l2.at (wpAny_bind (wpAny_attempt (wpAny_holding ?_)))
  unfold callGetattribute
  rw [n1, if_neg Bool.false_ne_true]
  unfold boundAndCalled
  rw [PySem.F.excAttr_ValueError.ga.bind (.ref x)]
  refine wpAny_bind (wpAny_pure ?_)
  show wpAny _ _ (call (.builtin "BaseException.__getattribute__") [.ref x, .str "__class__" t]) _ _ _
  refine wpAny_call (codeAny_call_builtin PySem.F.excAttr_ValueError.ga.plain PySem.F.entry_bexc_ga (@check_slot (model prog w) _ _ ⟨hp, g, d, t + 1, os⟩ "BaseException.__getattribute__" "BaseException" "__getattribute__" (.ref x) [.str "__class__" t] [] _ (by decide +kernel) (by decide +kernel) isB (PySem.F.args_bexc_ga (.ref x) (.str "__class__" t)) ?_))
  unfold Builtin.«object.__getattribute__»
  refine wpAny_bind (wpAny_of_eq (a := ((Value.ref x : Value), [Value.str "__class__" t])) (by first | rfl | (simp only [slotArgs]; rfl)) ?_)
  refine wpAny_bind (wpAny_pure (wpAny_bind (ty.at (wpAny_bind (l3.at ?_)))))
  show wpAny _ _ (holding [Value.builtin "object.__class__"] (call (.builtin "getset_descriptor.__get__") [.builtin "object.__class__", .ref x, .ref D]) >>= PySem.ret) _ _ _
  refine wpAny_bind (wpAny_holding (wpAny_call (class_get (s := ⟨hp, g, d, t + 1, os⟩) (ox := ox) (od := some od) kin J U.ob (wpAny_pure ?_))))
  show wpAny _ _ (handedOut (.ref D)) _ _ _
  rw [handedOut_of (v := .ref D) rfl]
  first
    | exact wpAny_pure (wpAny_pure go)
    | exact wpAny_pure go
    | exact wpAny_pure (wpAny_bind (wpAny_pure (wpAny_pure go)))
theorem err_kit (T : EkC K D f) (U : EisC K D) : PySem.W.KitX K (.ref x) (.ref D) (fun h => PySem.W.InstAt h x ox D (some od)) := by
  obtain ⟨cd, hc, _⟩ := PySem.W.any_some T.hd
  unfold PySem.W.clsIn at hc
  split at hc
  · rename_i c1 d1 cd1 sl1 there
    refine ⟨fun _ _ _ J => J.type, fun _ h kin _ => ?_, fun h tp dd its n sl kin htp => ?_, fun kin J k => err_class T U kin J k⟩
    · intro A' Q' E' s' k q
      unfold isType loadHead
      exact wpAny_bind (wpAny_loadPart (k _ _ (kin _ _ there)) (wpAny_pure q))
    · refine Bool.eq_false_iff.mpr fun q => ?_
      have e : D = tp := Value.ref.inj (beq_iff_eq.mp q)
      subst e
      have z := (kin _ _ there).symm.trans htp
      cases z
  · cases hc
end
/-- isinstance(error, c), error the one that the suite holds -/
def rErr (K : PySem.W.Frag) (a : Addr) (cls : Value) (d : Option Addr) : List V → Hp → VK → Prop := fun xs H Q => ∃ (D f dd : Addr) (fs : List (Str × V)) (c : V) (cv : Value) (b : Bool), cls = .ref D ∧ d = some dd ∧ EkC K D f ∧ EisC K D ∧ H dd = some (.xd fs) ∧ xs = [.ref a, c] ∧
  (∀ u, RelV c u → u = cv) ∧ PySem.W.kitOne K (.ref D) cv = some b ∧ Q (.bl b) H
theorem err_at {X : Cx} {pins : List (Addr × Obj)} {σ : L2.St} {H : Hp} {s : Shared} {a D dd : Addr} {oe : Obj} {fs : List (Str × V)} {pn : List (Addr × Obj)} (I : Inv (X.suite a ((a, oe) :: pn)) pins σ H s) (hc : oe.cls = .ref D) (hd : oe.dict = some dd) (hf : ∃ vs, oe.data = .fields vs)
    (ht : H dd = some (.xd fs)) : ∃ od, PySem.W.InstAt s.heap a oe D (some od) ∧ ∃ mA : Str → Option Value, (∀ z, RelO (fs.lookup z) (mA z)) ∧ ∀ z, PySem.W.lookIn z od = some (mA z) := by
  obtain ⟨hget, _⟩ := I.pin (a, oe) (List.mem_append.mpr (.inl List.mem_cons_self))
  obtain ⟨vs, hv⟩ := hf
  have x : ObjOk X.prog X.w H s.heap dd (.xd fs) := I.hok dd _ ht
  obtain ⟨mA, hns, hr⟩ := x
  obtain ⟨od, ho, hl⟩ := lookIn_ns hns
  refine ⟨od, ⟨hget, hc, ?_, ?_⟩, mA, hr, hl⟩
  · unfold PySem.W.notCls
    rw [hv]
  · rw [hd]
    exact ho
theorem call_isErr {X : Cx} {a : Addr} {oe : Obj} {cls : Value} {d : Option Addr} {pn : List (Addr × Obj)} (hz : Zc cls d oe) (hf : ∃ vs, oe.data = .fields vs) : CallR (X.suite a ((a, oe) :: pn)) (.builtin "isinstance") (rErr X.K a cls d) := by
  intro pins s σ H xs us Q I r h
  obtain ⟨D, f, dd, fs, c, cv, b, ec, ed, T, U, ht, ex, hcv, e, q⟩ := h
  subst ec ed ex
  cases r with
  | cons rx rr =>
  cases rr with
  | cons rc rn =>
  cases rn
  cases rx
  have eu := hcv _ rc
  subst eu
  obtain ⟨od, J, _⟩ := err_at I hz.1 hz.2 hf ht
  exact PySem.W.kia_one (err_kit T U) I.kIn J e (fun z => nomatch z) fun tk => ⟨.bl b, H, I.kept (t' := tk) fun _ _ z => z, rfl, q⟩
/-- error.at -/
def tErrAt (K : PySem.W.Frag) (a : Addr) (cls : Value) (d : Option Addr) (te : TE) : TE := fun σ H Q => te σ H fun x H1 => ∃ (D f dd : Addr) (fs : List (Str × V)) (v : V), x = .ref a ∧ cls = .ref D ∧ d = some dd ∧ EkC K D f ∧ H1 dd = some (.xd fs) ∧ fs.lookup ("at" : Str) = some v ∧ Q v H1
theorem pe_errAt {X : Cx} {a : Addr} {oe : Obj} {cls : Value} {d : Option Addr} {pn : List (Addr × Obj)} {e : Expr} {te : TE} {pos : Pos} (hz : Zc cls d oe) (hf : ∃ vs, oe.data = .fields vs) (he : PE (X.suite a ((a, oe) :: pn)) e te) (hb : attributeBase e "at" X.env (eval e X.env) = eval e X.env := by rfl) :
    PE (X.suite a ((a, oe) :: pn)) (.Attribute e "at" pos) (tErrAt X.K a cls d te) := by
  constructor
  intro pins s σ H Q I h
  refine attr_of hb (thn (he.run pins s σ H _ I h) fun u s1 hu => ?_)
  obtain ⟨x, H1, I1, rx, D, f, dd, fs, v, ex, ec, ed, T, ht, hl, q⟩ := hu
  subst ex ec ed
  obtain rfl : u = Value.ref a := rx
  obtain ⟨od, J, mA, hr, look⟩ := err_at I1 hz.1 hz.2 hf ht
  obtain ⟨u, hu, ru⟩ := RelO.some_of (v := v) (o := mA ("at" : Str)) (by rw [← hl]; exact hr _)
  exact HandSPX.exc_get I1.kIn J T.ga T.gg T.be (PySem.W.findObj_own T.hd T.na rfl (by rw [look, hu])) (handed_of ru) ⟨v, H1, I1.tok _, ru, q⟩
end DI
set_option maxRecDepth 100000
set_option maxHeartbeats 4000000
namespace DI
open PySem PySem.Spec PyProof.Rows L2

/-! ### try: body, several clauses `except x as n` -/
abbrev Hdl := Addr → Value → Option Addr → TS
inductive HdsN (X : Cx) (n : Str) : List ExceptHandler → List (Value × Hdl) → Prop
  | nil : HdsN X n [] []
  | cons {x : Str} {c : Value} {t : Hdl} {st : Stmt} {rest : List Stmt} {q r : Pos} {hs : List ExceptHandler} {l : List (Value × Hdl)} (names : Names X x c)
      (suite : ∀ (e : Addr) (oe : Obj) (cls : Value) (d : Option Addr) (pn : List (Addr × Obj)), L2N.Zn cls d oe → (∃ vs, oe.data = .fields vs) → PSs (X.suite e ((e, oe) :: pn)) (st :: rest) (t e cls d)) (more : HdsN X n hs l) :
      HdsN X n (.ExceptHandler (some (.Name x q)) (some n) (st :: rest) r :: hs) ((c, t) :: l)
/-- behind a suite the clause's name is gone -/
def ends0 (i : Nat) (D : Ends) : Ends := { nx := fun σ H => D.nx (σ.set i none) H, rt := D.rt, bk := fun σ H => D.bk (σ.set i none) H, ct := fun σ H => D.ct (σ.set i none) H }
def wHds (K : PySem.W.Frag) (i : Nat) (Wout : WX) (D : Ends) : List (Value × Hdl) → WX
  | [] => Wout
  | (c, t) :: l => fun cls d σ H => ∃ b, PySem.W.exmOne K cls c = some b ∧ (b = true → ∀ e, H e = none → t e cls d (ends0 i D) (σ.set i (some (.ref e))) H) ∧ (b = false → wHds K i Wout D l cls d σ H)
section
variable {X : Cx} {n : Str} {i : Nat} {body : List Stmt} {h0 : ExceptHandler} {hds : List ExceptHandler} {l : List (Value × Hdl)} {pos : Pos} {tb : WX → TS} {Wout : WX}
theorem ps_tryN (hst : X.stack = X.env :: X.outer) (hfrm : X.env.frame = some X.env.locals) (nd : X.N.Nodup) (at_ : X.N[i]? = some n) (loc : X.env.kindOf n = some .local) (tk : L2N.Takes X Wout)
    (hbody : ∀ (W : WX) (pn : List (Addr × Obj)) (xe : Value → Shared → Prop), L2N.Takes (X.tr pn xe) W → PassesOwn (model X.prog X.w) X.A X.env xe → PSs (X.tr pn xe) body (tb W)) (hh : HdsN X n (h0 :: hds) l) :
    PS X (.Try body (h0 :: hds) [] [] pos) (fun D σ H => tb (wHds X.K i Wout D l) D σ H) := by
  constructor
  intro pins s σ H D I h
  have ok := I.ok
  have frames : X.A.frames = some (X.env :: X.outer) := by rw [ok.frames, hst]
  refine wpAny_Try_except ?_
  refine wpAny_mono ((hbody (wHds X.K i Wout D l) (X.pn ++ pins) (fun u s1 => wpAny (model X.prog X.w) X.A (noteFrame u X.env) (fun _ s2 => wpAny (model X.prog X.w) X.A (setFlight u none) (fun _ s3 =>
    wpAny (model X.prog X.w) X.A (handleBy u X.env (h0 :: hds)) (SP X pins D) X.xe s3) X.xe s2) X.xe s1) (fun u s1 air => ?_) PassesOwn.looking).run [] s σ H D (I.toTry _) h) (fun fl s1 ended => ?_) (fun u s1 he => he)
  · obtain ⟨e, B, sI, pins1, σ1, H1, cls, d, rfl, J0, nb, up, sky, ne, os, ag, w⟩ := air
    have J : Inv X pins σ1 H1 sI := J0.ofTry ok
    have sky1 : Sky B (X.env :: X.outer) e (L2N.Zn cls d) X.env.locals s1.heap := by
      rw [← hst]
      exact sky
    show wpAny (model X.prog X.w) X.A (noteFrame (.ref e) X.env) _ _ _
    refine L2N.Sky.land L2N.Zn.steady frames hfrm sky1 fun g3 fly3 up3 => ?_
    have J3 : Inv X pins σ1 H1 { s1 with heap := g3 } := J.landed nb fly3.1 (up.trans up3) os ag
    obtain ⟨o3, vs3, there3, zn3, data3⟩ := fly3.there
    have offFrames : e ∉ frs (X.env :: X.outer) := fun hm => by
      obtain ⟨_, o, ho, no⟩ := fly3.2.2.1.mem hm
      rw [there3] at ho
      cases ho
      exact no vs3 data3
    have offL : e ≠ X.env.locals := fun z => offFrames (List.mem_filterMap.mpr ⟨X.env, List.mem_cons_self, by rw [hfrm, z]⟩)
    have offF : e ∉ X.fs := fun hm => by
      obtain ⟨v, hv, q⟩ := List.mem_filterMap.mp hm
      exact offFrames (List.mem_filterMap.mpr ⟨v, List.mem_cons_of_mem _ hv, q⟩)
    have U3 := J3.suite there3 data3 ne offL offF
    have clauses : ∀ {hs : List ExceptHandler} {m : List (Value × Hdl)}, HdsN X n hs m → wHds X.K i Wout D m cls d σ1 H1 → wpAny (model X.prog X.w) X.A (handleBy (.ref e) X.env hs) (SP X pins D) X.xe { s1 with heap := g3 } := by
      intro hs m hk
      induction hk with
      | nil =>
        intro w
        refine wpAny_handleBy_nil ?_
        obtain ⟨k1, k2, k3, oe, vs, T, oT, ts, he, hz, hd, h1, hr⟩ := id fly3
        unfold PySem.passOn
        refine wpAny_bind (wpAny_field he hd h1 ?_)
        rw [if_neg (show ¬ ((Value.ref T == Value.none) = true) from by simp)]
        have on : wpAny (model X.prog X.w) X.A (setFlight (.ref e) X.env.frame) (fun _ s4 => wpAny (model X.prog X.w) X.A (throw (.ref e) : Sem Flow) (SP X pins D) X.xe s4) X.xe { s1 with heap := g3 } := by
          rw [hfrm]
          refine HandSPX.setFlight_upZ fly3 fun g4 held up4 => wpAny_throw (tk _ _ ⟨e, B, sI, pins, σ1, H1, cls, d, rfl, J, nb, (up.trans up3).trans up4, .inr (.inr ?_), ne, os, ag, w⟩)
          rw [hst]
          exact held
        first
          | exact wpAny_bind (wpAny_pure (wpAny_bind on))
          | exact wpAny_bind on
      | @cons x c t st rest q r hs2 m2 names suite more ih =>
        intro w
        obtain ⟨b, said, yes, no⟩ := w
        refine wpAny_handleBy_cons (codeAny_handlers_test ?_) (by intro z; cases z)
        have ty : PySem.W.Looks (model X.prog X.w) g3 (typeOf (.ref e)) cls := fun A Q E s k z => wpAny_typeOf_ref (k _ _ there3) (by rw [zn3.1]; exact z)
        have is_ := PySem.W.exm_one (M := model X.prog X.w) J3.kIn ty said
        have name : ∀ {Q : Value → Shared → Prop} {E : Value → Shared → Prop}, Q c { s1 with heap := g3 } → wpAny (model X.prog X.w) (X.A.mark (some (.ref e))) (eval (.Name x q) X.env) Q E { s1 with heap := g3 } := fun {Q E} z => by
          obtain ⟨hg, hdb, hm | ⟨hm, hv, hn⟩⟩ := names
          · exact ld_glob (X := X.suite e ((e, o3) :: (X.pn ++ pins))) U3 hg hm z hdb
          · exact ld_blt (X := X.suite e ((e, o3) :: (X.pn ++ pins))) U3 hg hm hv z hn hdb
        refine name (is_.here ?_)
        cases b with
        | false =>
          show wpAny _ X.A (handleBy (.ref e) X.env hs2) _ _ _
          exact ih (no rfl)
        | true =>
          refine codeAny_handlers_suite_as (HandSPX.lands_againZ fly3 fun g4 fly4 up4 => ?_)
          have J4 : Inv X pins σ1 H1 { s1 with heap := g4 } := J.landed nb fly4.1 ((up.trans up3).trans up4) os ag
          obtain ⟨o4, vs4, there4, zn4, data4⟩ := fly4.there
          have U4 := J4.suite there4 data4 ne offL offF
          refine store_ok (X := X.suite e ((e, o4) :: (X.pn ++ pins))) (v := .ref e) U4 nd at_ (.inl loc) rfl (fun s5 U5 => ?_) (.inr loc)
          refine wpAny_mono ((suite e o4 cls d (X.pn ++ pins) zn4 ⟨_, data4⟩).run [] s5 _ H1 _ U5 (yes rfl e ne)) (fun fl s6 ended => ?_) (fun _ _ z => False.elim z)
          have gone : ∀ {σ6 : L2.St} {H6 : Hp} {Q : Shared → Prop}, Inv (X.suite e ((e, o4) :: (X.pn ++ pins))) [] σ6 H6 s6 → (∀ s7, Inv X pins (σ6.set i none) H6 s7 → Q s7) →
              wpAny (model X.prog X.w) X.A (do bindName X.env n .none; unbindBehindTheSuite X.env n r) (fun _ s7 => Q s7) X.xe s6 := fun {σ6 H6 Q} U6 hq => gone_ok (U6.unsuite ok) nd at_ loc hq
          cases fl with
          | ret u =>
            obtain ⟨v6, σ6, H6, U6, r6, q6⟩ := ended
            exact gone U6 fun s7 J7 => ⟨_, _, _, J7, r6, q6⟩
          | next =>
            obtain ⟨σ6, H6, U6, q6⟩ := ended
            exact gone U6 fun s7 J7 => ⟨_, _, J7, q6⟩
          | brk =>
            obtain ⟨σ6, H6, U6, q6⟩ := ended
            exact gone U6 fun s7 J7 => ⟨_, _, J7, q6⟩
          | cont =>
            obtain ⟨σ6, H6, U6, q6⟩ := ended
            exact gone U6 fun s7 J7 => ⟨_, _, J7, q6⟩
    exact clauses hh w
  · cases fl with
    | ret u =>
      obtain ⟨v, σ1, H1, J, r, q⟩ := ended
      exact ⟨v, σ1, H1, J.ofTry ok, r, q⟩
    | next =>
      obtain ⟨σ1, H1, J, q⟩ := ended
      exact wpAny_execs_nil ⟨σ1, H1, J.ofTry ok, q⟩
    | brk =>
      obtain ⟨σ1, H1, J, q⟩ := ended
      exact ⟨σ1, H1, J.ofTry ok, q⟩
    | cont =>
      obtain ⟨σ1, H1, J, q⟩ := ended
      exact ⟨σ1, H1, J.ofTry ok, q⟩
end
end DI
set_option maxRecDepth 100000
set_option maxHeartbeats 4000000
namespace DI
open PySem PySem.Spec PyProof.Rows L2

/-! ### try: body, except x as n: return error.at | return ("..", error.at) -/
inductive HK where
  | at_
  | tag (s : Str)
def HK.val (d : D) : HK → D
  | .at_ => d
  | .tag s => .tup [.str s, d]
def kOf (n : Str) : List Stmt → Option HK
  | [.Return (some (.Attribute (.Name y _) f _)) _] => if y = n ∧ f = ("at" : Str) then some .at_ else none
  | [.Return (some (.Tuple [.Constant (.str s) _ _, .Attribute (.Name y _) f _] _ _)) _] => if y = n ∧ f = ("at" : Str) then some (.tag s) else none
  | _ => none
/-- the class c is the class x or below it -/
def rel (c x : Str) : Bool := c == x || x == ("PageError" : Str)
def pick (c : Str) : List (Str × HK) → Option HK
  | [] => none
  | (x, k) :: l => if rel c x then some k else pick c l
def tryS (i : Nat) (b : SDen) (l : List (Str × HK)) : SDen := fun ρ => match b ρ with
  | some (.exc c d ρ') => if i < ρ'.length then match pick c l with
    | some k => some (.ret (.val (k.val d)) ρ')
    | none => some (.exc c d ρ')
    else none
  | o => o
def tK (K : PySem.W.Frag) (i : Nat) (e : Addr) (cls : Value) (d : Option Addr) : HK → TE
  | .at_ => tErrAt K e cls d (tVar i)
  | .tag s => tTup (tCons (tC (.str s)) (tCons (tErrAt K e cls d (tVar i)) tNil))
section
variable {X : Cx} {C : Ck} {i : Nat} {n : Str}
theorem k_ok (nd : X.N.Nodup) (at_ : X.N[i]? = some n) (loc : X.env.scope.names.lookup n = some .local) (h1 : (n == ("__debug__" : Str)) = false) (h2 : (n == ("__classdict__" : Str)) = false) {ss : List Stmt} {k : HK} (hk : kOf n ss = some k)
    {e : Addr} {oe : Obj} {cls : Value} {d : Option Addr} {pn : List (Addr × Obj)} (hz : L2N.Zn cls d oe) (hf : ∃ vs, oe.data = .fields vs) : PSs (X.suite e ((e, oe) :: pn)) ss (tRet (tK X.K i e cls d k)) ∧ ∃ st rest, ss = st :: rest := by
  have name : ∀ p : Pos, PE (X.suite e ((e, oe) :: pn)) (.Name n p) (tVar i) := fun p => pe_var (i := i) at_ (.inl loc) h1 h2
  unfold kOf at hk
  split at hk
  · rename_i y p1 f p2 p3
    split at hk
    · rename_i q
      obtain ⟨rfl, rfl⟩ := q
      cases hk
      exact ⟨pss_one (ps_ret (pe_errAt hz.zc hf (name _))), _, _, rfl⟩
    · cases hk
  · rename_i s p0 p1 y p2 f p3 p4 p5 p6
    split at hk
    · rename_i q
      obtain ⟨rfl, rfl⟩ := q
      cases hk
      exact ⟨pss_one (ps_ret (pe_tup (pa_cons pe_str (pa_cons (pe_errAt hz.zc hf (name _)) pa_nil)))), _, _, rfl⟩
    · cases hk
  · cases hk
def hdsOf (n : Str) : List ExceptHandler → Option (List (Str × HK))
  | [] => some []
  | .ExceptHandler (some (.Name x _)) (some m) ss _ :: r => if m = n then match kOf n ss, hdsOf n r with
      | some k, some l => some ((x, k) :: l)
      | _, _ => none
    else none
  | _ => none
def ad (X : Cx) (x : Str) : Addr := match X.mg x with
  | some (.ref a) => a
  | _ => 0
def hdl1 (X : Cx) (i : Nat) (p : Str × HK) : Value × Hdl := (.ref (ad X p.1), fun e cls d => tRet (tK X.K i e cls d p.2))
theorem hds_ok (nd : X.N.Nodup) (at_ : X.N[i]? = some n) (loc : X.env.scope.names.lookup n = some .local) (h1 : (n == ("__debug__" : Str)) = false) (h2 : (n == ("__classdict__" : Str)) = false) : ∀ {hs : List ExceptHandler} {l : List (Str × HK)}, hdsOf n hs = some l →
    (∀ p ∈ l, Names X p.1 (.ref (ad X p.1))) → HdsN X n hs (l.map (hdl1 X i))
  := by
  intro hs
  induction hs with
  | nil =>
    intro l e _
    simp only [hdsOf, Option.some.injEq] at e
    subst e
    exact .nil
  | cons h hs ih =>
    intro l e hn
    unfold hdsOf at e
    split at e
    · cases ‹_ = ([] : List ExceptHandler)›
    · rename_i x p m ss q r heq
      cases heq
      split at e
      · rename_i hm
        subst hm
        split at e
        · rename_i k l' hk hl
          cases e
          obtain ⟨st, rest, rfl⟩ : ∃ st rest, ss = st :: rest := by
            cases ss with
            | nil => simp [kOf] at hk
            | cons st rest => exact ⟨st, rest, rfl⟩
          exact .cons (hn _ (List.mem_cons_self ..)) (fun e oe cls d pn hz hf => (k_ok nd at_ loc h1 h2 hk hz hf).1) (ih hl fun p hp => hn p (List.mem_cons_of_mem _ hp))
        · cases e
      · cases e
    · cases e
theorem pick_ok {c : Str} {d : D} {A dd : Addr} {v : V} {σ : L2.St} {ρ : Rho} {Hf Hf' H : Hp} {D : Ends} (S : Stt C.W Hf' H σ ρ) (ex : Ex Hf Hf') (hd : H dd = some (.xd [(("at" : Str), v)])) (r : Rp C.W.K Hf' v d) (hK : X.K = C.W.K.K) (hi : i < ρ.length) :
    ∀ {l : List (Str × HK)}, (∀ p ∈ l, (∃ f, EkC X.K A f) ∧ PySem.W.exmOne X.K (.ref A) (.ref (ad X p.1)) = some (rel c p.1)) →
    (match pick c l with | some k => FinS C D Hf (.ret (.val (k.val d)) ρ) | none => C.Wx (.ref A) (some dd) σ H) → wHds X.K i C.Wx D (l.map (hdl1 X i)) (.ref A) (some dd) σ H
  | [], _, h => h
  | (x, k) :: l, hx, h => by
    refine ⟨rel c x, (hx _ (List.mem_cons_self ..)).2, fun hb e ne => ?_, fun hb => ?_⟩
    · have hp : pick c ((x, k) :: l) = some k := if_pos hb
      rw [hp] at h
      obtain ⟨f, T⟩ := (hx _ (List.mem_cons_self ..)).1
      have slot : (σ.set i (some (V.ref e)))[i]? = some (some (.ref e)) := List.getElem?_set_self (by rw [S.len]; exact hi)
      have h' : ∀ v σ' Hf1 H', Stt C.W Hf1 H' σ' ρ → Ex Hf Hf1 → RvR C.W Hf1 H' (.val (k.val d)) v → D.rt v H' := h
      cases k with
      | at_ => exact ⟨_, slot, A, f, dd, _, v, rfl, rfl, rfl, T, hd, rfl, h' v σ Hf' H S ex r⟩
      | tag s =>
        refine ⟨_, slot, A, f, dd, _, v, rfl, rfl, rfl, T, hd, rfl, by show 2 ≤ sizeLine; decide, fun p np => ?_⟩
        obtain ⟨S2, e1, e2⟩ := S.laid (o := .tup [.str s, v]) np
        exact h' (.ref p) σ _ _ S2 (ex.trans e1) (.tup (.inl (.inl upd_same)) (.cons (.str s) (.cons (r.mono e1) .nil)))
    · have hp : pick c ((x, k) :: l) = pick c l := if_neg (by rw [hb]; decide)
      rw [hp] at h
      exact pick_ok S ex hd r hK hi (fun p hp => hx p (List.mem_cons_of_mem _ hp)) h
theorem ps_tryD (hst : X.stack = X.env :: X.outer) (hfrm : X.env.frame = some X.env.locals) (nd : X.N.Nodup) (at_ : X.N[i]? = some n) (loc : X.env.scope.names.lookup n = some .local) (h1 : (n == ("__debug__" : Str)) = false) (h2 : (n == ("__classdict__" : Str)) = false)
    (tk : L2N.Takes X C.Wx) (hK : X.K = C.W.K.K) {body : List Stmt} {bd : SDen} {h0 : ExceptHandler} {hs : List ExceptHandler} {l : List (Str × HK)} {pos : Pos} (hl : hdsOf n (h0 :: hs) = some l) (hn : ∀ p ∈ l, Names X p.1 (.ref (ad X p.1)))
    (hc : ∀ c A, C.ca c = some A → ∀ p ∈ l, (∃ f, EkC X.K A f) ∧ PySem.W.exmOne X.K (.ref A) (.ref (ad X p.1)) = some (rel c p.1))
    (hbody : ∀ (W : WX) (pn : List (Addr × Obj)) (xe : Value → Shared → Prop), L2N.Takes (X.tr pn xe) W → PassesOwn (model X.prog X.w) X.A X.env xe → PSs (X.tr pn xe) body (tSt ⟨C.W, W, C.ca⟩ bd)) :
    PS X (.Try body (h0 :: hs) [] [] pos) (tSt C (tryS i bd l)) := by
  refine (ps_tryN (i := i) (tb := fun W => tSt ⟨C.W, W, C.ca⟩ bd) hst hfrm nd at_ loc tk hbody (hds_ok nd at_ loc h1 h2 hl hn)).imp fun D σ H h => ?_
  obtain ⟨Hf, ρ, o, S, e, f⟩ := h
  unfold tryS at e
  cases hb : bd ρ with
  | none =>
    rw [hb] at e
    cases e
  | some ob =>
    rw [hb] at e
    refine ⟨Hf, ρ, ob, S, hb, ?_⟩
    cases ob with
    | next ρ' =>
      cases e
      exact f
    | ret r ρ' =>
      cases e
      exact f
    | brk ρ' =>
      cases e
      exact f
    | cont ρ' =>
      cases e
      exact f
    | exc c d ρ' =>
      intro σ' Hf' H' A dd v S' ex ca hd hn' r
      have hx := hc c A ca
      by_cases hi : i < ρ'.length
      · refine pick_ok (C := C) (Hf := Hf) S' ex hd r hK hi hx ?_
        simp only [hi, if_true] at e
        cases hp : pick c l with
        | some k =>
          rw [hp] at e
          cases e
          exact f
        | none =>
          rw [hp] at e
          cases e
          exact f σ' Hf' H' A dd v S' ex ca hd hn' r
      · simp only [hi, if_false] at e
        cases e
end
end DI
set_option maxRecDepth 100000
set_option maxHeartbeats 4000000
namespace DI
open PySem PySem.Spec PyProof.Rows L2

/-! ### own classes: fields -/
def putD (f : Str) (d : D) : List (Str × D) → List (Str × D)
  | [] => [(f, d)]
  | (g, x) :: r => if g = f then (g, d) :: r else (g, x) :: putD f d r
theorem RpF.put {K : Kc} {H : Hp} {f : Str} {v : V} {d : D} (r : Rp K H v d) : ∀ {gs : List (Str × D)} {fs : List (Str × V)}, RpF K H fs gs → RpF K H (putF f v fs) (putD f d gs)
  | [], _, h => by
    cases h
    exact .cons r .nil
  | (g, x) :: gs, _, h => by
    cases h with
    | cons a b =>
      unfold putD putF
      split
      · exact .cons r b
      · exact .cons a (RpF.put r b)
theorem MOk.ins_inv {K : Kc} {Hf H : Hp} {p : Addr} {c : Str} {gs : List (Str × D)} (h : MOk K Hf H p (.ins c gs)) : ∃ A dx fs, K.cl c = some A ∧ Hf p = none ∧ H p = some (.ins A dx fs) ∧ RpF K Hf fs gs := by
  cases h with
  | ins z a b r => exact ⟨_, _, _, z, a, b, r⟩
theorem Rp.obj_inv {K : Kc} {H : Hp} {v : V} {c : Str} {gs : List (Str × D)} (h : Rp K H v (.obj c gs)) : ∃ a A dx fs, v = .ref a ∧ K.cl c = some A ∧ H a = some (.ins A dx fs) ∧ RpF K H fs gs := by
  cases h with
  | obj z b r => exact ⟨_, _, _, _, rfl, z, b, r⟩
theorem RpC.obj {K : Kc} {Hf H : Hp} {v : V} {c : Str} {gs : List (Str × D)} (h : RpC K Hf H v (.obj c gs)) (e : Ex Hf H) : ∃ a A dx fs, v = .ref a ∧ K.cl c = some A ∧ H a = some (.ins A dx fs) ∧ RpF K Hf fs gs := by
  generalize hd : D.obj c gs = d at h
  cases h with
  | pl r =>
    subst hd
    obtain ⟨a, A, dx, fs, e1, e2, e3, e4⟩ := r.obj_inv
    exact ⟨a, A, dx, fs, e1, e2, e _ _ e3, e4⟩
  | @ow p m mo =>
    cases m with
    | lst ds => cases hd
    | ins c2 gs2 =>
      cases hd
      obtain ⟨A, dx, fs, z, _, b, r⟩ := mo.ins_inv
      exact ⟨p, A, dx, fs, rfl, z, b, r⟩
section
variable {C : Ck} {X : Cx}
/-- s.f = e, s a name's own instance -/
def setFS (s : Nat) (f : Str) (x : Den D) : SDen := bS x fun d => bS (slotC s) fun _ => fun ρ => match getM s ρ with
  | some (.ins c gs) => if gs.length < 1000 then (setM s (.ins c (putD f d gs)) ρ).map .next else none
  | _ => none
theorem ps_setFD (hK : X.K = C.W.K.K) (O : OwnT C.W.K) {f : Str} (no : ∀ c A, C.W.K.cl c = some A → NoAttr X.K A f) {y : Str} {s : Nat} {e : Expr} {x : Den D} {p p2 pos : Pos} (hN : X.N[s]? = some y) (hv : Vis X.env.scope y) (h1 : (y == ("__debug__" : Str)) = false)
    (h2 : (y == ("__classdict__" : Str)) = false) (h : PE X e (tG C lD x)) (hs : swapsWith e (some (.Attribute (.Name y p) f p2)) pos.line X.env = pure false) : PS X (.Assign [.Attribute (.Name y p) f p2] e pos) (tSt C (setFS s f x)) := by
  refine (ps_fld (pe_var (i := s) hN hv h1 h2) h hs).imp fun E σ H q => ?_
  obtain ⟨Hf, ρ, o, S, e, fin⟩ := q
  refine bS_inv (P := lD) S e fin fun v H1 Hf1 ρ1 d S1 ex1 l e1 f1 => ?_
  refine bS_slot (Q' := fun x H2 => ∃ a A dx fs, x = .ref a ∧ H2 a = some (.ins A dx fs) ∧ Cls X.K A ∧ NoAttr X.K A f ∧ fs.length < 1000 ∧ E.nx σ (upd H2 a (.ins A dx (putF f v fs)))) S1 e1 f1 fun u hu e2 => ?_
  split at e2
  · rename_i c gs gm
    split at e2
    · rename_i hl
      rw [Option.map_eq_some_iff] at e2
      obtain ⟨ρ', e2, rfl⟩ := e2
      obtain ⟨p, rfl, mo⟩ := getM_ok S1 hu gm
      obtain ⟨A, dx, fs, cl, n0, he, rf⟩ := mo.ins_inv
      refine ⟨p, A, dx, fs, rfl, he, hK ▸ (O.ty c A cl).1, no c A cl, by rw [rf.length]; exact hl, ?_⟩
      exact f1 σ Hf1 _ (setM_ok S1 hu gm (.ins cl n0 upd_same (rf.put l)) e2) (Evl.Ex.refl _)
    · cases e2
  · cases e2
/-- e.f, a field -/
def fldV (f : Str) (x : Den CO) : Den RV := bnd x fun c => fun ρ => match coGet ρ c with
  | some (.obj _ gs) => (gs.lookup f).map fun d => .ok (.val d) ρ
  | _ => none
theorem pe_fldD (hK : X.K = C.W.K.K) (O : OwnT C.W.K) {f : Str} (no : ∀ c A, C.W.K.cl c = some A → NoAttr X.K A f) {e : Expr} {x : Den CO} {pos : Pos} (h : PE X e (tG C lC x)) (hb : attributeBase e f X.env (eval e X.env) = eval e X.env) : PE X (.Attribute e f pos) (tG C lV (fldV f x)) := by
  refine (pe_fld h hb).imp fun σ H Q hq => ?_
  obtain ⟨Hf, ρ, o, S, e, fin⟩ := hq
  refine tG_bnd' S e fin fun v H1 Hf1 ρ1 c S1 ex1 l e1 f1 => ?_
  split at e1
  · rename_i n gs g
    rw [Option.map_eq_some_iff] at e1
    obtain ⟨d, hd, rfl⟩ := e1
    have r := lC.get l S1 (Evl.Ex.refl _) g
    obtain ⟨a, A, dx, fs, rfl, cl, he, rf⟩ := RpC.obj r S1.ex
    obtain ⟨u, hu, ru⟩ := rf.lookup hd
    exact ⟨a, A, dx, fs, u, rfl, he, hK ▸ (O.ty n A cl).1, no n A cl, hu, f1 u Hf1 H1 S1 (Evl.Ex.refl _) ru⟩
  · cases e1
end

/-! ### own classes: a new instance -/
def shiftO : List (Nat × M) → List (Nat × M)
  | [] => []
  | (0, _) :: o => shiftO o
  | (k + 1, m) :: o => (k, m) :: shiftO o
theorem shift_get {i : Nat} : ∀ {o : List (Nat × M)}, (shiftO o).lookup i = o.lookup (i + 1)
  | [] => rfl
  | (0, m) :: o => by
    have z : (i + 1 == 0) = false := by simp
    show (shiftO o).lookup i = _
    rw [List.lookup_cons, z]
    exact shift_get
  | (k + 1, m) :: o => by
    show List.lookup i ((k, m) :: shiftO o) = _
    rw [List.lookup_cons, List.lookup_cons]
    by_cases h : i = k
    · subst h
      simp
    · have z1 : (i == k) = false := by simpa using h
      have z2 : (i + 1 == k + 1) = false := by simpa using h
      rw [z1, z2]
      exact shift_get
section
variable {K : Kc} {Hf H Hf' H' : Hp} {as : List Arg} {vs : List V} {outs : List (Nat × M)} {x dx A : Addr} {c : Str}
theorem back_new (nx : H x = none) (nd : H dx = none) (ne : dx ≠ x) (B : Back K Hf (upd (upd H dx (.own x)) x (.ins A dx [])) (.ref (.ins c []) :: as) (.ref x :: vs) outs Hf' H') :
    Back K Hf H as vs (shiftO outs) Hf' H' ∧ ∃ m, outs.lookup 0 = some m ∧ MOk K Hf' H' x m := by
  have up : ∀ a o, H a = some o → (upd (upd H dx (.own x)) x (.ins A dx [])) a = some o := fun a o h => by
    rw [upd_ne (ne_of_none h nx), upd_ne (ne_of_none h nd)]
    exact h
  have down : ∀ a, (upd (upd H dx (.own x)) x (.ins A dx [])) a = none → H a = none := fun a h => by
    cases z : H a with
    | none => rfl
    | some o =>
      rw [up a o z] at h
      cases h
  refine ⟨⟨B.ex, B.grow, fun a o h => ?_, fun a o h n => ?_, fun a o h => B.live a o (up a o h), fun i p h => ?_⟩, B.outs 0 x rfl⟩
  · rcases B.frozen a o h with z | z
    · exact .inl z
    · exact .inr (down a z)
  · refine B.keep a o (up a o h) fun i q => ?_
    cases i with
    | zero =>
      have e : some x = some a := q
      cases e
      rw [nx] at h
      cases h
    | succ i => exact n i q
  · obtain ⟨m, h1, h2⟩ := B.outs (i + 1) p h
    exact ⟨m, by rw [shift_get]; exact h1, h2⟩
end
def newV (c : Str) (n : Nat) (f : FM) (cs : List CO) : Den RV := fun ρ => match argsOf ρ cs with
  | none => none
  | some as => if (slotsOf cs).Nodup ∧ as.length = n then match f (.ref (.ins c []) :: as) with
      | some (.ret (.val .non) outs) => (outs.lookup 0).map fun m => .ok (.new m) (upA (updOf 0 cs (shiftO outs)) 0 ρ)
      | some (.exc e d outs) => some (.exc e d (upA (updOf 0 cs (shiftO outs)) 0 ρ))
      | _ => none
    else none
section
variable {C : Ck} {X : Cx}
theorem new_core {n : Nat} {f : FM} {ca : Str → Option Addr} (hca : C.ca = ca) {c : Str} {A : Addr} (cl : C.W.K.cl c = some A) {σ : L2.St} {H Hf : Hp} {ρ : Rho} {cs : List CO} {vs : List V} {o : Out RV} {Q : VK} (S : Stt C.W Hf H σ ρ) (l : lCs C.W Hf H σ ρ cs vs) (e : newV c n f cs ρ = some o)
    (fin : Fin C lV σ Hf o Q) {x dx : Addr} (nx : H x = none) (nd : H dx = none) (ne : dx ≠ x) :
    spOf C.W.K ca (n + 1) f (.ref x :: vs) (upd (upd H dx (.own x)) x (.ins A dx [])) (fun v H2 => v = .non ∧ Q (.ref x) H2) (WE C.Wx σ) := by
  have up : ∀ a o, H a = some o → (upd (upd H dx (.own x)) x (.ins A dx [])) a = some o := fun a o h => by
    rw [upd_ne (ne_of_none h nx), upd_ne (ne_of_none h nd)]
    exact h
  have down : ∀ a, (upd (upd H dx (.own x)) x (.ins A dx [])) a = none → H a = none := fun a h => by
    cases z : H a with
    | none => rfl
    | some o =>
      rw [up a o z] at h
      cases h
  have fx : Hf x = none := Evl.fresh_back S.ex nx
  unfold newV at e
  split at e
  · cases e
  · rename_i as ha
    split at e
    · rename_i hnd
      have hp : ∀ {as : List Arg} {vs : List V}, Paired (ArgOk C.W.K Hf H) as vs → Paired (ArgOk C.W.K Hf (upd (upd H dx (.own x)) x (.ins A dx []))) as vs := fun {as vs} p => by
        induction p with
        | nil => exact .nil
        | @cons a v _ _ r _ ih =>
          refine .cons ?_ ih
          cases a with
          | val d => exact r
          | ref m =>
            obtain ⟨q, e, mo⟩ := r
            exact ⟨q, e, mo.mono (Evl.Ex.refl _) mo.no (up q)⟩
      have pa : Paired (ArgOk C.W.K Hf (upd (upd H dx (.own x)) x (.ins A dx []))) (.ref (.ins c []) :: as) (.ref x :: vs) := .cons ⟨x, rfl, .ins cl fx upd_same .nil⟩ (hp (args_ok S l ha))
      have inj : ∀ i j p, rfF (.ref (.ins c []) :: as) (.ref x :: vs) i = some p → rfF (.ref (.ins c []) :: as) (.ref x :: vs) j = some p → i = j := by
        have far : ∀ i, rfF as vs i ≠ some x := fun i h => by
          obtain ⟨s, m, _, e1, g1⟩ := rf_slot S l ha h
          obtain ⟨p, e2, mo⟩ := getM_ok S e1 g1
          cases e2
          obtain ⟨o, z⟩ := mo.there
          rw [nx] at z
          cases z
        intro i j p h1 h2
        cases i with
        | zero =>
          cases j with
          | zero => rfl
          | succ j =>
            have e1 : some x = some p := h1
            cases e1
            exact absurd h2 (far j)
        | succ i =>
          cases j with
          | zero =>
            have e1 : some x = some p := h2
            cases e1
            exact absurd h1 (far i)
          | succ j => exact congrArg Nat.succ (args_inj S l ha hnd.1 i j p h1 h2)
      cases hf : f (.ref (.ins c []) :: as) with
      | none =>
        rw [hf] at e
        cases e
      | some r =>
        rw [hf] at e
        refine ⟨Hf, _, r, by simp [hnd.2], pa, fun a o h => up a o (S.ex a o h), inj, hf, ?_⟩
        cases r with
        | ret rv outs =>
          intro v Hf' H' B rr
          obtain ⟨B', m, hm, mo⟩ := back_new nx nd ne B
          have S' := called S l ha hnd.1 B'
          cases rv with
          | new m2 => cases e
          | val d =>
            cases d with
            | non =>
              simp only [hm, Option.map_some] at e
              cases e
              cases (show Rp C.W.K Hf' v .non from rr)
              exact ⟨rfl, fin (.ref x) Hf' H' S' B.grow ⟨x, rfl, S.H0none nx, mo, (S.apart nx).up (k := 0)⟩⟩
            | _ => cases e
        | exc en d outs =>
          cases e
          intro Hf' H' A' dd v B h1 h2 h3 h4
          exact fin Hf' H' A' dd v (called S l ha hnd.1 (back_new nx nd ne B).1) B.grow (hca ▸ h1) h2 (S.H0none (down dd h3)) h4
    · cases e
theorem run_newS {CX : CXT} {k : Nat} {A f : Addr} {fd : FuncData} {ps : List Str} {sp : Sp} {E : XK} {pins : List (Addr × Obj)} {σ : L2.St} {H : Hp} {s : Shared} {Q : VK} {us : List Value} {vs : List V} (T : Mk X.K A f)
    (F : FnOk X.prog X.w X.K X.mg X.base CX k f fd ps sp) (hr : Room (k + 1) X.A) (hb : Binds X.K fd ps []) (hx : PassesAt CX X σ E) (I : Inv X pins σ H s) (r : Vals vs us)
    (go : ∀ x dx, H x = none → H dx = none → dx ≠ x → sp (.ref x :: vs) (upd (upd H dx (.own x)) x (.ins A dx [])) (fun v H2 => v = .non ∧ Q (.ref x) H2) E) : wpAny (model X.prog X.w) X.A (call (.ref A) us) (EP X pins σ Q) X.xe s := by
  have at1 : H (s.heap.objs.size + 1) = none := I.hok.fresh (Nat.le_succ _)
  have at0 : H s.heap.objs.size = none := I.hok.fresh (Nat.le_refl _)
  have said := go _ _ at1 at0 (Nat.ne_of_lt (Nat.lt_succ_self _))
  have J := Inv.made (C := A) I
  have rr : Vals (V.ref (s.heap.objs.size + 1) :: vs) (Value.ref (s.heap.objs.size + 1) :: us) := .cons rfl r
  have len : (Value.ref (s.heap.objs.size + 1) :: us ++ []).length = ps.length := by
    rw [List.append_nil, ← rr.length]
    exact F.len _ _ _ _ said
  have bound := hb _ (Value.ref (s.heap.objs.size + 1) :: us) J.kIn len
  rw [List.append_nil] at bound
  refine wpAny_call (make_map (f := f) I.kIn T.makes T.init (beq_iff_eq.mp T.fn) (codeAny_mono (F.run _ X.stack _ _ ⟨Value.ref (s.heap.objs.size + 1) :: us, []⟩ (Value.ref (s.heap.objs.size + 1) :: us) _ _ E (hr.make A us []) (J.env0.make A us []) bound rr said) fun res s2 h => ?_))
  cases res with
  | error e => exact hx pins _ _ e s2 J h
  | ok fl =>
    cases fl with
    | ret u =>
      obtain ⟨v, H2, J2, rv, ev, q⟩ := J.after h
      subst ev
      exact ⟨rv, ⟨V.ref (s.heap.objs.size + 1), H2, J2, rfl, q⟩⟩
    | next => exact False.elim h
    | brk => exact False.elim h
    | cont => exact False.elim h
theorem pe_newD {k n : Nat} {A f : Addr} {fd : FuncData} {ps : List Str} {fm : FM} {x : Str} {p pos : Pos} {e : Expr} {es : List Expr} {args : Den (List CO)} {ca : Str → Option Addr} (hca : C.ca = ca) (cl : C.W.K.cl x = some A) (T : Mk X.K A f)
    (F : FnOk X.prog X.w X.K X.mg X.base (L2N.CX X.prog X.w) k f fd ps (spOf C.W.K ca (n + 1) fm)) (hr : Room (k + 1) X.A) (hg : Gl X x) (hm : X.mg x = some (.ref A)) (hb : Binds X.K fd ps []) (tk : L2N.Takes X C.Wx)
    (ha : PA X (e :: es) (tG C lCs args)) (hdb : (x == ("__debug__" : Str)) = false) (hs : (e :: es).all notStar = true) : PE X (.Call (.Name x p) (e :: es) [] pos) (tG C lV (bnd args (newV x n fm))) := by
  rw [List.all_cons, Bool.and_eq_true] at hs
  constructor
  intro pins s σ H Q I hq
  obtain ⟨Hf, ρ, o, S, e, fin⟩ := hq
  refine wpAny_Call_Name_kw (ld_glob I hg hm ?_ hdb)
  refine PySem.W.callWith_K (h₀ := X.base) I.ok.mod.kin T.kp (thn (ha.run pos pins s σ H _ I (tG_bnd' S e fin fun vs H1 Hf1 ρ1 cs S1 ex l e1 f1 => (⟨Hf1, ρ1, cs, S1, l, e1, f1⟩ : ∃ Hf1 ρ1 cs, Stt C.W Hf1 H1 σ ρ1 ∧ lCs C.W Hf1 H1 σ ρ1 cs vs ∧ newV x n fm cs ρ1 = some o ∧ Fin C lV σ Hf1 o Q))) fun us s1 h1 => ?_) (star_cons hs.1) (star_any hs.2)
  obtain ⟨vs, H1, I1, r, Hf1, ρ1, cs, S1, l, e1, f1⟩ := h1
  refine ⟨I1.kIn, ?_⟩
  exact run_newS T F hr hb (L2N.passAt tk σ) I1 r fun a dx na nd ne => new_core hca cl S1 l e1 f1 na nd ne
end
end DI
set_option maxRecDepth 100000
set_option maxHeartbeats 4000000
namespace DI
open PySem PySem.Spec PyProof.Rows L2

/-! ### own classes: ==, len, properties -/
theorem upA_nil : ∀ {ρ : Rho} {k : Nat}, upA [] k ρ = ρ
  | [], _ => rfl
  | s :: ρ, k => by
    show s :: upA [] (k + 1) ρ = s :: ρ
    rw [upA_nil]
section
variable {X : Cx} {CX : CXT} {k : Nat} {A f : Addr} {fd : FuncData} {ps : List Str} {sp : Sp} {pins : List (Addr × Obj)} {σ : L2.St} {H : Hp} {s : Shared} {a dx : Addr} {fs : List (Str × V)} {y : V} {u t : Value} {Q : VK}
/-- x == y by x's own def -/
theorem eq_own (F : FnOk X.prog X.w X.K X.mg X.base (L2N.CX X.prog X.w) k f fd ps sp) (hr : Room k X.A) (hb : Binds X.K fd ps []) (hs : PySem.W.findIn X.K (.ref A) "__eq__" = some (some (.ref f))) (hf : PySem.W.isFn X.K (.ref f) = true) (I : Inv X pins σ H s) (ha : H a = some (.ins A dx fs))
    (ry : RelV y u) (ty : TyX X.K H y t) (nf : PySem.W.notFirst X.K A t = true) (go : sp [.ref a, y] H (fun v H2 => ∃ b, v = .bl b ∧ Q (.bl b) H2) (fun _ _ _ => False)) : wpAny (model X.prog X.w) X.A (richCompare .Eq (.ref a) u) (EP X pins σ Q) X.xe s := by
  obtain ⟨mA, O, _⟩ := ins_get I.hok ha
  obtain ⟨od, J, _⟩ := O.look
  obtain ⟨P, Z, p, _⟩ := kit_of I ry ty
  obtain ⟨m, frame⟩ := I.fr
  refine PySem.W.cmp_K (op := .Eq) (tb := t) hr.units0 frame I.ok.mod.kin J (Z.ty _ _ I.kIn p) nf hs hf ?_
  have len : ([Value.ref a, u] ++ []).length = ps.length := F.len _ _ _ _ go
  have bound := hb s [.ref a, u] I.kIn len
  rw [List.append_nil] at bound
  refine wpAny_call (codeAny_mono (F.run X.A X.stack s H ⟨[.ref a, u], []⟩ [.ref a, u] [.ref a, y] _ (fun _ _ _ => False) hr I.env0 bound (.cons rfl (.cons ry .nil)) go) fun res s2 h => ?_)
  cases res with
  | error e =>
    obtain ⟨_, _, _, _, _, _, _, _, _, _, _, _, no⟩ := h
    exact no.elim
  | ok fl =>
    cases fl with
    | ret w =>
      obtain ⟨v, H2, I2, rv, b, ev, q⟩ := I.after h
      subst ev
      cases rv
      exact ⟨.bl b, H2, I2, rfl, q⟩
    | next => exact False.elim h
    | brk => exact False.elim h
    | cont => exact False.elim h
/-- len(x) by x's own def -/
theorem len_own (F : FnOk X.prog X.w X.K X.mg X.base (L2N.CX X.prog X.w) k f fd ps sp) (hr : Room (k + 1) X.A) (hb : Binds X.K fd ps []) (hs : PySem.W.findIn X.K (.ref A) "__len__" = some (some (.ref f))) (hf : PySem.W.isFn X.K (.ref f) = true) (I : Inv X pins σ H s) (ha : H a = some (.ins A dx fs))
    (go : sp [.ref a] H (fun v H2 => ∃ n : Int, v = .int n ∧ 0 ≤ n ∧ n < 2 ^ 63 ∧ Q (.int n) H2) (fun _ _ _ => False)) : wpAny (model X.prog X.w) X.A (call (.builtin "len") [.ref a]) (EP X pins σ Q) X.xe s := by
  obtain ⟨mA, O, _⟩ := ins_get I.hok ha
  obtain ⟨od, J, _⟩ := O.look
  obtain ⟨m, frame⟩ := I.fr
  have len : ([Value.ref a] ++ []).length = ps.length := F.len _ _ _ _ go
  have bound := hb s [.ref a] I.kIn len
  rw [List.append_nil] at bound
  refine PySem.W.len_K frame I.ok.mod.kin J hs hf (wpAny_call (codeAny_mono (F.run X.A.in1 X.stack s H ⟨[.ref a], []⟩ [.ref a] [.ref a] _ (fun _ _ _ => False) hr.in1 I.env0.in1 bound (.cons rfl .nil) go) fun res s2 h => ?_))
  cases res with
  | error e =>
    obtain ⟨_, _, _, _, _, _, _, _, _, _, _, _, no⟩ := h
    exact no.elim
  | ok fl =>
    cases fl with
    | ret w =>
      obtain ⟨v, H2, I2, rv, n, ev, h0, h1, q⟩ := I.after h
      subst ev
      obtain ⟨tk, rfl⟩ := rv
      exact ⟨⟨h0, h1⟩, .int n, H2, I2.tok _, ⟨_, rfl⟩, q⟩
    | next => exact False.elim h
    | brk => exact False.elim h
    | cont => exact False.elim h
end
section
variable {C : Ck} {X : Cx}
/-- a def called with plain things, to be called back with its value -/
theorem plain_core {f : FM} {ca : Str → Option Addr} {σ : L2.St} {H Hf : Hp} {ρ : Rho} {ds : List D} {vs : List V} {rv : RV} {Q : VK} {E : XK} (S : Stt C.W Hf H σ ρ) (rs : Paired (fun d v => Rp C.W.K Hf v d) ds vs) (hf : f (ds.map .val) = some (.ret rv []))
    (go : ∀ v Hf' H', Stt C.W Hf' H' σ ρ → Ex Hf Hf' → RvOk C.W Hf' H' σ ρ rv v → Q v H') : spOf C.W.K ca ds.length f vs H Q E := by
  have l : lCs C.W Hf H σ ρ (ds.map CO.val) vs := by
    clear hf go
    unfold lCs
    induction rs with
    | nil => exact .nil
    | cons r _ ih => exact .cons r ih
  have ha : ∀ ds : List D, argsOf ρ (ds.map CO.val) = some (ds.map Arg.val) := fun ds => by
    induction ds with
    | nil => rfl
    | cons d ds ih => simp [argsOf, argOf, ih]
  have sl : ∀ ds : List D, slotsOf (ds.map CO.val) = [] := fun ds => by
    induction ds with
    | nil => rfl
    | cons d ds ih => simpa [slotsOf] using ih
  have up : ∀ (k : Nat) (ds : List D), updOf k (ds.map CO.val) [] = [] := fun k ds => by
    induction ds generalizing k with
    | nil => rfl
    | cons d ds ih => simpa [updOf] using ih (k + 1)
  refine ⟨Hf, ds.map .val, _, by simp, args_ok S l (ha ds), S.ex, args_inj S l (ha ds) (by rw [sl]; exact List.nodup_nil), hf, fun v Hf' H' B rr => ?_⟩
  have S' := called S l (ha ds) (by rw [sl]; exact List.nodup_nil) B
  rw [up, upA_nil] at S'
  refine go v Hf' H' S' B.grow ?_
  cases rv with
  | val d => exact rr
  | new m =>
    obtain ⟨p, rfl, n0, mo⟩ := rr
    have n0' : H p = none := n0
    exact ⟨p, rfl, S.H0none n0', mo, S.apart n0'⟩
def coVal (ρ : Rho) : CO → Option D
  | .val d => some d
  | .slot i => match ρ[i]? with
    | some (.val d) => some d
    | _ => none
theorem coVal_ok {W : Wd} {Hf H Hf0 H0 : Hp} {σ : L2.St} {ρ ρ0 : Rho} {c : CO} {v : V} {d : D} (l : lC W Hf0 H0 σ ρ0 c v) (S : Stt W Hf H σ ρ) (ex : Ex Hf0 Hf) (g : coVal ρ c = some d) : Rp W.K Hf v d := by
  cases c with
  | val d' =>
    cases g
    exact Rp.mono ex l
  | slot i =>
    unfold coVal at g
    dsimp only at g
    split at g
    · rename_i d' h
      cases g
      obtain ⟨v', a, b⟩ := S.val i _ h
      have l' : σ[i]? = some (some v) := l
      rw [l'] at a
      cases a
      exact b
    · cases g
/-- a class's own def under a special name -/
structure Spc (X : Cx) (K : Kc) (ca : Str → Option Addr) (m : Str) (n : Nat) (c : Str) (f : FM) : Prop where
  ex : ∃ A g fd k ps, K.cl c = some A ∧ PySem.W.findIn X.K (.ref A) m = some (some (.ref g)) ∧ PySem.W.isFn X.K (.ref g) = true ∧ FnOk X.prog X.w X.K X.mg X.base (L2N.CX X.prog X.w) k g fd ps (spOf K ca n f) ∧ Room (k + 1) X.A ∧ Binds X.K fd ps []
/-- no class is asked ahead of another -/
def NoFirst (X : Cx) (K : Kc) : Prop := ∀ c A, K.cl c = some A → (∀ T ∈ "NoneType" :: five, PySem.W.notFirst X.K A (.type T) = true) ∧ ∀ c' A', K.cl c' = some A' → PySem.W.notFirst X.K A (.ref A') = true
theorem NoFirst.at_ {K : Kc} {H : Hp} (F : NoFirst X K) {c : Str} {A : Addr} (z : K.cl c = some A) {v : V} {d : D} (r : Rp K H v d) : PySem.W.notFirst X.K A (tyD K d) = true := by
  cases d with
  | obj c' gs =>
    obtain ⟨a, A', dx, fs, _, z', _, _⟩ := r.obj_inv
    rw [tyD_obj z']
    exact (F c A z).2 c' A' z'
  | non => exact (F c A z).1 _ (by decide)
  | bl b => exact (F c A z).1 _ (by decide)
  | int i => exact (F c A z).1 _ (by decide)
  | str i => exact (F c A z).1 _ (by decide)
  | lst i => exact (F c A z).1 _ (by decide)
  | fls i => exact (F c A z).1 _ (by decide)
  | tup i => exact (F c A z).1 _ (by decide)
def rOwn (X : Cx) : R2 := fun x y H Q => ∃ a A dx fs t g fd k ps sp, x = .ref a ∧ H a = some (.ins A dx fs) ∧ TyX X.K H y t ∧ PySem.W.notFirst X.K A t = true ∧ PySem.W.findIn X.K (.ref A) "__eq__" = some (some (.ref g)) ∧ PySem.W.isFn X.K (.ref g) = true ∧
  FnOk X.prog X.w X.K X.mg X.base (L2N.CX X.prog X.w) k g fd ps sp ∧ Room k X.A ∧ Binds X.K fd ps [] ∧ sp [.ref a, y] H (fun v H2 => ∃ b, v = .bl b ∧ Q (.bl b) H2) (fun _ _ _ => False)
theorem op_own : OpR X (compareOp .Eq) (rOwn X) := by
  intro pins s σ H x y v u Q I rx ry h
  obtain ⟨a, A, dx, fs, t, g, fd, k, ps, sp, ex, ha, ty, nf, hs, hf, F, hr, hb, go⟩ := h
  subst ex
  obtain rfl : v = Value.ref a := rx
  exact eq_own F hr hb hs hf I ha ry ty nf go
/-- a == b, own classes too -/
def eqF (f : FM) (d1 d2 : D) : Option Bool := match f [.val d1, .val d2] with
  | some (.ret (.val (.bl b)) []) => some b
  | _ => none
def eqO (eqs : Str → Option FM) (x : Den D) (y : Den CO) : Den Bool := bnd x fun d1 => bnd y fun c => fun ρ => match d1 with
  | .obj n gs => match eqs n, coVal ρ c with
    | some f, some d2 => (eqF f (.obj n gs) d2).map fun b => .ok b ρ
    | _, _ => none
  | d1 => match coGet ρ c with
    | some d2 => optB (cmpD .Eq d1 d2) ρ
    | none => none
theorem eqO_core (hK : X.K = C.W.K.K) (O : OwnT C.W.K) (NF : NoFirst X C.W.K) {eqs : Str → Option FM} (he : ∀ c f, eqs c = some f → Spc X C.W.K C.ca "__eq__" 2 c f) {x : Den D} {y : Den CO} {σ : L2.St} {H Hf : Hp} {ρ : Rho} {o : Out Bool} {Q : VK} (S : Stt C.W Hf H σ ρ) (e : eqO eqs x y ρ = some o) (f : Fin C lB σ Hf o fun b H' => Q (.bl b) H') :
    tOp (fun v w H Q => rCmp C.W.K .Eq v w H Q ∨ rOwn X v w H Q) (tG C lD x) (tG C lC y) σ H Q := by
  refine tG_bnd' S e f fun v H1 Hf1 ρ1 d1 S1 ex1 r1 e1 f1 => ?_
  refine tG_bnd' S1 e1 f1 fun w H2 Hf2 ρ2 c S2 ex2 l2 e2 f2 => ?_
  have r1' : Rp C.W.K Hf2 v d1 := Rp.mono ex2 r1
  split at e2
  · rename_i n gs
    split at e2
    · rename_i fm d2 h1 h2
      rw [Option.map_eq_some_iff] at e2
      obtain ⟨b, hb, rfl⟩ := e2
      have r2 := coVal_ok l2 S2 (Evl.Ex.refl _) h2
      obtain ⟨a, A, dx, fs, rfl, cl, ha, _⟩ := r1'.obj_inv
      obtain ⟨A', g, fd, k, ps, cl', hs, hf, F, hr, bd⟩ := (he n fm h1).ex
      rw [cl] at cl'
      cases cl'
      unfold eqF at hb
      split at hb
      · rename_i b' hfm
        cases hb
        refine .inr ⟨a, A, dx, fs, tyD C.W.K d2, g, fd, k, ps, _, rfl, S2.ex _ _ ha, hK ▸ tyD_ok O (r2.mono S2.ex), NF.at_ cl r2, hs, hf, F, hr.mono (Nat.le_succ _), bd, ?_⟩
        refine plain_core (ds := [.obj n gs, d2]) S2 (.cons r1' (.cons r2 .nil)) hfm fun u Hf' H' S' ex' rr => ?_
        cases (show Rp C.W.K Hf' u (.bl b) from rr)
        exact ⟨b, rfl, f2 b Hf' H' S' ex' rfl⟩
      · cases hb
    · cases e2
  · split at e2
    · rename_i d2 g2
      unfold optB at e2
      rw [Option.map_eq_some_iff] at e2
      obtain ⟨b, hb, rfl⟩ := e2
      exact .inl ⟨_, d2, b, Rp.mono S2.ex r1', (lC.get l2 S2 (Evl.Ex.refl _) g2).now S2.ex, hb, f2 b Hf2 H2 S2 (Evl.Ex.refl _) rfl⟩
    · cases e2
theorem pt_eqO (hK : X.K = C.W.K.K) (hu : X.A.units + 65 < cLine) (O : OwnT C.W.K) (NF : NoFirst X C.W.K) {eqs : Str → Option FM} (he : ∀ c f, eqs c = some f → Spc X C.W.K C.ca "__eq__" 2 c f) {a b : Expr} {pos : Pos} {x : Den D} {y : Den CO} (ha : PE X a (tG C lD x)) (hb : PE X b (tG C lC y)) (hm : behindInMarks .Eq b = false) :
    PT X (.Compare a [.Eq] [b] pos) (tG C lB (eqO eqs x y)) := by
  refine (pt_cmpR ((op_cmpD hK hu .Eq).or op_own) ha hb hm).imp fun σ H Q hq => ?_
  obtain ⟨Hf, ρ, o, S, e, f⟩ := hq
  refine eqO_core hK O NF he S e ?_
  cases o with
  | ok b ρ' => exact fun b' Hf' H' S' ex p => ⟨b', rfl, f b' Hf' H' S' ex p⟩
  | exc c d ρ' => exact f
theorem pe_eqO (hK : X.K = C.W.K.K) (hu : X.A.units + 65 < cLine) (O : OwnT C.W.K) (NF : NoFirst X C.W.K) {eqs : Str → Option FM} (he : ∀ c f, eqs c = some f → Spc X C.W.K C.ca "__eq__" 2 c f) {a b : Expr} {pos : Pos} {x : Den D} {y : Den CO} (ha : PE X a (tG C lD x)) (hb : PE X b (tG C lC y)) (hm : behindInMarks .Eq b = false) :
    PE X (.Compare a [.Eq] [b] pos) (tG C lV (blV (eqO eqs x y))) := by
  refine (pe_cmpR ((op_cmpD hK hu .Eq).or op_own) ha hb hm).imp fun σ H Q hq => ?_
  obtain ⟨Hf, ρ, o, S, e, f⟩ := hq
  obtain ⟨o', e', f'⟩ := f.blV S e
  exact eqO_core hK O NF he S e' f'
/-- a class's own def for an attribute (a property) -/
structure Prp (X : Cx) (K : Kc) (ca : Str → Option Addr) (z c : Str) (f : FM) : Prop where
  ex : ∃ A p g fd k ps, K.cl c = some A ∧ PropOf X.K A z p g ∧ FnOk X.prog X.w X.K X.mg X.base (L2N.CX X.prog X.w) k g fd ps (spOf K ca 1 f) ∧ Room (k + 1) X.A ∧ Binds X.K fd ps []
/-- e.z, a property or a field -/
def getV (prp : Str → Option FM) (x : Den CO) : Den RV := bnd x fun c => fun ρ => match coVal ρ c with
  | some (.obj n gs) => match prp n with
    | some f => match f [.val (.obj n gs)] with
      | some (.ret r []) => some (.ok r ρ)
      | _ => none
    | none => none
  | _ => none
theorem pe_getD (hK : X.K = C.W.K.K) (O : OwnT C.W.K) {z : Str} {prp : Str → Option FM} (hp : ∀ c f, prp c = some f → Prp X C.W.K C.ca z c f) {e : Expr} {x : Den CO} {pos : Pos} (h : PE X e (tG C lC x)) (hb : attributeBase e z X.env (eval e X.env) = eval e X.env) :
    PE X (.Attribute e z pos) (tG C lV (getV prp x)) := by
  constructor
  intro pins s σ H Q I hq
  obtain ⟨Hf, ρ, o, S, e, fin⟩ := hq
  refine attr_of hb (thn (h.run pins s σ H _ I (tG_bnd' S e fin fun v H1 Hf1 ρ1 c S1 ex l e1 f1 => (⟨Hf1, ρ1, c, S1, l, e1, f1⟩ : ∃ Hf1 ρ1 c, Stt C.W Hf1 H1 σ ρ1 ∧ lC C.W Hf1 H1 σ ρ1 c v ∧ (match coVal ρ1 c with
    | some (.obj n gs) => match prp n with
      | some f => match f [.val (.obj n gs)] with
        | some (.ret r []) => some (.ok r ρ1)
        | _ => none
      | none => none
    | _ => none) = some o ∧ Fin C lV σ Hf1 o Q))) fun u s1 hu => ?_)
  obtain ⟨v, H1, I1, rv, Hf1, ρ1, c, S1, l, e1, f1⟩ := hu
  split at e1
  · rename_i n gs hc
    have r := coVal_ok l S1 (Evl.Ex.refl _) hc
    split at e1
    · rename_i f hf
      split at e1
      · rename_i rr hfm
        cases e1
        obtain ⟨a, A, dx, fs, rfl, cl, ha, _⟩ := r.obj_inv
        obtain ⟨A', p, g, fd, k, ps, cl', po, F, hr, bd⟩ := (hp n f hf).ex
        rw [cl] at cl'
        cases cl'
        obtain rfl : u = Value.ref a := rv
        refine getprop_ok (dvs := []) (ds := []) I1 (S1.ex _ _ ha) (hK ▸ (O.ty n A cl).1) po F hr bd .nil (E := fun _ _ _ => False) (passNo (X := X.nox)) ?_
        exact plain_core (ds := [.obj n gs]) S1 (.cons r .nil) hfm fun w Hf' H' S' ex' rr' => f1 w Hf' H' S' ex' rr'
      · cases e1
    · cases e1
  · cases e1
/-- len(e), own classes too -/
def lenO (lns : Str → Option FM) (x : Den CO) : Den RV := bnd x fun c => fun ρ => match coGet ρ c with
  | some (.obj n gs) => match lns n, coVal ρ c with
    | some f, some d => match f [.val d] with
      | some (.ret (.val (.int i)) []) => if 0 ≤ i ∧ i < 2 ^ 63 then some (.ok (.val (.int i)) ρ) else none
      | _ => none
    | _, _ => none
  | some d => optV (lenD d) ρ
  | none => none
def rLenO (X : Cx) : List V → Hp → VK → Prop := fun xs H Q => ∃ a A dx fs g fd k ps sp, xs = [.ref a] ∧ H a = some (.ins A dx fs) ∧ PySem.W.findIn X.K (.ref A) "__len__" = some (some (.ref g)) ∧ PySem.W.isFn X.K (.ref g) = true ∧
  FnOk X.prog X.w X.K X.mg X.base (L2N.CX X.prog X.w) k g fd ps sp ∧ Room (k + 1) X.A ∧ Binds X.K fd ps [] ∧ sp [.ref a] H (fun v H2 => ∃ n : Int, v = .int n ∧ 0 ≤ n ∧ n < 2 ^ 63 ∧ Q (.int n) H2) (fun _ _ _ => False)
theorem call_lenO : CallR X (.builtin "len") (rLenO X) := by
  intro pins s σ H xs us Q I r h
  obtain ⟨a, A, dx, fs, g, fd, k, ps, sp, ex, ha, hs, hf, F, hr, hb, go⟩ := h
  subst ex
  cases r with
  | cons rx rn =>
    cases rn
    rename_i u
    obtain rfl : u = Value.ref a := rx
    exact len_own F hr hb hs hf I ha go
theorem pe_lenO (hK : X.K = C.W.K.K) {lns : Str → Option FM} (he : ∀ c f, lns c = some f → Spc X C.W.K C.ca "__len__" 1 c f) {e : Expr} {p pos : Pos} {x : Den CO} (hg : Gl X "len") (hm : X.mg "len" = none) (h : PE X e (tG C lC x)) (hs : notStar e = true) :
    PE X (.Call (.Name "len" p) [e] [] pos) (tG C lV (lenO lns x)) := by
  refine (pe_callB ((call_len).or call_lenO) hg hm PySem.boot_len (pa_cons h pa_nil (star_cons hs)) (he := star_cons hs) (hpl := star_any rfl)).imp fun σ H Q hq => ?_
  obtain ⟨Hf, ρ, o, S, e, f⟩ := hq
  refine tG_bnd' S e f fun v H1 Hf1 ρ1 c S1 ex1 l e1 f1 => ?_
  split at e1
  · rename_i n gs g
    split at e1
    · rename_i fm d h1 h2
      split at e1
      · rename_i i hfm
        split at e1
        · rename_i hi
          cases e1
          have r := coVal_ok l S1 (Evl.Ex.refl _) h2
          have ro := lC.get l S1 (Evl.Ex.refl _) g
          obtain ⟨a, A, dx, fs, rfl, cl, ha, _⟩ := RpC.obj ro S1.ex
          obtain ⟨A', g', fd, k, ps, cl', hs', hf, F, hr, bd⟩ := (he n fm h1).ex
          rw [cl] at cl'
          cases cl'
          refine .inr ⟨a, A, dx, fs, g', fd, k, ps, _, rfl, ha, hs', hf, F, hr, bd, ?_⟩
          refine plain_core (ds := [d]) S1 (.cons r .nil) hfm fun u Hf' H' S' ex' rr => ?_
          cases (show Rp C.W.K Hf' u (.int i) from rr)
          exact ⟨i, rfl, hi.1, hi.2, f1 _ Hf' H' S' ex' rr⟩
        · cases e1
      · cases e1
    · cases e1
  · rename_i d nobj g
    have r := lC.get l S1 (Evl.Ex.refl _) g
    unfold optV at e1
    rw [Option.map_eq_some_iff] at e1
    obtain ⟨rv, hd, rfl⟩ := e1
    refine .inl ?_
    have k : ∀ u Hf' H', Stt C.W Hf' H' σ ρ1 → Ex Hf1 Hf' → RvOk C.W Hf' H' σ ρ1 rv u → Q u H' := f1
    unfold lenD at hd
    split at hd
    · cases hd
      obtain ⟨a, xs, rfl, h1, ra⟩ := r.lst S1.ex
      exact ⟨_, _, rfl, .inl ⟨xs, .inl (.inl h1), ra.length.symm⟩, k _ Hf1 H1 S1 (Evl.Ex.refl _) (.int _)⟩
    · cases hd
      obtain ⟨a, xs, rfl, h1, ra⟩ := r.fls S1.ex
      exact ⟨_, _, rfl, .inl ⟨xs, hK ▸ h1, ra.length.symm⟩, k _ Hf1 H1 S1 (Evl.Ex.refl _) (.int _)⟩
    · cases hd
      obtain ⟨a, xs, rfl, h1, ra, _⟩ := r.tup S1.ex
      exact ⟨_, _, rfl, .inr ⟨xs, hK ▸ h1, ra.length.symm⟩, k _ Hf1 H1 S1 (Evl.Ex.refl _) (.int _)⟩
    · split at hd
      · rename_i hz
        cases hd
        rw [r.str]
        exact ⟨_, _, rfl, ⟨sz hz, rfl⟩, k _ Hf1 H1 S1 (Evl.Ex.refl _) (.int _)⟩
      · cases hd
    · cases hd
  · cases e1
end
end DI
set_option maxRecDepth 100000
set_option maxHeartbeats 4000000
namespace DI
open PySem PySem.Spec PyProof.Rows L2

/-! ### calls by keywords alone, in the parameters' order -/
/-- C(k = v, ..): all parameters behind self are named, in their order -/
def KwAll (K : PySem.W.Frag) (fd : FuncData) (ps : List Str) (n : Nat) : Prop := ∀ (s : Shared) (us ws : List Value), K.In s.heap → us.length = n → (us ++ ws).length = ps.length → BindsTo s fd ⟨us, (ps.drop n).zip ws⟩ (ps.zip (us ++ ws))
section
variable {C : Ck} {X : Cx}
theorem pk_consC {e : Expr} {kws : List Keyword} {nm : Option Str} {kp : Pos} {x : Den CO} {y : Den (List CO)} (h : PE X e (tG C lC x)) (hs : PK X kws (tG C lCs y)) : PK X (⟨nm, e, kp⟩ :: kws) (tG C lCs (consC x y)) := by
  constructor
  intro pos pins s σ H Q I hq
  refine (pk_cons h hs).run pos pins s σ H Q I ?_
  obtain ⟨Hf, ρ, o, S, e, f⟩ := hq
  refine tG_bnd' S e f fun v H1 Hf1 ρ1 c S1 ex r e1 f1 => ?_
  refine tG_bnd' S1 e1 f1 fun vs H2 Hf2 ρ2 cs S2 ex2 r2 e2 f2 => ?_
  refine f2.ret e2 S2 (Evl.Ex.refl _) (.cons ?_ r2)
  cases c with
  | slot i => exact r
  | val d => exact Rp.mono ex2 r
theorem pk_nilC : PK X [] (tG C lCs nilC) := by
  constructor
  intro pos pins s σ H Q I hq
  refine pk_nil.run pos pins s σ H Q I ?_
  obtain ⟨Hf, ρ, o, S, e, f⟩ := hq
  exact f.ret e S (Evl.Ex.refl _) .nil
theorem pe_newKD {k n : Nat} {A f : Addr} {fd : FuncData} {ps : List Str} {fm : FM} {x : Str} {p pos : Pos} {kws : List Keyword} {args : Den (List CO)} {ca : Str → Option Addr} (hca : C.ca = ca) (cl : C.W.K.cl x = some A) (T : Mk X.K A f)
    (F : FnOk X.prog X.w X.K X.mg X.base (L2N.CX X.prog X.w) k f fd ps (spOf C.W.K ca (n + 1) fm)) (hr : Room (k + 1) X.A) (hg : Gl X x) (hm : X.mg x = some (.ref A)) (hb : KwAll X.K fd ps 1) (tk : L2N.Takes X C.Wx)
    (hkw : PK X kws (tG C lCs args)) (hall : (backToKw pos (keywordEach kws X.env)).all (·.1.isSome) = true) (hks : (backToKw pos (keywordEach kws X.env)).filterMap (·.1) = ps.drop 1)
    (hpl : ((backTo pos (starEach [] X.env)).any (·.1) || (backToKw pos (keywordEach kws X.env)).any (·.1.isNone)) = false) (hdb : (x == ("__debug__" : Str)) = false) : PE X (.Call (.Name x p) [] kws pos) (tG C lV (bnd args (newV x n fm))) := by
  constructor
  intro pins s σ H Q I hq
  obtain ⟨Hf, ρ, o, S, e, fin⟩ := hq
  refine wpAny_Call_Name_kw (ld_glob I hg hm ?_ hdb)
  refine PySem.W.callWith_KW0 (h₀ := X.base) I.ok.mod.kin T.kp hall ?_ hpl
  refine thn (hkw.run pos pins s σ H _ I (tG_bnd' S e fin fun vs H1 Hf1 ρ1 cs S1 ex l e1 f1 => (⟨Hf1, ρ1, cs, S1, l, e1, f1⟩ : ∃ Hf1 ρ1 cs, Stt C.W Hf1 H1 σ ρ1 ∧ lCs C.W Hf1 H1 σ ρ1 cs vs ∧ newV x n fm cs ρ1 = some o ∧ Fin C lV σ Hf1 o Q))) fun us s1 h1 => ?_
  obtain ⟨vs, H1, I1, r, Hf1, ρ1, cs, S1, l, e1, f1⟩ := h1
  refine ⟨I1.kIn, ?_⟩
  rw [hks]
  have at1 : H1 (s1.heap.objs.size + 1) = none := I1.hok.fresh (Nat.le_succ _)
  have at0 : H1 s1.heap.objs.size = none := I1.hok.fresh (Nat.le_refl _)
  have said := new_core (ca := ca) hca cl S1 l e1 f1 at1 at0 (Nat.ne_of_lt (Nat.lt_succ_self _))
  have J := Inv.made (C := A) I1
  have rr : Vals (V.ref (s1.heap.objs.size + 1) :: vs) (Value.ref (s1.heap.objs.size + 1) :: us) := .cons rfl r
  have len : ([Value.ref (s1.heap.objs.size + 1)] ++ us).length = ps.length := by
    show (Value.ref (s1.heap.objs.size + 1) :: us).length = _
    rw [← rr.length]
    exact F.len _ _ _ _ said
  have bound := hb _ [Value.ref (s1.heap.objs.size + 1)] us J.kIn rfl len
  show wpAny _ _ (call (.ref A) [] ((ps.drop 1).zip us)) _ _ _
  refine wpAny_call (make_map (f := f) I1.kIn T.makes T.init (beq_iff_eq.mp T.fn) (codeAny_mono (F.run _ X.stack _ _ ⟨[Value.ref (s1.heap.objs.size + 1)], (ps.drop 1).zip us⟩ ([Value.ref (s1.heap.objs.size + 1)] ++ us) _ _ _ (hr.make A [] ((ps.drop 1).zip us)) (J.env0.make A [] ((ps.drop 1).zip us)) bound rr said) fun res s2 h => ?_))
  cases res with
  | error e => exact L2N.passAt tk σ pins _ _ e s2 J h
  | ok fl =>
    cases fl with
    | ret u =>
      obtain ⟨v, H2, J2, rv, ev, q⟩ := J.after h
      subst ev
      exact ⟨rv, ⟨V.ref (s1.heap.objs.size + 1), H2, J2, rfl, q⟩⟩
    | next => exact False.elim h
    | brk => exact False.elim h
    | cont => exact False.elim h
def kwNames : List Keyword → List (Option Str)
  | [] => []
  | ⟨nm, _, _⟩ :: r => nm :: kwNames r
theorem kw_facts {env : Env} {pos : Pos} : ∀ {kws : List Keyword} {ks : List Str}, kwNames kws = ks.map some → (backToKw pos (keywordEach kws env)).all (·.1.isSome) = true ∧ (backToKw pos (keywordEach kws env)).filterMap (·.1) = ks ∧ (backToKw pos (keywordEach kws env)).any (·.1.isNone) = false
  | [], [], _ => ⟨rfl, rfl, rfl⟩
  | [], _ :: _, h => by cases h
  | ⟨nm, v, p⟩ :: r, [], h => by cases h
  | ⟨nm, v, p⟩ :: r, k :: ks, h => by
    have h' : nm :: kwNames r = some k :: ks.map some := h
    injection h' with h1 h2
    subst h1
    obtain ⟨a, b, c⟩ := kw_facts (env := env) (pos := pos) h2
    refine ⟨?_, ?_, ?_⟩
    · show (true && (backToKw pos (keywordEach r env)).all (·.1.isSome)) = true
      rw [a]
      rfl
    · show k :: (backToKw pos (keywordEach r env)).filterMap (·.1) = k :: ks
      rw [b]
    · show (false || (backToKw pos (keywordEach r env)).any (·.1.isNone)) = false
      rw [c]
      rfl
end
end DI
set_option maxRecDepth 100000
set_option maxHeartbeats 4000000
namespace DI
open PySem PySem.Spec PyProof.Rows L2

/-! ### more calls: all, any, str, int of a text; methods of texts -/
def blsOf : List D → Option (List Bool)
  | [] => some []
  | .bl b :: r => (blsOf r).map (b :: ·)
  | _ :: _ => none
def allD : D → Option D
  | .lst ds => (blsOf ds).map fun bs => .bl (bs.all id)
  | _ => none
def anyD : D → Option D
  | .lst ds => (blsOf ds).map fun bs => .bl (bs.any id)
  | _ => none
theorem bls_rp {K : Kc} {H : Hp} : ∀ {ds : List D} {vs : List V} {bs : List Bool}, RpA K H vs ds → blsOf ds = some bs → vs = bs.map V.bl
  | [], _, _, r, e => by cases r; cases e; rfl
  | d :: ds, _, _, r, e => by
    cases r with
    | cons a b =>
      cases d with
      | bl x =>
        simp only [blsOf, Option.map_eq_some_iff] at e
        obtain ⟨bs, e, rfl⟩ := e
        cases a
        rw [bls_rp b e]
        rfl
      | _ => cases e
def strsOf : List D → Option (List Str)
  | [] => some []
  | .str b :: r => (strsOf r).map (b :: ·)
  | _ :: _ => none
theorem strs_rp {K : Kc} {H : Hp} : ∀ {ds : List D} {vs : List V} {bs : List Str}, RpA K H vs ds → strsOf ds = some bs → vs = bs.map V.str
  | [], _, _, r, e => by cases r; cases e; rfl
  | d :: ds, _, _, r, e => by
    cases r with
    | cons a b =>
      cases d with
      | str x =>
        simp only [strsOf, Option.map_eq_some_iff] at e
        obtain ⟨bs, e, rfl⟩ := e
        cases a
        rw [strs_rp b e]
        rfl
      | _ => cases e
theorem rp_strs {K : Kc} {H : Hp} : ∀ ys : List Str, RpA K H (ys.map V.str) (ys.map D.str)
  | [] => .nil
  | y :: ys => .cons (.str y) (rp_strs ys)
/-- one argument, plain, or only looked into -/
def call1D (k : D → Option D) (x : Den D) : Den RV := bnd x fun d => optD (k d)
section
variable {C : Ck} {X : Cx}
theorem call1D_inv {k : D → Option D} {x : Den D} {σ : L2.St} {H Hf : Hp} {ρ : Rho} {o : Out RV} {Q : VK} (S : Stt C.W Hf H σ ρ) (e : call1D k x ρ = some o) (f : Fin C lV σ Hf o Q) {Q' : V → Hp → Prop}
    (g : ∀ v H1 Hf1 d y, Ex Hf1 H1 → Rp C.W.K Hf1 v d → k d = some y → (∀ u, Rp C.W.K Hf1 u y → Q u H1) → Q' v H1) : tG C lD x σ H Q' := by
  refine tG_bnd' S e f fun v H1 Hf1 ρ1 d S1 ex l e1 f1 => ?_
  unfold optD at e1
  rw [Option.map_eq_some_iff] at e1
  obtain ⟨y, hy, rfl⟩ := e1
  exact g v H1 Hf1 d y S1.ex l hy fun u ru => f1 u Hf1 H1 S1 (Evl.Ex.refl _) ru
theorem pe_allD (hc : X.calm = true) (hK : X.K = C.W.K.K) {e : Expr} {p pos : Pos} {x : Den D} (hg : Gl X "all") (hm : X.mg "all" = none) (h : PE X e (tG C lD x)) (hs : notStar e = true) : PE X (.Call (.Name "all" p) [e] [] pos) (tG C lV (call1D allD x)) := by
  refine (pe_callB (cr_all hc) hg hm (by decide +kernel) (pa_cons h pa_nil (star_cons hs)) (he := star_cons hs) (hpl := star_any rfl)).imp fun σ H Q ⟨Hf, ρ, o, S, e, f⟩ => ?_
  refine call1D_inv S e f fun v H1 Hf1 d y ex r hy k => ?_
  cases d with
  | lst ds =>
    simp only [allD, Option.map_eq_some_iff] at hy
    obtain ⟨bs, hb, rfl⟩ := hy
    cases r with
    | lst a b => exact ⟨_, bs, rfl, .inl (.inl (by rw [← bls_rp b hb]; exact ex _ _ a)), k _ (.bl _)⟩
  | _ => cases hy
theorem pe_anyD (hc : X.calm = true) (hK : X.K = C.W.K.K) {e : Expr} {p pos : Pos} {x : Den D} (hg : Gl X "any") (hm : X.mg "any" = none) (h : PE X e (tG C lD x)) (hs : notStar e = true) : PE X (.Call (.Name "any" p) [e] [] pos) (tG C lV (call1D anyD x)) := by
  refine (pe_callB (cr_any hc) hg hm (by decide +kernel) (pa_cons h pa_nil (star_cons hs)) (he := star_cons hs) (hpl := star_any rfl)).imp fun σ H Q ⟨Hf, ρ, o, S, e, f⟩ => ?_
  refine call1D_inv S e f fun v H1 Hf1 d y ex r hy k => ?_
  cases d with
  | lst ds =>
    simp only [anyD, Option.map_eq_some_iff] at hy
    obtain ⟨bs, hb, rfl⟩ := hy
    cases r with
    | lst a b => exact ⟨_, bs, rfl, .inl (.inl (by rw [← bls_rp b hb]; exact ex _ _ a)), k _ (.bl _)⟩
  | _ => cases hy
def strD : D → Option D
  | .int i => if i.natAbs < 2 ^ 64 then some (.str (toString i)) else none
  | .str s => some (.str s)
  | _ => none
theorem pe_strD {e : Expr} {p pos : Pos} {x : Den D} (hg : Gl X "str") (hm : X.mg "str" = none) (h : PE X e (tG C lD x)) (hs : notStar e = true) : PE X (.Call (.Name "str" p) [e] [] pos) (tG C lV (call1D strD x)) := by
  refine (pe_callTy ((call_str_int).or SkE.call_str_str) hg hm (by decide +kernel) (pa_cons h pa_nil (star_cons hs)) (he := star_cons hs) (hpl := star_any rfl)).imp fun σ H Q ⟨Hf, ρ, o, S, e, f⟩ => ?_
  refine call1D_inv S e f fun v H1 Hf1 d y ex r hy k => ?_
  cases d with
  | int i =>
    simp only [strD] at hy
    split at hy
    · rename_i hi
      cases hy; cases r
      refine .inl ⟨i, rfl, ?_, k _ (.str _)⟩
      by_cases z : i.natAbs = 0
      · rw [z]; decide
      · have : i.natAbs.log2 < 64 := (Nat.log2_lt z).mpr hi
        omega
    · cases hy
  | str s => cases hy; cases r; exact .inr ⟨s, rfl, k _ (.str _)⟩
  | _ => cases hy
/-- int of anything -/
def intX : D → Option D
  | .int i => some (.int i)
  | .bl b => some (.int (if b then 1 else 0))
  | .str a => if a.length ≤ 640 then (PySem.intText? a).map .int else none
  | _ => none
theorem pe_intX {e : Expr} {p pos : Pos} {x : Den D} (hg : Gl X "int") (hm : X.mg "int" = none) (h : PE X e (tG C lD x)) (hs : notStar e = true) : PE X (.Call (.Name "int" p) [e] [] pos) (tG C lV (call1D intX x)) := by
  refine (pe_callTy ((call_int1).or call_int_str) hg hm PyProof.Rows.boot_int (pa_cons h pa_nil (star_cons hs)) (he := star_cons hs) (hpl := star_any rfl)).imp fun σ H Q ⟨Hf, ρ, o, S, e, f⟩ => ?_
  refine call1D_inv S e f fun v H1 Hf1 d y ex r hy k => ?_
  cases d with
  | int i => cases hy; cases r; exact .inl (.inl ⟨_, rfl, k _ (.int _)⟩)
  | bl b => cases hy; cases r; exact .inl (.inr ⟨_, rfl, k _ (.int _)⟩)
  | str a =>
    simp only [intX] at hy
    split at hy
    · rename_i hl
      rw [Option.map_eq_some_iff] at hy
      obtain ⟨n, hn, rfl⟩ := hy
      cases r
      exact .inr ⟨a, n, rfl, hn, hl, k _ (.int _)⟩
    · cases hy
  | _ => cases hy
/-- a text's method with one argument -/
def isStrD : D → Bool
  | .str _ => true
  | _ => false
def meth1 (k : D → D → Option RV) (x y : Den D) : Den RV := bnd x fun a => if isStrD a then bnd y fun b => optV (k a b) else stuck
theorem meth1_inv {k : D → D → Option RV} {x y : Den D} {σ : L2.St} {H Hf : Hp} {ρ : Rho} {o : Out RV} {Q : VK} {r : V → List V → Hp → VK → Prop} (S : Stt C.W Hf H σ ρ) (e : meth1 k x y ρ = some o) (f : Fin C lV σ Hf o Q)
    (g : ∀ z w H1 Hf1 ρ1 b rv, Stt C.W Hf1 H1 σ ρ1 → Rp C.W.K Hf1 w b → k (.str z) b = some rv → (∀ u Hf' H', Stt C.W Hf' H' σ ρ1 → Ex Hf1 Hf' → RvOk C.W Hf' H' σ ρ1 rv u → Q u H') → r (.str z) [w] H1 Q) : tM1 r (tG C lD x) (tG C lD y) σ H Q := by
  refine tG_bnd' S e f fun v H1 Hf1 ρ1 a S1 ex l e1 f1 => ?_
  split at e1
  · rename_i hs
    cases a with
    | str z =>
      cases (show Rp C.W.K Hf1 v (.str z) from l)
      refine ⟨⟨z, rfl⟩, tG_bnd' S1 e1 f1 fun w H2 Hf2 ρ2 b S2 ex2 l2 e2 f2 => ?_⟩
      unfold optV at e2
      rw [Option.map_eq_some_iff] at e2
      obtain ⟨rv, hrv, rfl⟩ := e2
      exact g z w H2 Hf2 ρ2 b rv S2 l2 hrv f2
    | _ => cases hs
  · cases e1
def splitD : D → D → Option RV
  | .str a, .str b => if (b.length == 0) = false ∧ a.length + 2 ≤ 1000000 then some (.new (.lst ((Txt.split a b).map .str))) else none
  | _, _ => none
def partD : D → D → Option RV
  | .str a, .str b => if (b.length == 0) = false ∧ a.length ≤ 1000000 then some (.val (.tup [.str (Txt.partition a b).1, .str (Txt.partition a b).2.1, .str (Txt.partition a b).2.2])) else none
  | _, _ => none
def joinD : D → D → Option RV
  | .str a, .lst ds => match strsOf ds with
    | some ys => if (ys.map (·.length)).sum + ys.length * a.length ≤ 10000000 then some (.val (.str (Txt.join a ys))) else none
    | none => none
  | .str a, .tup ds => match strsOf ds with
    | some ys => if (ys.map (·.length)).sum + ys.length * a.length ≤ 10000000 then some (.val (.str (Txt.join a ys))) else none
    | none => none
  | _, _ => none
theorem szM {n : Nat} (h : n ≤ 1000000) : n ≤ sizeLine := by rw [sizeLine_eq]; omega
theorem pe_splitD {o e : Expr} {apos pos : Pos} {x y : Den D} (ho : PE X o (tG C lD x)) (he : PE X e (tG C lD y)) (hs : notStar e = true) (hb : attributeBase o "split" X.env (eval o X.env) = eval o X.env) (hl : (apos.endLine == pos.line) = true) :
    PE X (.Call (.Attribute o "split" apos) [e] [] pos) (tG C lV (meth1 splitD x y)) := by
  refine (pe_split ho he (star_cons hs) hb hl).imp fun σ H Q ⟨Hf, ρ, o, S, e, f⟩ => ?_
  refine meth1_inv S e f fun z w H1 Hf1 ρ1 b rv S1 l2 hk k => ?_
  cases b with
  | str b =>
    simp only [splitD] at hk
    split at hk
    · rename_i hz
      cases hk; cases l2
      refine ⟨z, b, rfl, rfl, hz.1, szM hz.2, fun p np => ?_⟩
      exact k _ Hf1 _ (S1.made np) (Evl.Ex.refl _) ⟨p, rfl, S1.H0none np, .lst (Evl.fresh_back S1.ex np) upd_same (rp_strs _), S1.apart np⟩
    · cases hk
  | _ => cases hk
theorem pe_partD {o e : Expr} {apos pos : Pos} {x y : Den D} (ho : PE X o (tG C lD x)) (he : PE X e (tG C lD y)) (hs : notStar e = true) (hb : attributeBase o "partition" X.env (eval o X.env) = eval o X.env) (hl : (apos.endLine == pos.line) = true) :
    PE X (.Call (.Attribute o "partition" apos) [e] [] pos) (tG C lV (meth1 partD x y)) := by
  refine (pe_partition ho he (star_cons hs) hb hl).imp fun σ H Q ⟨Hf, ρ, o, S, e, f⟩ => ?_
  refine meth1_inv S e f fun z w H1 Hf1 ρ1 b rv S1 l2 hk k => ?_
  cases b with
  | str b =>
    simp only [partD] at hk
    split at hk
    · rename_i hz
      cases hk; cases l2
      refine ⟨z, b, rfl, rfl, hz.1, szM hz.2, fun p np => ?_⟩
      obtain ⟨S2, ex2, _⟩ := S1.laid (o := .tup [.str (Txt.partition z b).1, .str (Txt.partition z b).2.1, .str (Txt.partition z b).2.2]) np
      exact k _ _ _ S2 ex2 (.tup (SqT.of upd_same) (.cons (.str _) (.cons (.str _) (.cons (.str _) .nil))))
    · cases hk
  | _ => cases hk
theorem pe_joinD (hK : X.K = C.W.K.K) {o e : Expr} {apos pos : Pos} {x y : Den D} (ho : PE X o (tG C lD x)) (he : PE X e (tG C lD y)) (hs : notStar e = true) (hb : attributeBase o "join" X.env (eval o X.env) = eval o X.env) (hl : (apos.endLine == pos.line) = true) :
    PE X (.Call (.Attribute o "join" apos) [e] [] pos) (tG C lV (meth1 joinD x y)) := by
  refine (pe_join ho he (star_cons hs) hb hl).imp fun σ H Q ⟨Hf, ρ, o, S, e, f⟩ => ?_
  refine meth1_inv S e f fun z w H1 Hf1 ρ1 b rv S1 l2 hk k => ?_
  cases b with
  | lst ds =>
    simp only [joinD] at hk
    split at hk
    · rename_i ys hy
      split at hk
      · rename_i hz
        cases hk
        cases l2 with
        | lst a r => exact ⟨z, _, ys, rfl, rfl, .inl (.inl (.inl (by rw [← strs_rp r hy]; exact S1.ex _ _ a))), by omega, k _ Hf1 H1 S1 (Evl.Ex.refl _) (.str _)⟩
      · cases hk
    · cases hk
  | tup ds =>
    simp only [joinD] at hk
    split at hk
    · rename_i ys hy
      split at hk
      · rename_i hz
        cases hk
        cases l2 with
        | tup a r => exact ⟨z, _, ys, rfl, rfl, .inr (by rw [← strs_rp r hy]; exact hK ▸ Evl.ex_t S1.ex a), by omega, k _ Hf1 H1 S1 (Evl.Ex.refl _) (.str _)⟩
      · cases hk
    · cases hk
  | _ => cases hk
/-- x.pop(), x a name's own list -/
def popV (i : Nat) : Den RV := fun ρ => match getM i ρ with
  | some (.lst ds) => match ds.getLast? with
    | some d => (setM i (.lst ds.dropLast) ρ).map fun ρ' => .ok (.val d) ρ'
    | none => none
  | _ => none
theorem RpA.dropLast {K : Kc} {H : Hp} {vs : List V} {ds : List D} (r : RpA K H vs ds) : RpA K H vs.dropLast ds.dropLast := by
  rw [List.dropLast_eq_take, List.dropLast_eq_take, r.length]
  exact r.take _
theorem pe_popD {n : Str} {i : Nat} {pos p1 p2 : Pos} (hN : X.N[i]? = some n) (hv : Vis X.env.scope n) (hd : (n == ("__debug__" : Str)) = false) (hcd : (n == ("__classdict__" : Str)) = false) (hl : (p2.endLine == pos.line) = true) :
    PE X (.Call (.Attribute (.Name n p1) "pop" p2) [] [] pos) (tG C lV (popV i)) := by
  refine (pe_bm0 PySem.F.plainAttrs_list PySem.F.slot_list_pop PySem.F.type_list_pop mt_pop (pe_var (i := i) hN hv hd hcd) rfl hl).imp fun σ H Q ⟨Hf, ρ, o, S, e, f⟩ => ?_
  unfold popV at e
  split at e
  · rename_i ds gm
    split at e
    · rename_i d hd
      rw [Option.map_eq_some_iff] at e
      obtain ⟨ρ', e, rfl⟩ := e
      obtain ⟨p, hp, mo⟩ := getM_slot S gm
      cases mo with
      | lst a b c =>
        rw [List.getLast?_eq_getElem?] at hd
        obtain ⟨v, hv, rv⟩ := c.get hd
        refine ⟨_, hp, .inl ⟨rfl, _, .inl (.inl b)⟩, p, _, v, rfl, rfl, b, by rw [c.length]; exact hv, ?_⟩
        exact f _ Hf _ (setM_ok S hp gm (.lst a upd_same c.dropLast) e) (Evl.Ex.refl _) rv
    · cases e
  · cases e
/-- xs.extend(e) -/
def extS (s : Nat) (x : Den D) : SDen := fun ρ => match getM s ρ with
  | some (.lst _) => (bS x fun d => fun ρ => match getM s ρ, d with
    | some (.lst ds), .lst es => if ds.length + es.length ≤ 1000000 then (setM s (.lst (ds ++ es)) ρ).map .next else none
    | _, _ => none) ρ
  | _ => none
theorem ps_extD {n : Str} {s : Nat} {e : Expr} {pos p1 p2 p3 : Pos} {x : Den D} (hN : X.N[s]? = some n) (hv : Vis X.env.scope n) (hd : (n == ("__debug__" : Str)) = false) (hcd : (n == ("__classdict__" : Str)) = false) (he : PE X e (tG C lD x)) (hst : notStar e = true) (hl : (p2.endLine == p3.line) = true) :
    PS X (.Expr (.Call (.Attribute (.Name n p1) "extend" p2) [e] [] p3) pos) (tSt C (extS s x)) := by
  refine (ps_expr (pe_bm PySem.F.plainAttrs_list PySem.F.slot_list_extend PySem.F.type_list_extend mt_extend (pe_var (i := s) hN hv hd hcd) (pa_cons he pa_nil (star_cons hst)) rfl (few1 hst) hl (star_cons hst) (star_any rfl)) rfl).imp fun E σ H h => ?_
  obtain ⟨Hf, ρ, o, S, e, f⟩ := h
  unfold extS at e
  split at e
  · rename_i ds0 g0
    obtain ⟨p, hp, mo⟩ := getM_slot S g0
    refine ⟨_, hp, ?_, ?_⟩
    · cases mo with | lst a b c => exact .inl ⟨rfl, _, .inl (.inl b)⟩
    · refine bS_inv (P := lD) S e f fun w H3 Hf3 ρ3 d S3 ex3 l3 e3 f3 => ?_
      split at e3
      · rename_i ds es gm
        split at e3
        · rename_i hz
          rw [Option.map_eq_some_iff] at e3
          obtain ⟨ρ', e3, rfl⟩ := e3
          obtain ⟨p', hp', mo'⟩ := getM_slot S3 gm
          rw [hp] at hp'; cases hp'
          cases mo' with
          | lst a b c =>
            cases (show Rp C.W.K Hf3 w (.lst es) from l3) with
            | lst a2 r2 =>
              refine ⟨p, _, _, _, rfl, rfl, b, S3.ex _ _ a2, by rw [c.length, r2.length]; exact szM hz, ?_⟩
              exact f3 σ Hf3 _ (setM_ok S3 hp gm (.lst a upd_same (c.append r2)) e3) (Evl.Ex.refl _)
        · cases e3
      · cases e3
  · cases e
/-- a def called by keywords alone, in its parameters' order -/
theorem pe_callKD {k n : Nat} {f : Addr} {fd : FuncData} {ps : List Str} {fm : FM} {x : Str} {p pos : Pos} {kws : List Keyword} {args : Den (List CO)} {ca : Str → Option Addr} (hca : C.ca = ca)
    (F : FnOk X.prog X.w X.K X.mg X.base (L2N.CX X.prog X.w) k f fd ps (spOf C.W.K ca n fm)) (hr : Room k X.A) (hg : Gl X x) (hm : X.mg x = some (.ref f)) (hk : PySem.W.keepIn X.K (.ref f) = true) (hb : KwAll X.K fd ps 0) (tk : L2N.Takes X C.Wx)
    (hkw : PK X kws (tG C lCs args)) (hall : (backToKw pos (keywordEach kws X.env)).all (·.1.isSome) = true) (hks : (backToKw pos (keywordEach kws X.env)).filterMap (·.1) = ps)
    (hpl : ((backTo pos (starEach [] X.env)).any (·.1) || (backToKw pos (keywordEach kws X.env)).any (·.1.isNone)) = false) (hdb : (x == ("__debug__" : Str)) = false) : PE X (.Call (.Name x p) [] kws pos) (tG C lV (bnd args (runFn n fm))) := by
  constructor
  intro pins s σ H Q I hq
  obtain ⟨Hf, ρ, o, S, e, fin⟩ := hq
  refine wpAny_Call_Name_kw (ld_glob I hg hm ?_ hdb)
  refine PySem.W.callWith_KW0 (h₀ := X.base) I.ok.mod.kin hk hall ?_ hpl
  refine thn (hkw.run pos pins s σ H _ I (tG_bnd' S e fin fun vs H1 Hf1 ρ1 cs S1 ex l e1 f1 => (⟨Hf1, ρ1, cs, S1, l, e1, f1⟩ : ∃ Hf1 ρ1 cs, Stt C.W Hf1 H1 σ ρ1 ∧ lCs C.W Hf1 H1 σ ρ1 cs vs ∧ runFn n fm cs ρ1 = some o ∧ Fin C lV σ Hf1 o Q))) fun us s1 h1 => ?_
  obtain ⟨vs, H1, I1, r, Hf1, ρ1, cs, S1, l, e1, f1⟩ := h1
  refine ⟨I1.kIn, ?_⟩
  rw [hks]
  have said := run_core (ca := ca) hca S1 l e1 f1
  rw [List.append_nil] at said
  have len : us.length = ps.length := by
    rw [← r.length]
    exact F.len _ _ _ _ said
  have bound := hb s1 [] us I1.kIn rfl (by simpa using len)
  rw [List.drop_zero, List.nil_append] at bound
  refine wpAny_call (codeAny_mono (F.run X.A X.stack s1 H1 ⟨[], ps.zip us⟩ us vs Q _ hr I1.env0 bound r said) fun res s2 hq => ?_)
  cases res with
  | error e => exact L2N.passAt tk σ pins _ _ e s2 I1 hq
  | ok fl =>
    cases fl with
    | ret u => exact I1.after hq
    | next => exact False.elim hq
    | brk => exact False.elim hq
    | cont => exact False.elim hq
end
end DI
set_option maxRecDepth 100000
set_option maxHeartbeats 4000000
namespace DI
open PySem PySem.Spec PyProof.Rows L2

/-! ### chains a < b < c -/
section
variable {C : Ck} {X : Cx}
def chainB (o1 o2 : CmpOp) (x y z : Den D) : Den Bool := bnd x fun d1 => bnd y fun d2 => bnd (optB (cmpD o1 d1 d2)) fun b => if b then bnd z fun d3 => optB (cmpD o2 d2 d3) else ret false
theorem chain_core {o1 o2 : CmpOp} {x y z : Den D} {σ : L2.St} {H Hf : Hp} {ρ : Rho} {o : Out Bool} {Q : Bool → Hp → Prop} (S : Stt C.W Hf H σ ρ) (e : chainB o1 o2 x y z ρ = some o) (f : Fin C lB σ Hf o Q) :
    tChain (rCmp C.W.K o1) (rCmp C.W.K o2) (tG C lD x) (tG C lD y) (tG C lD z) σ H fun v H' => ∃ k, v = .bl k ∧ Q k H' := by
  refine tG_bnd' S e f fun v H1 Hf1 ρ1 d1 S1 ex1 r1 e1 f1 => ?_
  refine tG_bnd' S1 e1 f1 fun w H2 Hf2 ρ2 d2 S2 ex2 r2 e2 f2 => ?_
  unfold bnd at e2
  cases hb : cmpD o1 d1 d2 with
  | none => simp only [hb, optB, Option.map_none] at e2; cases e2
  | some b =>
    simp only [hb, optB, Option.map_some] at e2
    refine ⟨d1, d2, b, Rp.mono (ex2.trans S2.ex) r1, Rp.mono S2.ex r2, hb, b, rfl, ?_⟩
    cases b with
    | false =>
      simp only [Bool.false_eq_true, if_false] at e2 ⊢
      exact ⟨false, rfl, f2.ret e2 S2 (Evl.Ex.refl _) rfl⟩
    | true =>
      simp only [if_true] at e2 ⊢
      refine tG_bnd' S2 e2 f2 fun u H3 Hf3 ρ3 d3 S3 ex3 r3 e3 f3 => ?_
      unfold optB at e3
      rw [Option.map_eq_some_iff] at e3
      obtain ⟨b2, hb2, rfl⟩ := e3
      exact ⟨d2, d3, b2, Rp.mono (ex3.trans S3.ex) r2, Rp.mono S3.ex r3, hb2, b2, rfl, f3 b2 Hf3 H3 S3 (Evl.Ex.refl _) rfl⟩
theorem lastMarks2 {o1 o2 : CmpOp} {b c : Expr} (h : notSet c = true) : lastMarks [o1, o2] [b, c] = false := by
  show behindInMarks o2 c = false
  exact notSet_mark h
theorem pt_chainD (hK : X.K = C.W.K.K) (hu : X.A.units + 65 < cLine) {a b c : Expr} {o1 o2 : CmpOp} {pos : Pos} {x y z : Den D} (ha : PE X a (tG C lD x)) (hb : PE X b (tG C lD y)) (hc : PE X c (tG C lD z)) (hm : notSet c = true) : PT X (.Compare a [o1, o2] [b, c] pos) (tG C lB (chainB o1 o2 x y z)) :=
  (pt_chain (op_cmpD hK hu o1) (op_cmpD hK hu o2) ha hb hc (lastMarks2 hm)).imp fun σ H Q ⟨Hf, ρ, o, S, e, f⟩ => chain_core S e f
theorem pe_chainD (hK : X.K = C.W.K.K) (hu : X.A.units + 65 < cLine) {a b c : Expr} {o1 o2 : CmpOp} {pos : Pos} {x y z : Den D} (ha : PE X a (tG C lD x)) (hb : PE X b (tG C lD y)) (hc : PE X c (tG C lD z)) (hm : notSet c = true) : PE X (.Compare a [o1, o2] [b, c] pos) (tG C lV (blV (chainB o1 o2 x y z))) := by
  refine (pe_chain (op_cmpD hK hu o1) (op_cmpD hK hu o2) ha hb hc (lastMarks2 hm)).imp fun σ H Q ⟨Hf, ρ, o, S, e, f⟩ => ?_
  obtain ⟨o', e', f'⟩ := f.blV S e
  refine tG_mono (fun v H1 q => tG_mono (fun w H2 q2 => ?_) q) (chain_core S e' f')
  obtain ⟨d1, d2, b, r1, r2, hb, k, hk, q⟩ := q2
  refine ⟨d1, d2, b, r1, r2, hb, k, hk, ?_⟩
  cases k with
  | false =>
    simp only [Bool.false_eq_true, if_false] at q ⊢
    obtain ⟨k', hk', q⟩ := q
    cases hk'; exact q
  | true =>
    simp only [if_true] at q ⊢
    refine tG_mono (fun u H3 q3 => ?_) q
    obtain ⟨d1, d2, b, r1, r2, hb, k, hk, q⟩ := q3
    cases hk
    exact ⟨d1, d2, b, r1, r2, hb, q⟩
theorem pe_stuck {e : Expr} {α : Type} : PE X e (tG C lV stuck) := ⟨fun _ _ _ _ _ _ ⟨_, _, _, _, e, _⟩ => by cases e⟩
theorem pt_stuck {e : Expr} : PT X e (tG C lB stuck) := ⟨fun _ _ _ _ _ _ ⟨_, _, _, _, e, _⟩ => by cases e⟩
theorem pa_stuckC {es : List Expr} : PA X es (tG C lCs stuck) := ⟨fun _ _ _ _ _ _ _ ⟨_, _, _, _, e, _⟩ => by cases e⟩
theorem ps_stuck {st : Stmt} : PS X st (tSt C fun _ => none) := ⟨fun _ _ _ _ _ _ ⟨_, _, _, _, e, _⟩ => by cases e⟩
end

/-! ### the meaning of a text -/
structure FE where
  n : Nat
  muts : List Bool
  f : FM
structure SC where
  N : List Str
  sc : Scope
  lvl : Nat
  blt : Str → Bool
  con : Str → Option D
  fns : Str → Option FE
  cls : Str → Bool
  exn : Str → Bool := fun _ => false
  hdl : Str → Bool := fun _ => false
  top : Bool := true
  F : Nat := 0
  ctor : Str → Option FE := fun _ => none
  fld : Str → Bool := fun _ => false
  prp : Str → Option (Str → Option FM) := fun _ => none
  oeq : Option (Str → Option FM) := none
  lns : Option (Str → Option FM) := none
  kwn : Str → Option (List Str) := fun _ => none
  kwf : Str → Option (List Str) := fun _ => none
def ixIn (x : Str) : List Str → Option Nat
  | [] => none
  | y :: ys => if y = x then some 0 else (ixIn x ys).map (· + 1)
theorem ixIn_get {x : Str} : ∀ {ys : List Str} {i : Nat}, ixIn x ys = some i → ys[i]? = some x
  | [], _, e => by cases e
  | y :: ys, i, e => by
    simp only [ixIn] at e
    split at e
    · rename_i h; cases e; subst h; rfl
    · rw [Option.map_eq_some_iff] at e
      obtain ⟨j, e, rfl⟩ := e
      simpa using ixIn_get e
def visB (k : Option NameKind) : Bool := k == some .local || k == some .cell || k == some .free
def SC.slot (S : SC) (x : Str) : Option Nat := if visB (S.sc.names.lookup x) then ixIn x S.N else none
def SC.gl (S : SC) (x : Str) : Bool := S.sc.names.lookup x == some .globalImplicit
def nmOk (x : Str) : Bool := !(x == ("__debug__" : Str)) && !(x == ("__classdict__" : Str))
structure Cpt (S : SC) (C : Ck) (X : Cx) : Prop where
  hK : X.K = C.W.K.K
  hN : X.N = S.N
  nd : S.N.Nodup
  sc : X.env.scope = S.sc
  calm : X.calm = true
  un : X.A.units + 65 < cLine
  room : Room S.lvl X.A
  tk : L2N.Takes X C.Wx
  po : PassesOwn (model X.prog X.w) X.A X.env X.xe
  O : OwnT C.W.K
  blt : ∀ x, S.blt x = true → X.mg x = none
  con : ∀ x d, S.con x = some d → ∃ v u, X.mg x = some u ∧ RelV v u ∧ ∀ H, Rp C.W.K H v d
  fns : ∀ x e, S.fns x = some e → ∃ k f fd ps, k ≤ S.lvl ∧ X.mg x = some (.ref f) ∧ PySem.W.keepIn X.K (.ref f) = true ∧ Binds X.K fd ps [] ∧ FnOk X.prog X.w X.K X.mg X.base (L2N.CX X.prog X.w) k f fd ps (spOf C.W.K C.ca e.n e.f)
  cls : ∀ x, S.cls x = true → ∃ A, C.W.K.cl x = some A ∧ X.mg x = some (.ref A)
  hds : ∀ x, S.hdl x = true → ∃ Ax, X.mg x = some (.ref Ax) ∧ ∀ c A, C.ca c = some A → (∃ f, EkC X.K A f) ∧ PySem.W.exmOne X.K (.ref A) (.ref Ax) = some (rel c x)
  ctr : ∀ x e, S.ctor x = some e → ∃ A g fd ps k, C.W.K.cl x = some A ∧ X.mg x = some (.ref A) ∧ Mk X.K A g ∧ FnOk X.prog X.w X.K X.mg X.base (L2N.CX X.prog X.w) k g fd ps (spOf C.W.K C.ca (e.n + 1) e.f) ∧ k + 1 ≤ S.lvl ∧ Binds X.K fd ps []
  fld : ∀ f, S.fld f = true → ∀ c A, C.W.K.cl c = some A → NoAttr X.K A f
  prp : ∀ z g, S.prp z = some g → ∀ c f, g c = some f → Prp X C.W.K C.ca z c f
  oeq : ∀ g, S.oeq = some g → NoFirst X C.W.K ∧ ∀ c f, g c = some f → Spc X C.W.K C.ca "__eq__" 2 c f
  lns : ∀ g, S.lns = some g → ∀ c f, g c = some f → Spc X C.W.K C.ca "__len__" 1 c f
  kwc : ∀ x e ks, S.ctor x = some e → S.kwn x = some ks → ∃ A g fd ps k, C.W.K.cl x = some A ∧ X.mg x = some (.ref A) ∧ Mk X.K A g ∧ FnOk X.prog X.w X.K X.mg X.base (L2N.CX X.prog X.w) k g fd ps (spOf C.W.K C.ca (e.n + 1) e.f) ∧ k + 1 ≤ S.lvl ∧ KwAll X.K fd ps 1 ∧ ps.drop 1 = ks
  kwd : ∀ x e ks, S.fns x = some e → S.kwf x = some ks → ∃ k f fd ps, k ≤ S.lvl ∧ X.mg x = some (.ref f) ∧ PySem.W.keepIn X.K (.ref f) = true ∧ KwAll X.K fd ps 0 ∧ FnOk X.prog X.w X.K X.mg X.base (L2N.CX X.prog X.w) k f fd ps (spOf C.W.K C.ca e.n e.f) ∧ ps = ks
  stk : S.top = true → X.stack = X.env :: X.outer ∧ X.env.frame = some X.env.locals
  exs : ∀ x, S.exn x = true → ∃ A f fd ps k, C.ca x = some A ∧ X.mg x = some (.ref A) ∧ EkC X.K A f ∧ FnOk X.prog X.w X.K X.mg X.base (L2N.CX X.prog X.w) k f fd ps (spAt A) ∧ k + 1 ≤ S.lvl ∧ Binds X.K fd ps []
section
variable {S : SC} {C : Ck} {X : Cx}
theorem Cpt.slot (K : Cpt S C X) {x : Str} {i : Nat} (h : S.slot x = some i) : X.N[i]? = some x ∧ Vis X.env.scope x := by
  unfold SC.slot at h
  split at h
  · rename_i hv
    refine ⟨by rw [K.hN]; exact ixIn_get h, ?_⟩
    rw [K.sc]
    unfold visB at hv
    simp only [Bool.or_eq_true, beq_iff_eq] at hv
    rcases hv with (hv | hv) | hv
    · exact .inl hv
    · exact .inr (.inl hv)
    · exact .inr (.inr hv)
  · cases h
theorem Cpt.gl (K : Cpt S C X) {x : Str} (h : S.gl x = true) : Gl X x := by
  unfold SC.gl at h
  show X.env.scope.names.lookup x = _
  rw [K.sc]
  simpa using h
theorem nmOk1 {x : Str} (h : nmOk x = true) : (x == ("__debug__" : Str)) = false := by
  unfold nmOk at h
  simp only [Bool.and_eq_true, Bool.not_eq_true'] at h
  exact h.1
theorem nmOk2 {x : Str} (h : nmOk x = true) : (x == ("__classdict__" : Str)) = false := by
  unfold nmOk at h
  simp only [Bool.and_eq_true, Bool.not_eq_true'] at h
  exact h.2
end
abbrev SelfV := Expr → Den RV
abbrev SelfT := Expr → Den Bool
/-- a name's value -/
def nameV (S : SC) (x : Str) : Den RV := if nmOk x then match S.slot x with
  | some i => slotV i
  | none => if S.gl x then match S.con x with
    | some d => ret (.val d)
    | none => stuck
    else stuck
  else stuck
/-- only looked into -/
def coE (S : SC) (sv : SelfV) (e : Expr) : Den CO := match e with
  | .Name x _ => match S.slot x with
    | some i => if nmOk x then slotC i else stuck
    | none => coD (frzD (sv e))
  | _ => coD (frzD (sv e))
def dE (sv : SelfV) (e : Expr) : Den D := frzD (sv e)
def argsD (sv : SelfV) : List Expr → Den (List D)
  | [] => ret []
  | e :: es => consA (dE sv e) (argsD sv es)
def argC (S : SC) (sv : SelfV) (m : Bool) (e : Expr) : Den CO := if m then match e with
  | .Name x _ => match S.slot x with
    | some i => if nmOk x then slotC i else stuck
    | none => stuck
  | _ => stuck
  else coD (dE sv e)
def argsC (S : SC) (sv : SelfV) : List Bool → List Expr → Den (List CO)
  | _, [] => nilC
  | ms, e :: es => consC (argC S sv (ms.headD false) e) (argsC S sv ms.tail es)
def tyOfName (y : Str) : Option String := if y = ("int" : Str) then some "int" else if y = ("bool" : Str) then some "bool" else if y = ("str" : Str) then some "str" else if y = ("list" : Str) then some "list" else if y = ("tuple" : Str) then some "tuple" else none
def isiV (S : SC) (x : Den CO) : Expr → Den RV
  | .Name y _ => if S.gl y && nmOk y then match tyOfName y with
    | some T => if S.blt y then askV (isTn T) x else stuck
    | none => if S.cls y then askV (isOwn y) x else stuck
    else stuck
  | .Tuple [.Name y1 _, .Name y2 _] _ _ => if S.gl y1 && nmOk y1 && S.blt y1 && S.gl y2 && nmOk y2 && S.blt y2 then match tyOfName y1, tyOfName y2 with
    | some T1, some T2 => askV (fun d => isTn T1 d || isTn T2 d) x
    | _, _ => stuck
    else stuck
  | _ => stuck
/-- the base of an attribute -/
def plainA : Expr → Bool
  | .Name .. | .Attribute .. | .Subscript .. => true
  | _ => false
def atE (S : SC) (sv : SelfV) (e : Expr) (z : Str) : Den RV := if plainA e then
    if S.fld z then fldV z (coE S sv e) else match S.prp z with
      | some g => getV g (coE S sv e)
      | none => stuck
  else stuck
def cmpE (S : SC) (op : CmpOp) (x : Den D) (y : Den CO) : Den Bool := match op with
  | .Eq => match S.oeq with
    | some g => eqO g x y
    | none => cmpB .Eq x y
  | op => cmpB op x y
def lenE (S : SC) (x : Den CO) : Den RV := match S.lns with
  | some g => lenO g x
  | none => call1C lenD x
/-- a built-in function's call -/
def bltV2 (S : SC) (sv : SelfV) (x : Str) (es : List Expr) : Den RV :=
  if x = ("str" : Str) then match es with | [e] => call1D strD (dE sv e) | _ => stuck
  else if x = ("all" : Str) then match es with | [e] => call1D allD (dE sv e) | _ => stuck
  else if x = ("any" : Str) then match es with | [e] => call1D anyD (dE sv e) | _ => stuck
  else if x = ("isinstance" : Str) then match es with | [e, t] => isiV S (coE S sv e) t | _ => stuck
  else stuck
def bltV (S : SC) (sv : SelfV) (x : Str) (es : List Expr) : Den RV :=
  if x = ("len" : Str) then match es with | [e] => lenE S (coE S sv e) | _ => stuck
  else if x = ("tuple" : Str) then match es with | [e] => call1C tupleD (coE S sv e) | _ => stuck
  else if x = ("list" : Str) then match es with | [e] => call1C listD (coE S sv e) | _ => stuck
  else if x = ("int" : Str) then match es with | [e] => call1D intX (dE sv e) | _ => stuck
  else if x = ("abs" : Str) then match es with | [_] => callA absD (argsD sv es) | _ => stuck
  else if x = ("max" : Str) then match es with | [_, _] => callA maxD (argsD sv es) | _ => stuck
  else if x = ("min" : Str) then match es with | [_, _] => callA minD (argsD sv es) | _ => stuck
  else bltV2 S sv x es
/-- a call by a global name -/
def callV (S : SC) (sv : SelfV) (x : Str) (es : List Expr) : Den RV :=
  if S.gl x && nmOk x && es.all notStar then match S.ctor x with
   | some ce => if es.length = ce.n ∧ es ≠ [] then valD (frzD (bnd (argsC S sv ce.muts es) (newV x ce.n ce.f))) else stuck
   | none => match S.fns x with
    | some fe => if es.length = fe.n then bnd (argsC S sv fe.muts es) (runFn fe.n fe.f) else stuck
    | none => if S.blt x then bltV S sv x es else stuck
  else stuck
def argsK (S : SC) (sv : SelfV) : List Bool → List Keyword → Den (List CO)
  | _, [] => nilC
  | ms, ⟨_, e, _⟩ :: r => consC (argC S sv (ms.headD false) e) (argsK S sv ms.tail r)
def callK (S : SC) (sv : SelfV) (x : Str) (kws : List Keyword) : Den RV := if S.gl x && nmOk x then match S.ctor x, S.kwn x with
    | some ce, some ks => if kwNames kws = ks.map some then valD (frzD (bnd (argsK S sv ce.muts kws) (newV x ce.n ce.f))) else stuck
    | _, _ => match S.fns x, S.kwf x with
      | some fe, some ks => if kwNames kws = ks.map some then bnd (argsK S sv fe.muts kws) (runFn fe.n fe.f) else stuck
      | _, _ => stuck
  else stuck
/-- a method of a text, a list's pop -/
def baseOk : Expr → Bool
  | .Name .. | .Attribute .. | .Subscript .. | .Constant .. => true
  | _ => false
def methE (S : SC) (sv : SelfV) (o : Expr) (m : Str) (es : List Expr) (lines : Bool) : Den RV := match es with
  | [e] => if baseOk o && notStar e && lines then
      if m = ("split" : Str) then meth1 splitD (dE sv o) (dE sv e)
      else if m = ("join" : Str) then meth1 joinD (dE sv o) (dE sv e)
      else if m = ("partition" : Str) then meth1 partD (dE sv o) (dE sv e)
      else stuck
    else stuck
  | [] => match o with
    | .Name x _ => match S.slot x with
      | some i => if m = ("pop" : Str) && nmOk x && lines then popV i else stuck
      | none => stuck
    | _ => stuck
  | _ => stuck
/-- what is gone over -/
def isTupT : Expr → Bool
  | .Tuple .. => true
  | _ => false
def iterOf (S : SC) (sv : SelfV) (tg iter : Expr) : Den (List D) := match iter with
  | .Call (.Name f p) [a] [] p' => if f = ("range" : Str) then (if S.gl f && S.blt f && notStar a then rngF1 (dE sv a) else stuck)
    else if f = ("enumerate" : Str) then (if S.gl f && S.blt f && notStar a && isTupT tg then enumF 0 (dE sv a) else stuck)
    else itemsF (dE sv (.Call (.Name f p) [a] [] p'))
  | .Call (.Name f p) [a, b] [] p' => if f = ("range" : Str) then (if S.gl f && S.blt f && notStar a && notStar b then rngF2 (dE sv a) (dE sv b) else stuck)
    else if f = ("zip" : Str) then (if S.gl f && S.blt f && notStar a && notStar b && isTupT tg then zipF (dE sv a) (dE sv b) else stuck)
    else itemsF (dE sv (.Call (.Name f p) [a, b] [] p'))
  | iter => itemsF (dE sv iter)
/-- a comprehension's block -/
def SC.sub (S : SC) (scope : Scope) : SC := { S with sc := relS scope S.sc, top := false }
def ownsOk (N : List Str) (own : List (Str × Nat)) (scope : Scope) (sc : Scope) : Bool :=
  scope.kind == .function && scope.names.all (fun y => scope.names.lookup y.1 == some y.2) && own.all (fun p => N[p.2]? == some p.1) &&
  scope.names.all (fun y => y.2 != .free || (sc.names.lookup y.1 == some .cell || sc.names.lookup y.1 == some .free)) &&
  scope.names.all (fun y => !(y.2 == .local || y.2 == .cell) || ((own.map (·.1)).contains y.1 || !(N.contains y.1))) &&
  own.all (fun p => (relS scope sc).names.lookup p.1 == some .local || ((relS scope sc).names.lookup p.1 == some .cell && scope.names.lookup p.1 == some .cell))
mutual
def owT (S : SC) : Expr → Option (Tg × List (Str × Nat))
  | .Name v _ => (ixIn v S.N).map fun k => (.name k, [(v, k)])
  | .Tuple es _ _ => (owTs S es).map fun p => (.tup p.1, p.2)
  | _ => none
def owTs (S : SC) : List Expr → Option (List Tg × List (Str × Nat))
  | [] => some ([], [])
  | e :: es => match owT S e, owTs S es with
    | some (t, a), some (ts, b) => some (t :: ts, a ++ b)
    | _, _ => none
end
def lcV (S : SC) (sv : SC → SelfV) (st : SC → SelfT) (elt : Expr) (gens : List Comprehension) (scope : Scope) : Den RV := match gens with
  | [⟨tg, iter, ifs, 0⟩] => match owT S tg with
    | some (t, own) => if ownsOk S.N own scope S.sc && notSet iter then match ifs with
        | [] => lcF (iterOf S (sv S) tg iter) (dE (sv (S.sub scope)) elt) (ret true) t (own.map (·.2))
        | [c] => lcF (iterOf S (sv S) tg iter) (dE (sv (S.sub scope)) elt) (st (S.sub scope) c) t (own.map (·.2))
        | _ => stuck
      else stuck
    | none => stuck
  | _ => stuck
def evV (S : SC) (sv : SC → SelfV) (st : SC → SelfT) (e : Expr) : Den RV := match e with
  | .Constant c _ _ => match constD c with
    | some d => ret (.val d)
    | none => stuck
  | .Name x _ => nameV S x
  | .Tuple es _ _ => if es.all notStar then tupV (argsD (sv S) es) else stuck
  | .List es _ => if es.all notStar then lstV (argsD (sv S) es) else stuck
  | .BinOp a op b _ => binV op (coE S (sv S) a) (coE S (sv S) b)
  | .UnaryOp .Not a _ => notV (sv S a)
  | .UnaryOp .USub a _ => negV (dE (sv S) a)
  | .BoolOp .And es _ => andV (es.map (sv S))
  | .BoolOp .Or es _ => orV (es.map (sv S))
  | .IfExp t a b _ => ifV (st S t) (sv S a) (sv S b)
  | .Attribute a z _ => atE S (sv S) a z
  | .Compare a [op] [b] _ => if notSet b then blV (cmpE S op (dE (sv S) a) (coE S (sv S) b)) else stuck
  | .Compare a [o1, o2] [b, c] _ => if notSet c then blV (chainB o1 o2 (dE (sv S) a) (dE (sv S) b) (dE (sv S) c)) else stuck
  | .Subscript a (.Slice lo hi none _) _ => slcV (coE S (sv S) a) (match lo with | some e => part (dE (sv S) e) | none => noPart) (match hi with | some e => part (dE (sv S) e) | none => noPart)
  | .Subscript a b _ => if notSlice b then ixV (coE S (sv S) a) (dE (sv S) b) else stuck
  | .Call (.Name x _) es [] _ => callV S (sv S) x es
  | .Call (.Name x _) [] kws _ => callK S (sv S) x kws
  | .Call (.Attribute o m ap) es [] cp => methE S (sv S) o m es (ap.endLine == cp.line)
  | .ListComp elt gens scope _ => lcV S sv st elt gens scope
  | _ => stuck
def evT (S : SC) (sv : SC → SelfV) (st : SC → SelfT) (e : Expr) : Den Bool := match e with
  | .Compare a [op] [b] _ => if notSet b then cmpE S op (dE (sv S) a) (coE S (sv S) b) else stuck
  | .Compare a [o1, o2] [b, c] _ => if notSet c then chainB o1 o2 (dE (sv S) a) (dE (sv S) b) (dE (sv S) c) else stuck
  | .BoolOp .And es _ => andB (es.map (st S))
  | .BoolOp .Or es _ => orB (es.map (st S))
  | .UnaryOp .Not a _ => notB (st S a)
  | .IfExp t a b _ => ifB (st S t) (st S a) (st S b)
  | e => if plainT e then truC (coE S (sv S) e) else stuck
def evP : Nat → SC → Expr → Den RV × Den Bool
  | 0, _, _ => (stuck, stuck)
  | n + 1, S, e => (evV S (fun S e => (evP n S e).1) (fun S e => (evP n S e).2) e, evT S (fun S e => (evP n S e).1) (fun S e => (evP n S e).2) e)
end DI
set_option maxRecDepth 100000
set_option maxHeartbeats 4000000
namespace DI
open PySem PySem.Spec PyProof.Rows L2

section
variable {S : SC} {C : Ck} {X : Cx} {sv : SC → SelfV} {st : SC → SelfT}
theorem takesNo {X : Cx} : L2N.Takes X (fun _ _ _ _ => False) := fun _ _ y => by
  obtain ⟨_, _, _, _, _, _, _, _, _, _, _, _, _, _, _, _, no⟩ := y
  exact no.elim
theorem Cpt.blk (K : Cpt S C X) (W : Wd) (hW : W.K = C.W.K) (s : Shared) (H : Hp) (A : Addr) (cl : List (Str × Addr)) (fp : List Addr) (scope : Scope) : Cpt (S.sub scope) ⟨W, fun _ _ _ _ => False, C.ca⟩ (X.blk s H scope (compEnvC scope cl A X.env) fp) where
  hK := by show X.K = W.K.K; rw [hW]; exact K.hK
  hN := K.hN
  nd := K.nd
  sc := by show relS scope X.env.scope = relS scope S.sc; rw [K.sc]
  calm := K.calm
  un := K.un
  room := K.room
  tk := takesNo
  po := PassesOwn.never
  O := by show OwnT W.K; rw [hW]; exact K.O
  blt := K.blt
  con := fun x d h => by show ∃ v u, X.mg x = some u ∧ RelV v u ∧ ∀ H, Rp W.K H v d; rw [hW]; exact K.con x d h
  fns := fun x e h => by
    obtain ⟨k, f, fd, ps, a, b, c, d, g⟩ := K.fns x e h
    refine ⟨k, f, fd, ps, a, b, c, d, ?_⟩
    show FnOk X.prog X.w X.K X.mg X.base (L2N.CX X.prog X.w) k f fd ps (spOf W.K C.ca e.n e.f)
    rw [hW]; exact g
  cls := fun x h => by show ∃ A, W.K.cl x = some A ∧ X.mg x = some (.ref A); rw [hW]; exact K.cls x h
  hds := K.hds
  kwc := fun x e ks h h2 => by
    obtain ⟨A, g, fd, ps, k, a, b, c, d, r⟩ := K.kwc x e ks h h2
    refine ⟨A, g, fd, ps, k, by show W.K.cl x = some A; rw [hW]; exact a, b, c, ?_, r⟩
    show FnOk X.prog X.w X.K X.mg X.base (L2N.CX X.prog X.w) k g fd ps (spOf W.K C.ca (e.n + 1) e.f)
    rw [hW]; exact d
  ctr := fun x e h => by
    obtain ⟨A, g, fd, ps, k, a, b, c, d, r⟩ := K.ctr x e h
    refine ⟨A, g, fd, ps, k, by show W.K.cl x = some A; rw [hW]; exact a, b, c, ?_, r⟩
    show FnOk X.prog X.w X.K X.mg X.base (L2N.CX X.prog X.w) k g fd ps (spOf W.K C.ca (e.n + 1) e.f)
    rw [hW]; exact d
  fld := fun f h c A z => K.fld f h c A (by rw [← hW]; exact z)
  prp := fun z g h c f q => by
    obtain ⟨A, p, g', fd, k, ps, a, b, d, r⟩ := (K.prp z g h c f q).ex
    refine ⟨A, p, g', fd, k, ps, by show W.K.cl c = some A; rw [hW]; exact a, b, ?_, r⟩
    show FnOk X.prog X.w X.K X.mg X.base (L2N.CX X.prog X.w) k g' fd ps (spOf W.K C.ca 1 f)
    rw [hW]; exact d
  oeq := fun g h => by
    obtain ⟨n, q⟩ := K.oeq g h
    refine ⟨fun c A z => ?_, fun c f h' => ?_⟩
    · have z' : C.W.K.cl c = some A := by rw [← hW]; exact z
      refine ⟨(n c A z').1, fun c2 A2 z2 => (n c A z').2 c2 A2 (by rw [← hW]; exact z2)⟩
    · obtain ⟨A, g', fd, k, ps, a, b, d, e, r⟩ := (q c f h').ex
      refine ⟨A, g', fd, k, ps, by show W.K.cl c = some A; rw [hW]; exact a, b, d, ?_, r⟩
      show FnOk X.prog X.w X.K X.mg X.base (L2N.CX X.prog X.w) k g' fd ps (spOf W.K C.ca 2 f)
      rw [hW]; exact e
  lns := fun g h c f h' => by
    obtain ⟨A, g', fd, k, ps, a, b, d, e, r⟩ := (K.lns g h c f h').ex
    refine ⟨A, g', fd, k, ps, by show W.K.cl c = some A; rw [hW]; exact a, b, d, ?_, r⟩
    show FnOk X.prog X.w X.K X.mg X.base (L2N.CX X.prog X.w) k g' fd ps (spOf W.K C.ca 1 f)
    rw [hW]; exact e
  kwd := fun x e ks h h2 => by
    obtain ⟨k, f, fd, ps, a, b, c, d, g, r⟩ := K.kwd x e ks h h2
    refine ⟨k, f, fd, ps, a, b, c, d, ?_, r⟩
    show FnOk X.prog X.w X.K X.mg X.base (L2N.CX X.prog X.w) k f fd ps (spOf W.K C.ca e.n e.f)
    rw [hW]; exact g
  stk := fun h => nomatch h
  exs := K.exs

theorem nameV_ok (K : Cpt S C X) {x : Str} {pos : Pos} : PE X (.Name x pos) (tG C lV (nameV S x)) := by
  unfold nameV
  split
  · rename_i hn
    split
    · rename_i i h
      obtain ⟨h1, h2⟩ := K.slot h
      exact pe_slotV h1 h2 (nmOk1 hn) (nmOk2 hn)
    · split
      · rename_i hg
        split
        · rename_i d h
          obtain ⟨v, u, hm, r, rp⟩ := K.con x d h
          exact pe_ret (pe_glob (K.gl hg) hm r (nmOk1 hn)) rp
        · exact pe_stuck (α := Unit)
      · exact pe_stuck (α := Unit)
  · exact pe_stuck (α := Unit)
theorem slotC_ok (K : Cpt S C X) {x : Str} {i : Nat} {pos : Pos} (h : S.slot x = some i) (hn : nmOk x = true) : PE X (.Name x pos) (tG C lC (slotC i)) := by
  obtain ⟨h1, h2⟩ := K.slot h
  exact pe_slotC h1 h2 (nmOk1 hn) (nmOk2 hn)
theorem pe_stuckC {e : Expr} : PE X e (tG C lC stuck) := ⟨fun _ _ _ _ _ _ ⟨_, _, _, _, e, _⟩ => by cases e⟩
theorem ownsOk_ok {N : List Str} {own : List (Str × Nat)} {scope sc : Scope} (h : ownsOk N own scope sc = true) : BlkOk N sc scope own ∧ ∀ p ∈ own, N[p.2]? = some p.1 ∧ ((relS scope sc).names.lookup p.1 = some .local ∨ ((relS scope sc).names.lookup p.1 = some .cell ∧ scope.names.lookup p.1 = some .cell)) := by
  unfold ownsOk at h
  simp only [Bool.and_eq_true, List.all_eq_true, beq_iff_eq, Bool.or_eq_true, bne_iff_ne, ne_eq, Bool.not_eq_true', Bool.or_eq_false_iff] at h
  obtain ⟨⟨⟨⟨⟨h1, h2⟩, h3⟩, h4⟩, h5⟩, h6⟩ := h
  refine ⟨⟨h1, fun y hy => h2 y hy, fun p hp => h3 p hp, fun y hy e => ?_, fun y hy e => ?_⟩, fun p hp => ⟨h3 p hp, h6 p hp⟩⟩
  · rcases h4 y hy with z | z
    · exact absurd e z
    · exact z
  · rcases h5 y hy with z | z
    · rcases e with e | e <;> simp [e] at z
    · rcases z with z | z
      · exact .inl (by simpa using z)
      · exact .inr (by simpa using z)
theorem assign_consO {e : Expr} {es : List Expr} {env : Env} (h : (owT S e).isSome = true) : assignEach (e :: es) env = (false, assign e env) :: assignEach es env := by
  cases e <;> first | rfl | (simp [owT] at h)
theorem owTs_len : ∀ {es : List Expr} {ts : List Tg} {own : List (Str × Nat)} {env : Env}, owTs S es = some (ts, own) → (assignEach es env).length = ts.length ∧ (assignEach es env).findIdx? (·.1) = none
  | [], ts, own, env, h => by simp only [owTs, Option.some.injEq, Prod.mk.injEq] at h; obtain ⟨rfl, rfl⟩ := h; exact ⟨rfl, rfl⟩
  | e :: es, ts, own, env, h => by
    simp only [owTs] at h
    split at h
    · rename_i t a ts' b h1 h2
      cases h
      obtain ⟨x, y⟩ := owTs_len (env := env) h2
      rw [assign_consO (S := S) (by rw [h1]; rfl)]
      refine ⟨by simp [x], ?_⟩
      rw [List.findIdx?_cons]
      simp [y]
    · cases h
mutual
theorem owT_ok {X' : Cx} {ks : List Nat} (hK : X'.K = C.W.K.K) (hc : X'.calm = true) (nd : X'.N.Nodup) : ∀ {e : Expr} {t : Tg} {own : List (Str × Nat)}, owT S e = some (t, own) → (∀ p ∈ own, p.2 ∈ ks ∧ X'.N[p.2]? = some p.1 ∧ Loc X'.env.scope p.1 ∧ (X'.fn p.1 = true ∨ X'.env.scope.names.lookup p.1 = some .local)) → PG X' e (gK C ks t)
  | .Name v p, t, own, h, hp => by
    simp only [owT, Option.map_eq_some_iff, Prod.mk.injEq] at h
    obtain ⟨k, hk, rfl, rfl⟩ := h
    obtain ⟨a, b, c, d⟩ := hp (v, k) (by simp)
    exact pg_nameK a nd b c d
  | .Tuple es k p, t, own, h, hp => by
    simp only [owT, Option.map_eq_some_iff] at h
    obtain ⟨⟨ts, b⟩, h, e⟩ := h
    cases e
    obtain ⟨a, c⟩ := owTs_len (env := X'.env) h
    exact pg_tupK hK hc (owTs_ok hK hc nd h hp) a c
  | .BoolOp .., _, _, h, _ | .NamedExpr .., _, _, h, _ | .BinOp .., _, _, h, _ | .UnaryOp .., _, _, h, _ | .Lambda .., _, _, h, _ | .IfExp .., _, _, h, _ | .Dict .., _, _, h, _ | .Set .., _, _, h, _ | .ListComp .., _, _, h, _ | .SetComp .., _, _, h, _ | .DictComp .., _, _, h, _
  | .GeneratorExp .., _, _, h, _ | .Await .., _, _, h, _ | .Yield .., _, _, h, _ | .YieldFrom .., _, _, h, _ | .Compare .., _, _, h, _ | .Call .., _, _, h, _ | .FormattedValue .., _, _, h, _ | .JoinedStr .., _, _, h, _ | .Constant .., _, _, h, _ | .Attribute .., _, _, h, _ | .Subscript .., _, _, h, _
  | .Starred .., _, _, h, _ | .List .., _, _, h, _ | .Slice .., _, _, h, _ => by simp [owT] at h
theorem owTs_ok {X' : Cx} {ks : List Nat} (hK : X'.K = C.W.K.K) (hc : X'.calm = true) (nd : X'.N.Nodup) : ∀ {es : List Expr} {ts : List Tg} {own : List (Str × Nat)}, owTs S es = some (ts, own) → (∀ p ∈ own, p.2 ∈ ks ∧ X'.N[p.2]? = some p.1 ∧ Loc X'.env.scope p.1 ∧ (X'.fn p.1 = true ∨ X'.env.scope.names.lookup p.1 = some .local)) → PGs X' es (gKs C ks ts)
  | [], ts, own, h, hp => by simp only [owTs, Option.some.injEq, Prod.mk.injEq] at h; obtain ⟨rfl, rfl⟩ := h; exact pgs_nilK
  | e :: es, ts, own, h, hp => by
    simp only [owTs] at h
    split at h
    · rename_i t a ts' b h1 h2
      cases h
      exact pgs_consK (owT_ok hK hc nd h1 fun p m => hp p (List.mem_append_left _ m)) (owTs_ok hK hc nd h2 fun p m => hp p (List.mem_append_right _ m)) (by rw [assign_consO (S := S) (by rw [h1]; rfl)]; rfl)
    · cases h
end
variable (hv : ∀ S C X e, Cpt S C X → PE X e (tG C lV (sv S e))) (ht : ∀ S C X e, Cpt S C X → PT X e (tG C lB (st S e)))
include hv
theorem dE_ok (K : Cpt S C X) (e : Expr) : PE X e (tG C lD (dE (sv S) e)) := frzD_ok (hv S C X e K)
theorem coE_ok (K : Cpt S C X) (e : Expr) : PE X e (tG C lC (coE S (sv S) e)) := by
  unfold coE
  split
  · split
    · rename_i i h
      split
      · rename_i hn; exact slotC_ok K h hn
      · exact pe_stuckC
    · exact pe_coD (dE_ok hv K _)
  · exact pe_coD (dE_ok hv K _)
theorem argsD_ok (K : Cpt S C X) : ∀ es : List Expr, es.all notStar = true → PA X es (tG C lA (argsD (sv S) es))
  | [], _ => pa_nilD
  | e :: es, h => by
    rw [List.all_cons, Bool.and_eq_true] at h
    exact pa_consD (dE_ok hv K e) (argsD_ok K es h.2) (star_cons h.1)
theorem argC_ok (K : Cpt S C X) (m : Bool) (e : Expr) : PE X e (tG C lC (argC S (sv S) m e)) := by
  unfold argC
  split
  · split
    · split
      · rename_i i h
        split
        · rename_i hn; exact slotC_ok K h hn
        · exact pe_stuckC
      · exact pe_stuckC
    · exact pe_stuckC
  · exact pe_coD (dE_ok hv K e)
theorem argsC_ok (K : Cpt S C X) : ∀ (es : List Expr) (ms : List Bool), es.all notStar = true → PA X es (tG C lCs (argsC S (sv S) ms es))
  | [], _, _ => pa_nilC
  | e :: es, ms, h => by
    rw [List.all_cons, Bool.and_eq_true] at h
    exact pa_consC (argC_ok hv K _ e) (argsC_ok K es _ h.2) h.1
omit hv in
theorem tyOfName_ok {y : Str} {T : String} (h : tyOfName y = some T) : T ∈ five ∧ bootBuiltins y = some (.type T) ∧ y ≠ "__name__" := by
  unfold tyOfName at h
  split at h
  · rename_i e; subst e; cases h; exact ⟨by decide, by decide +kernel, by decide +kernel⟩
  · split at h
    · rename_i e; subst e; cases h; exact ⟨by decide, by decide +kernel, by decide +kernel⟩
    · split at h
      · rename_i e; subst e; cases h; exact ⟨by decide, by decide +kernel, by decide +kernel⟩
      · split at h
        · rename_i e; subst e; cases h; exact ⟨by decide, by decide +kernel, by decide +kernel⟩
        · split at h
          · rename_i e; subst e; cases h; exact ⟨by decide, by decide +kernel, by decide +kernel⟩
          · cases h
omit hv in
theorem isiV_ok (K : Cpt S C X) {e t : Expr} {p pos : Pos} {x : Den CO} (hg : Gl X "isinstance") (hm : X.mg "isinstance" = none) (h : PE X e (tG C lC x)) (hs : notStar e = true) : PE X (.Call (.Name "isinstance" p) [e, t] [] pos) (tG C lV (isiV S x t)) := by
  unfold isiV
  split
  · split
    · rename_i y _ hb
      rw [Bool.and_eq_true] at hb
      split
      · rename_i T hT
        obtain ⟨a, b, c⟩ := tyOfName_ok hT
        split
        · rename_i hbl
          exact pe_isTy K.hK K.O a hg hm b (K.gl hb.1) (K.blt _ hbl) c (nmOk1 hb.2) h hs
        · exact pe_stuck (α := Unit)
      · split
        · rename_i hc
          obtain ⟨A, h1, h2⟩ := K.cls _ hc
          exact pe_isOwn K.hK K.O h1 hg hm (K.gl hb.1) h2 (nmOk1 hb.2) h hs
        · exact pe_stuck (α := Unit)
    · exact pe_stuck (α := Unit)
  · split
    · rename_i y1 _ y2 _ _ _ hb
      simp only [Bool.and_eq_true] at hb
      obtain ⟨⟨⟨⟨⟨b1, b2⟩, b3⟩, b4⟩, b5⟩, b6⟩ := hb
      split
      · rename_i T1 T2 h1 h2
        obtain ⟨a, b, c⟩ := tyOfName_ok h1
        obtain ⟨a', b', c'⟩ := tyOfName_ok h2
        exact pe_isTy2 K.hK K.O a a' hg hm b (K.gl b1) (K.blt _ b3) c (nmOk1 b2) b' (K.gl b4) (K.blt _ b6) c' (nmOk1 b5) h hs
      · exact pe_stuck (α := Unit)
    · exact pe_stuck (α := Unit)
  · exact pe_stuck (α := Unit)
omit hv in
theorem valD_ok {e : Expr} {x : Den D} (h : PE X e (tG C lD x)) : PE X e (tG C lV (valD x)) := by
  refine h.imp fun σ H Q hq => ?_
  obtain ⟨Hf, ρ, o, S, e, f⟩ := hq
  exact tG_bnd' S e f fun v H1 Hf1 ρ1 d S1 ex r e1 f1 => f1.ret e1 S1 (Evl.Ex.refl _) r
omit hv in
theorem plainA_ok {e : Expr} (h : plainA e = true) (z : Str) (env : Env) : attributeBase e z env (eval e env) = eval e env := by
  cases e <;> first | rfl | cases h
theorem atE_ok (K : Cpt S C X) (e : Expr) (z : Str) (pos : Pos) : PE X (.Attribute e z pos) (tG C lV (atE S (sv S) e z)) := by
  unfold atE
  split
  · rename_i hp
    split
    · rename_i hf
      exact pe_fldD K.hK K.O (K.fld z hf) (coE_ok hv K e) (plainA_ok hp z X.env)
    · split
      · rename_i g hg
        exact pe_getD K.hK K.O (K.prp z g hg) (coE_ok hv K e) (plainA_ok hp z X.env)
      · exact pe_stuck (α := Unit)
  · exact pe_stuck (α := Unit)
omit hv in
theorem cmpE_pe (K : Cpt S C X) {a b : Expr} {op : CmpOp} {pos : Pos} {x : Den D} {y : Den CO} (ha : PE X a (tG C lD x)) (hb : PE X b (tG C lC y)) (hm : notSet b = true) : PE X (.Compare a [op] [b] pos) (tG C lV (blV (cmpE S op x y))) := by
  unfold cmpE
  split
  · split
    · rename_i g hg
      exact pe_eqO K.hK K.un K.O (K.oeq g hg).1 (K.oeq g hg).2 ha hb (notSet_mark hm)
    · exact pe_cmpD K.hK K.un ha hb (notSet_mark hm)
  · exact pe_cmpD K.hK K.un ha hb (notSet_mark hm)
omit hv in
theorem cmpE_pt (K : Cpt S C X) {a b : Expr} {op : CmpOp} {pos : Pos} {x : Den D} {y : Den CO} (ha : PE X a (tG C lD x)) (hb : PE X b (tG C lC y)) (hm : notSet b = true) : PT X (.Compare a [op] [b] pos) (tG C lB (cmpE S op x y)) := by
  unfold cmpE
  split
  · split
    · rename_i g hg
      exact pt_eqO K.hK K.un K.O (K.oeq g hg).1 (K.oeq g hg).2 ha hb (notSet_mark hm)
    · exact pt_cmpD K.hK K.un ha hb (notSet_mark hm)
  · exact pt_cmpD K.hK K.un ha hb (notSet_mark hm)
omit hv in
theorem lenE_ok (K : Cpt S C X) {e : Expr} {p pos : Pos} {x : Den CO} (hg : Gl X "len") (hm : X.mg "len" = none) (h : PE X e (tG C lC x)) (hs : notStar e = true) : PE X (.Call (.Name "len" p) [e] [] pos) (tG C lV (lenE S x)) := by
  unfold lenE
  split
  · rename_i g hl
    exact pe_lenO K.hK (K.lns g hl) hg hm h hs
  · exact pe_lenD K.hK hg hm h hs
theorem blt2_ok (K : Cpt S C X) {x : Str} {es : List Expr} {p pos : Pos} (b1 : S.gl x = true) (b3 : es.all notStar = true) (hbl : S.blt x = true) : PE X (.Call (.Name x p) es [] pos) (tG C lV (bltV2 S (sv S) x es)) := by
  unfold bltV2
  split
  · rename_i hx; subst hx
    split
    · rename_i e
      simp only [List.all_cons, Bool.and_eq_true] at b3
      exact pe_strD (K.gl b1) (K.blt _ hbl) (dE_ok hv K e) b3.1
    · exact pe_stuck (α := Unit)
  · skip
    split
    · rename_i hx; subst hx
      split
      · rename_i e
        simp only [List.all_cons, Bool.and_eq_true] at b3
        exact pe_allD K.calm K.hK (K.gl b1) (K.blt _ hbl) (dE_ok hv K e) b3.1
      · exact pe_stuck (α := Unit)
    · skip
      split
      · rename_i hx; subst hx
        split
        · rename_i e
          simp only [List.all_cons, Bool.and_eq_true] at b3
          exact pe_anyD K.calm K.hK (K.gl b1) (K.blt _ hbl) (dE_ok hv K e) b3.1
        · exact pe_stuck (α := Unit)
      · skip
        split
        · rename_i hx; subst hx
          split
          · rename_i e t
            simp only [List.all_cons, Bool.and_eq_true] at b3
            exact isiV_ok K (K.gl b1) (K.blt _ hbl) (coE_ok hv K e) b3.1
          · exact pe_stuck (α := Unit)
        · skip
          exact pe_stuck (α := Unit)
theorem blt_ok (K : Cpt S C X) {x : Str} {es : List Expr} {p pos : Pos} (b1 : S.gl x = true) (b3 : es.all notStar = true) (hbl : S.blt x = true) : PE X (.Call (.Name x p) es [] pos) (tG C lV (bltV S (sv S) x es)) := by
  unfold bltV
  split
  · rename_i hx; subst hx
    split
    · rename_i e
      simp only [List.all_cons, Bool.and_eq_true] at b3
      exact lenE_ok K (K.gl b1) (K.blt _ hbl) (coE_ok hv K e) b3.1
    · exact pe_stuck (α := Unit)
  · skip
    split
    · rename_i hx; subst hx
      split
      · rename_i e
        simp only [List.all_cons, Bool.and_eq_true] at b3
        exact pe_tupleD K.hK (K.gl b1) (K.blt _ hbl) (coE_ok hv K e) b3.1
      · exact pe_stuck (α := Unit)
    · skip
      split
      · rename_i hx; subst hx
        split
        · rename_i e
          simp only [List.all_cons, Bool.and_eq_true] at b3
          exact pe_listD K.hK (K.gl b1) (K.blt _ hbl) (coE_ok hv K e) b3.1
        · exact pe_stuck (α := Unit)
      · skip
        split
        · rename_i hx; subst hx
          split
          · rename_i e
            simp only [List.all_cons, Bool.and_eq_true] at b3
            exact pe_intX (K.gl b1) (K.blt _ hbl) (dE_ok hv K e) b3.1
          · exact pe_stuck (α := Unit)
        · skip
          split
          · rename_i hx; subst hx
            split
            · exact pe_absD (K.gl b1) (K.blt _ hbl) (argsD_ok hv K _ b3) b3
            · exact pe_stuck (α := Unit)
          · skip
            split
            · rename_i hx; subst hx
              split
              · exact pe_maxD K.calm (K.gl b1) (K.blt _ hbl) (argsD_ok hv K _ b3) b3
              · exact pe_stuck (α := Unit)
            · skip
              split
              · rename_i hx; subst hx
                split
                · exact pe_minD K.calm (K.gl b1) (K.blt _ hbl) (argsD_ok hv K _ b3) b3
                · exact pe_stuck (α := Unit)
              · skip
                exact blt2_ok hv K b1 b3 hbl
theorem callV_ok (K : Cpt S C X) {x : Str} {es : List Expr} {p pos : Pos} : PE X (.Call (.Name x p) es [] pos) (tG C lV (callV S (sv S) x es)) := by
  unfold callV
  split
  · rename_i hb
    simp only [Bool.and_eq_true] at hb
    obtain ⟨⟨b1, b2⟩, b3⟩ := hb
    split
    · rename_i ce hc
      split
      · rename_i hl
        obtain ⟨A, g, fd, ps, k, cl, hm, T, F, hk, hB⟩ := K.ctr x ce hc
        cases es with
        | nil => exact absurd rfl hl.2
        | cons e es => exact valD_ok (frzD_ok (pe_newD rfl cl T F (K.room.mono hk) (K.gl b1) hm hB K.tk (argsC_ok hv K _ _ b3) (nmOk1 b2) b3))
      · exact pe_stuck (α := Unit)
    · split
      · rename_i fe hf
        split
        · rename_i hl
          obtain ⟨k, f, fd, ps, hk, hm, hkp, hB, F⟩ := K.fns x fe hf
          cases es with
          | nil =>
            have := run0 (C := C) (p := p) (pos := pos) rfl F (K.room.mono hk) (K.gl b1) hm hkp hB K.tk (nmOk1 b2)
            exact this
          | cons e es => exact pe_callD rfl F (K.room.mono hk) (K.gl b1) hm hkp hB K.tk (argsC_ok hv K _ _ b3) (nmOk1 b2) b3
        · exact pe_stuck (α := Unit)
      · split
        · rename_i hbl; exact blt_ok hv K b1 b3 hbl
        · exact pe_stuck (α := Unit)
  · exact pe_stuck (α := Unit)
theorem argsK_ok (K : Cpt S C X) : ∀ (kws : List Keyword) (ms : List Bool), PK X kws (tG C lCs (argsK S (sv S) ms kws))
  | [], _ => pk_nilC
  | ⟨_, e, _⟩ :: r, ms => pk_consC (argC_ok hv K _ e) (argsK_ok K r _)
theorem callK_ok (K : Cpt S C X) {x : Str} {kws : List Keyword} {p pos : Pos} : PE X (.Call (.Name x p) [] kws pos) (tG C lV (callK S (sv S) x kws)) := by
  unfold callK
  split
  · rename_i hb
    simp only [Bool.and_eq_true] at hb
    split
    · rename_i ce ks h1 h2
      split
      · rename_i hn
        obtain ⟨A, g, fd, ps, k, cl, hm, T, F, hk, hB, hd⟩ := K.kwc x ce ks h1 h2
        subst hd
        obtain ⟨f1, f2, f3⟩ := kw_facts (env := X.env) (pos := pos) hn
        exact valD_ok (frzD_ok (pe_newKD rfl cl T F (K.room.mono hk) (K.gl hb.1) hm hB K.tk (argsK_ok hv K _ _) f1 f2 (by rw [f3]; rfl) (nmOk1 hb.2)))
      · exact pe_stuck (α := Unit)
    · split
      · rename_i fe ks h1 h2
        split
        · rename_i hn
          obtain ⟨k, f, fd, ps, hk, hm, hkp, hB, F, hd⟩ := K.kwd x fe ks h1 h2
          subst hd
          obtain ⟨f1, f2, f3⟩ := kw_facts (env := X.env) (pos := pos) hn
          exact pe_callKD rfl F (K.room.mono hk) (K.gl hb.1) hm hkp hB K.tk (argsK_ok hv K _ _) f1 f2 (by rw [f3]; rfl) (nmOk1 hb.2)
        · exact pe_stuck (α := Unit)
      · exact pe_stuck (α := Unit)
  · exact pe_stuck (α := Unit)
omit hv in
theorem baseOk_ok {e : Expr} (h : baseOk e = true) (z : Str) (env : Env) : attributeBase e z env (eval e env) = eval e env := by
  cases e <;> first | rfl | cases h
theorem methE_ok (K : Cpt S C X) {o : Expr} {m : Str} {es : List Expr} {ap cp : Pos} : PE X (.Call (.Attribute o m ap) es [] cp) (tG C lV (methE S (sv S) o m es (ap.endLine == cp.line))) := by
  unfold methE
  split
  · rename_i e
    split
    · rename_i hb
      simp only [Bool.and_eq_true] at hb
      split
      · rename_i hm; subst hm
        exact pe_splitD (dE_ok hv K _) (dE_ok hv K _) hb.1.2 (baseOk_ok hb.1.1 _ _) hb.2
      · split
        · rename_i hm; subst hm
          exact pe_joinD K.hK (dE_ok hv K _) (dE_ok hv K _) hb.1.2 (baseOk_ok hb.1.1 _ _) hb.2
        · split
          · rename_i hm; subst hm
            exact pe_partD (dE_ok hv K _) (dE_ok hv K _) hb.1.2 (baseOk_ok hb.1.1 _ _) hb.2
          · exact pe_stuck (α := Unit)
    · exact pe_stuck (α := Unit)
  · split
    · split
      · rename_i i hi
        split
        · rename_i hb
          simp only [Bool.and_eq_true, decide_eq_true_eq] at hb
          obtain ⟨⟨hm, hn⟩, hl⟩ := hb
          subst hm
          obtain ⟨a, b⟩ := K.slot hi
          exact pe_popD a b (nmOk1 hn) (nmOk2 hn) hl
        · exact pe_stuck (α := Unit)
      · exact pe_stuck (α := Unit)
    · exact pe_stuck (α := Unit)
  · exact pe_stuck (α := Unit)
omit hv in
theorem pi_stuck {tg iter : Expr} : PI X tg iter (tF C stuck) := ⟨fun _ _ _ _ _ _ ⟨_, _, _, _, e, _⟩ => by cases e⟩
theorem iter_ok (K : Cpt S C X) (tg iter : Expr) : PI X tg iter (tF C (iterOf S (sv S) tg iter)) := by
  unfold iterOf
  split
  · split
    · rename_i hf; subst hf
      split
      · rename_i hg
        simp only [Bool.and_eq_true] at hg
        exact pi_rngF1 (K.gl hg.1.1) (K.blt _ hg.1.2) (dE_ok hv K _) hg.2
      · exact pi_stuck
    · split
      · rename_i hf; subst hf
        split
        · rename_i hg
          simp only [Bool.and_eq_true] at hg
          cases tg <;> simp only [isTupT, Bool.false_eq_true, and_false] at hg
          exact pi_enumF K.hK (K.gl hg.1.1.1) (K.blt _ hg.1.1.2) (dE_ok hv K _) hg.1.2
        · exact pi_stuck
      · exact pi_itemsF K.hK (dE_ok hv K _)
  · split
    · rename_i hf; subst hf
      split
      · rename_i hg
        simp only [Bool.and_eq_true] at hg
        exact pi_rngF2 (K.gl hg.1.1.1) (K.blt _ hg.1.1.2) (dE_ok hv K _) (dE_ok hv K _) hg.1.2 hg.2
      · exact pi_stuck
    · split
      · rename_i hf; subst hf
        split
        · rename_i hg
          simp only [Bool.and_eq_true] at hg
          cases tg <;> simp only [isTupT, Bool.false_eq_true, and_false] at hg
          exact pi_zipF K.hK (K.gl hg.1.1.1.1) (K.blt _ hg.1.1.1.2) (dE_ok hv K _) (dE_ok hv K _) hg.1.1.2 hg.1.2
        · exact pi_stuck
      · exact pi_itemsF K.hK (dE_ok hv K _)
  · exact pi_itemsF K.hK (dE_ok hv K _)
theorem lct_of (K : Cpt S C X) {tg elt : Expr} {ifs : List Expr} {scope : Scope} {t : Tg} {own : List (Str × Nat)} {c : Den Bool} (h : owT S tg = some (t, own)) (b : ownsOk S.N own scope S.sc = true)
    (hc : ∀ (s : Shared) (H : Hp) (A : Addr) (cl : List (Str × Addr)) (fp : List Addr), PTs (X.blk s H scope (compEnvC scope cl A X.env) fp) ifs (tIn C lB c)) : LctOk C X scope own tg elt ifs t (dE (sv (S.sub scope)) elt) c := by
  obtain ⟨b1, b2⟩ := ownsOk_ok b
  have nd : X.N.Nodup := by rw [K.hN]; exact K.nd
  refine ⟨by rw [K.hN, K.sc]; exact b1, fun s H A cl fp => ?_, fun s H A cl fp => pe_in fun W hW => dE_ok hv (K.blk W hW s H A cl fp scope) elt, hc⟩
  refine owT_ok (S := S) (X' := X.blk s H scope (compEnvC scope cl A X.env) fp) K.hK K.calm nd h fun p hp => ?_
  obtain ⟨c1, c2⟩ := b2 p hp
  have es : (X.blk s H scope (compEnvC scope cl A X.env) fp).env.scope = relS scope S.sc := by show relS scope X.env.scope = _; rw [K.sc]
  refine ⟨List.mem_map_of_mem hp, by show X.N[p.2]? = _; rw [K.hN]; exact c1, ?_, ?_⟩
  · rcases c2 with z | z
    · exact .inl (by rw [es]; exact z)
    · exact .inr (by rw [es]; exact z.1)
  · rcases c2 with z | z
    · exact .inr (by rw [es]; exact z)
    · refine .inl ?_
      show (scope.names.lookup p.1 == some .cell) = true
      rw [z.2]; rfl
include ht
theorem lcV_ok (K : Cpt S C X) {elt : Expr} {gens : List Comprehension} {scope : Scope} {pos : Pos} : PE X (.ListComp elt gens scope pos) (tG C lV (lcV S sv st elt gens scope)) := by
  have nd : X.N.Nodup := by rw [K.hN]; exact K.nd
  unfold lcV
  split
  · rename_i tg iter ifs
    split
    · rename_i t own ho
      split
      · rename_i hb
        simp only [Bool.and_eq_true] at hb
        split
        · exact pe_lcF K.calm nd (lct_of hv K ho hb.1 fun s H A cl fp => pts_in0) (iter_ok hv K tg iter) hb.2
        · rename_i c
          exact pe_lcF K.calm nd (lct_of hv K ho hb.1 fun s H A cl fp => pts_in fun W hW => ht _ _ _ c (K.blk W hW s H A cl fp scope)) (iter_ok hv K tg iter) hb.2
        · exact pe_stuck (α := Unit)
      · exact pe_stuck (α := Unit)
    · exact pe_stuck (α := Unit)
  · exact pe_stuck (α := Unit)
omit ht in
theorem pairV (K : Cpt S C X) : ∀ es : List Expr, Paired (fun e x => PE X e (tG C lV x)) es (es.map (sv S))
  | [] => .nil
  | e :: es => .cons (hv S C X e K) (pairV K es)
omit hv in
theorem pairT (K : Cpt S C X) : ∀ es : List Expr, Paired (fun e x => PT X e (tG C lB x)) es (es.map (st S))
  | [] => .nil
  | e :: es => .cons (ht S C X e K) (pairT K es)
theorem evV_ok (K : Cpt S C X) (e : Expr) : PE X e (tG C lV (evV S sv st e)) := by
  unfold evV
  split
  · split
    · rename_i d h; exact pe_const h
    · exact pe_stuck (α := Unit)
  · exact nameV_ok K
  · split
    · rename_i h; exact pe_tupD (argsD_ok hv K _ h)
    · exact pe_stuck (α := Unit)
  · split
    · rename_i h; exact pe_lstD (argsD_ok hv K _ h)
    · exact pe_stuck (α := Unit)
  · exact pe_binD K.hK (coE_ok hv K _) (coE_ok hv K _)
  · exact pe_notD (hv _ _ _ _ K)
  · exact pe_negD (dE_ok hv K _)
  · rename_i es _
    cases es with
    | nil => exact pe_stuck (α := Unit)
    | cons e es => exact pe_andD (pairV hv K _) (by simp)
  · rename_i es _
    cases es with
    | nil => exact pe_stuck (α := Unit)
    | cons e es => exact pe_orD (pairV hv K _) (by simp)
  · exact pe_ifD (ht _ _ _ _ K) (hv _ _ _ _ K) (hv _ _ _ _ K)
  · exact atE_ok hv K _ _ _
  · split
    · rename_i h; exact cmpE_pe K (dE_ok hv K _) (coE_ok hv K _) h
    · exact pe_stuck (α := Unit)
  · split
    · rename_i h; exact pe_chainD K.hK K.un (dE_ok hv K _) (dE_ok hv K _) (dE_ok hv K _) h
    · exact pe_stuck (α := Unit)
  · refine pe_slcD K.hK (coE_ok hv K _) ?_ ?_
    · split
      · exact po_someD (dE_ok hv K _)
      · exact po_noneD
    · split
      · exact po_someD (dE_ok hv K _)
      · exact po_noneD
  · split
    · rename_i h; exact pe_ixD K.hK (coE_ok hv K _) (dE_ok hv K _) (notSlice_ok h)
    · exact pe_stuck (α := Unit)
  · exact callV_ok hv K
  · exact callK_ok hv K
  · exact methE_ok hv K
  · exact lcV_ok hv ht K
  · exact pe_stuck (α := Unit)
theorem evT_ok (K : Cpt S C X) (e : Expr) : PT X e (tG C lB (evT S sv st e)) := by
  unfold evT
  split
  · split
    · rename_i h; exact cmpE_pt K (dE_ok hv K _) (coE_ok hv K _) h
    · exact pt_stuck
  · split
    · rename_i h; exact pt_chainD K.hK K.un (dE_ok hv K _) (dE_ok hv K _) (dE_ok hv K _) h
    · exact pt_stuck
  · rename_i es _
    cases es with
    | nil => exact pt_stuck
    | cons e es => exact (pw_andD (pairT ht K _) (by simp)).pt
  · rename_i es _
    cases es with
    | nil => exact pt_stuck
    | cons e es => exact (pw_orD (pairT ht K _) (by simp)).pt
  · exact pt_notD (ht _ _ _ _ K)
  · exact pt_ifD (ht _ _ _ _ K) (ht _ _ _ _ K) (ht _ _ _ _ K)
  · split
    · rename_i h; exact pt_truD K.hK (coE_ok hv K _) (plainT_ok h)
    · exact pt_stuck
end
theorem sound : ∀ (n : Nat) (S : SC) (C : Ck) (X : Cx) (e : Expr), Cpt S C X → PE X e (tG C lV (evP n S e).1) ∧ PT X e (tG C lB (evP n S e).2)
  | 0, S, C, X, e, _ => ⟨pe_stuck (α := Unit), pt_stuck⟩
  | n + 1, S, C, X, e, K => ⟨evV_ok (fun S C X e K => (sound n S C X e K).1) (fun S C X e K => (sound n S C X e K).2) K e, evT_ok (fun S C X e K => (sound n S C X e K).1) (fun S C X e K => (sound n S C X e K).2) K e⟩
end DI
set_option maxRecDepth 100000
set_option maxHeartbeats 4000000
namespace DI
open PySem PySem.Spec PyProof.Rows L2

def locB (k : Option NameKind) : Bool := k == some .local || k == some .cell
def SC.loc (S : SC) (x : Str) : Option Nat := if locB (S.sc.names.lookup x) then ixIn x S.N else none
mutual
def tgOf (S : SC) : Expr → Option Tg
  | .Name x _ => (S.loc x).map .name
  | .Tuple es _ _ => (tgsOf S es).map .tup
  | _ => none
def tgsOf (S : SC) : List Expr → Option (List Tg)
  | [] => some []
  | e :: es => match tgOf S e, tgsOf S es with
    | some t, some ts => some (t :: ts)
    | _, _ => none
end
section
variable {S : SC} {C : Ck} {X : Cx}
theorem Cpt.loc (K : Cpt S C X) {x : Str} {i : Nat} (h : S.loc x = some i) : X.N[i]? = some x ∧ Loc X.env.scope x := by
  unfold SC.loc at h
  split at h
  · rename_i hv
    refine ⟨by rw [K.hN]; exact ixIn_get h, ?_⟩
    rw [K.sc]
    unfold locB at hv
    simp only [Bool.or_eq_true, beq_iff_eq] at hv
    exact hv
  · cases h
theorem tgOf_star {e : Expr} {t : Tg} (h : tgOf S e = some t) : notStar e = true := by
  cases e <;> first | rfl | (simp [tgOf] at h)
theorem assign_cons {e : Expr} {es : List Expr} {env : Env} (h : notStar e = true) : assignEach (e :: es) env = (false, assign e env) :: assignEach es env := by
  cases e <;> first | rfl | cases h
theorem tgs_len : ∀ {es : List Expr} {ts : List Tg} {env : Env}, tgsOf S es = some ts → (assignEach es env).length = ts.length ∧ (assignEach es env).findIdx? (·.1) = none
  | [], ts, env, h => by simp only [tgsOf, Option.some.injEq] at h; subst h; exact ⟨rfl, rfl⟩
  | e :: es, ts, env, h => by
    simp only [tgsOf] at h
    split at h
    · rename_i t ts' h1 h2
      cases h
      obtain ⟨a, b⟩ := tgs_len (env := env) h2
      rw [assign_cons (tgOf_star h1)]
      refine ⟨by simp [a], ?_⟩
      rw [List.findIdx?_cons]
      simp [b]
    · cases h
mutual
theorem tgOf_ok (K : Cpt S C X) (hf : ∀ x, X.fn x = true) : ∀ {e : Expr} {t : Tg}, tgOf S e = some t → PG X e (tTg C t)
  | .Name x p, t, h => by
    simp only [tgOf, Option.map_eq_some_iff] at h
    obtain ⟨i, h, rfl⟩ := h
    obtain ⟨a, b⟩ := K.loc h
    exact pg_nameD (by rw [K.hN]; exact K.nd) a b (.inl (hf x))
  | .Tuple es k p, t, h => by
    simp only [tgOf, Option.map_eq_some_iff] at h
    obtain ⟨ts, h, rfl⟩ := h
    obtain ⟨a, b⟩ := tgs_len (env := X.env) h
    exact pg_tupD K.hK K.calm (tgsOf_ok K hf h) a b
  | .BoolOp .., _, h | .NamedExpr .., _, h | .BinOp .., _, h | .UnaryOp .., _, h | .Lambda .., _, h | .IfExp .., _, h | .Dict .., _, h | .Set .., _, h | .ListComp .., _, h | .SetComp .., _, h | .DictComp .., _, h
  | .GeneratorExp .., _, h | .Await .., _, h | .Yield .., _, h | .YieldFrom .., _, h | .Compare .., _, h | .Call .., _, h | .FormattedValue .., _, h | .JoinedStr .., _, h | .Constant .., _, h | .Attribute .., _, h | .Subscript .., _, h
  | .Starred .., _, h | .List .., _, h | .Slice .., _, h => by simp [tgOf] at h
theorem tgsOf_ok (K : Cpt S C X) (hf : ∀ x, X.fn x = true) : ∀ {es : List Expr} {ts : List Tg}, tgsOf S es = some ts → PGs X es (tTgs C ts)
  | [], ts, h => by simp only [tgsOf, Option.some.injEq] at h; subst h; exact pgs_nilD
  | e :: es, ts, h => by
    simp only [tgsOf] at h
    split at h
    · rename_i t ts' h1 h2
      cases h
      exact pgs_consD (tgOf_ok K hf h1) (tgsOf_ok K hf h2) (by rw [assign_cons (tgOf_star h1)]; rfl)
    · cases h
end
end
abbrev SelfS := List Stmt → SDen
def noS : SDen := fun _ => none
def notTup : Expr → Bool
  | .Tuple .. => false
  | _ => true
theorem swapped_none {ts : List Expr} {k : Nat} {p : Pos} {e : Expr} {env : Env} (h : notTup e = true) : swappedStores [.Tuple ts k p] e env = pure none := by
  cases e <;> first | rfl | cases h
theorem sole_ok {t e : Expr} {l : Nat} {env : Env} (h : notComp e = true) : swapsWithSole [t] e l env = pure false := by
  unfold swapsWithSole
  exact notComp_ok h
def isLc : Expr → Bool
  | .ListComp .. => true
  | _ => false
def tryOf (S : SC) (h0 : ExceptHandler) (hs : List ExceptHandler) : Option (Nat × List (Str × HK)) := match h0 with
  | .ExceptHandler _ (some n) _ _ => if S.top && S.sc.names.lookup n == some .local && nmOk n then match S.slot n, hdsOf n (h0 :: hs) with
      | some i, some l => if l.all (fun p => S.hdl p.1 && S.gl p.1 && nmOk p.1) then some (i, l) else none
      | _, _ => none
    else none
  | _ => none
def exSt (S : SC) (n : Nat) (self : SelfS) (s : Stmt) : SDen :=
  let sv : SelfV := fun e => (evP n S e).1
  let st : SelfT := fun e => (evP n S e).2
  match s with
  | .Pass _ => nextS
  | .Break _ => brkS
  | .Continue _ => contS
  | .Expr (.Constant (.str _) _ _) _ => nextS
  | .Expr (.Call (.Attribute (.Name x _) m p2) [e] [] p3) _ => match S.slot x with
    | some i => if m = ("append" : Str) then (if nmOk x && notStar e && p2.endLine == p3.line then appS i (dE sv e) else noS)
      else if m = ("extend" : Str) then (if nmOk x && notStar e && p2.endLine == p3.line then extS i (dE sv e) else noS) else noS
    | none => noS
  | .Expr e _ => if notComp e then dropS (sv e) else noS
  | .Return none _ => retNone
  | .Return (some (.Name x p)) _ => match S.slot x with
    | some i => if nmOk x then retN i else noS
    | none => retS (sv (.Name x p))
  | .Return (some e) _ => retS (sv e)
  | .If c a b _ => ifS (st c) (self a) (self b)
  | .Assign [.Name x _] e _ => match S.loc x with
    | some i => if notComp e || isLc e then asgS i (sv e) else noS
    | none => noS
  | .Assign [.Tuple ts k p] e _ => if notComp e && notTup e then match tgOf S (.Tuple ts k p) with
      | some t => asgT t (dE sv e)
      | none => noS
    else noS
  | .Assign [.Attribute (.Name x _) f _] e _ => match S.slot x with
    | some i => if nmOk x && S.fld f && notComp e then setFS i f (dE sv e) else noS
    | none => noS
  | .Assign [.Subscript (.Name x _) k _] e _ => match S.slot x with
    | some i => if nmOk x && notSlice k && notComp e then setIxS (dE sv e) i (dE sv k) else noS
    | none => noS
  | .For tg iter b [] _ => match tgOf S tg with
    | some t => if notSet iter then forF (iterOf S sv tg iter) t (self b) else noS
    | none => noS
  | .While c b [] _ => whileS (st c) (self b) S.F
  | .Try b (h0 :: hs) [] [] _ => match tryOf S h0 hs with
    | some (i, l) => tryS i (self b) l
    | none => noS
  | .Raise (some (.Call (.Name x _) [e] [] _)) none _ => if nmOk x && S.exn x && S.gl x && notStar e then raiseS x (dE sv e) else noS
  | _ => noS
def exB (f : Stmt → SDen) : List Stmt → SDen
  | [] => nextS
  | s :: ss => seqS (f s) (exB f ss)
def exS (S : SC) (ne : Nat) : Nat → SelfS
  | 0 => fun _ => noS
  | n + 1 => fun ss => exB (exSt S ne (exS S ne n)) ss
section
variable {S : SC} {C : Ck} {X : Cx} {sv : SC → SelfV} {st : SC → SelfT}
variable (hv : ∀ S C X e, Cpt S C X → PE X e (tG C lV (sv S e))) (ht : ∀ S C X e, Cpt S C X → PT X e (tG C lB (st S e)))
include hv ht
/-- name = [..] on one line -/
theorem lcS_ok (K : Cpt S C X) {i : Nat} {n : Str} {py spos : Pos} (hy : X.N[i]? = some n) (hyl : X.env.scope.names.lookup n = some .local) {elt : Expr} {gens : List Comprehension} {scope : Scope} {pos : Pos}
    (hsw : swapsWith (.ListComp elt gens scope pos) (some (.Name n py)) spos.line X.env = pure true) : PS X (.Assign [.Name n py] (.ListComp elt gens scope pos) spos) (tSt C (asgS i (lcV S sv st elt gens scope))) := by
  have no : PS X (.Assign [.Name n py] (.ListComp elt gens scope pos) spos) (tSt C (asgS i stuck)) := ⟨fun _ _ _ _ _ _ ⟨_, _, _, _, e, _⟩ => by cases e⟩
  have nd : X.N.Nodup := by rw [K.hN]; exact K.nd
  unfold lcV
  split
  · rename_i tg iter ifs
    split
    · rename_i t own ho
      split
      · rename_i hb
        simp only [Bool.and_eq_true] at hb
        split
        · exact ps_lcF K.calm nd hy hyl hsw (lct_of hv K ho hb.1 fun s H A cl fp => pts_in0) (iter_ok hv K tg iter) hb.2
        · rename_i c
          exact ps_lcF K.calm nd hy hyl hsw (lct_of hv K ho hb.1 fun s H A cl fp => pts_in fun W hW => ht _ _ _ c (K.blk W hW s H A cl fp scope)) (iter_ok hv K tg iter) hb.2
        · exact no
      · exact no
    · exact no
  · exact no
end
section
variable {S : SC} {C : Ck} {X : Cx}
theorem ps_noS {s : Stmt} : PS X s (tSt C noS) := ps_stuck
theorem lc_swap {elt : Expr} {gens : List Comprehension} {scope : Scope} {pos p : Pos} {n : Str} {l : Nat} {env : Env} : ∃ b, swapsWith (.ListComp elt gens scope pos) (some (.Name n p)) l env = pure b ∧ (b = true → env.kindOf n = some .local) := by
  refine ⟨env.blockKind == .function && env.kindOf n == some .local && p.line == pos.line && !(scope.names.any fun (m, k) => m == n && (k == .local || k == .cell)), rfl, fun h => ?_⟩
  simp only [Bool.and_eq_true, beq_iff_eq] at h
  exact h.1.1.2
theorem Cpt.tr (K : Cpt S C X) {W : WX} {pn : List (Addr × Obj)} {xe : Value → Shared → Prop} (tk : L2N.Takes (X.tr pn xe) W) (po : PassesOwn (model X.prog X.w) X.A X.env xe) : Cpt S ⟨C.W, W, C.ca⟩ (X.tr pn xe) :=
  ⟨K.hK, K.hN, K.nd, K.sc, K.calm, K.un, K.room, tk, po, K.O, K.blt, K.con, K.fns, K.cls, K.hds, K.ctr, K.fld, fun z g h c f q => ⟨(K.prp z g h c f q).ex⟩, fun g h => ⟨(K.oeq g h).1, fun c f q => ⟨((K.oeq g h).2 c f q).ex⟩⟩, fun g h c f q => ⟨(K.lns g h c f q).ex⟩, K.kwc, K.kwd, K.stk, K.exs⟩
theorem ad_ok {x : Str} {a : Addr} (h : X.mg x = some (.ref a)) : ad X x = a := by
  unfold ad
  rw [h]
theorem exSt_ok (K : Cpt S C X) (hf : ∀ x, X.fn x = true) {n : Nat} {self : SelfS} (hS : ∀ C X, Cpt S C X → (∀ x, X.fn x = true) → ∀ ss, PSs X ss (tSt C (self ss))) (s : Stmt) : PS X s (tSt C (exSt S n self s)) := by
  have hs : ∀ ss, PSs X ss (tSt C (self ss)) := hS C X K hf
  have V : ∀ e, PE X e (tG C lV (evP n S e).1) := fun e => (sound n S C X e K).1
  have T : ∀ e, PT X e (tG C lB (evP n S e).2) := fun e => (sound n S C X e K).2
  have Dv : ∀ e, PE X e (tG C lD (dE (fun e => (evP n S e).1) e)) := fun e => frzD_ok (V e)
  have nd : X.N.Nodup := by rw [K.hN]; exact K.nd
  unfold exSt
  dsimp only
  split
  · exact ps_passD
  · exact ps_brkD
  · exact ps_contD
  · exact ps_docD
  · split
    · rename_i i hi
      split
      · rename_i hm; subst hm
        split
        · rename_i hb
          simp only [Bool.and_eq_true] at hb
          obtain ⟨a, b⟩ := K.slot hi
          exact ps_appD a b (nmOk1 hb.1.1) (nmOk2 hb.1.1) (Dv _) hb.1.2 hb.2
        · exact ps_noS
      · split
        · rename_i hm; subst hm
          split
          · rename_i hb
            simp only [Bool.and_eq_true] at hb
            obtain ⟨a, b⟩ := K.slot hi
            exact ps_extD a b (nmOk1 hb.1.1) (nmOk2 hb.1.1) (Dv _) hb.1.2 hb.2
          · exact ps_noS
        · exact ps_noS
    · exact ps_noS
  · split
    · rename_i h; exact ps_exprD (V _) (notComp_ok h)
    · exact ps_noS
  · exact ps_retNoneD
  · split
    · rename_i i hi
      split
      · rename_i hn
        obtain ⟨a, b⟩ := K.slot hi
        exact ps_retND a b (nmOk1 hn) (nmOk2 hn)
      · exact ps_noS
    · exact ps_retD (V _)
  · exact ps_retD (V _)
  · exact ps_ifD (T _) (hs _) (hs _)
  · rename_i x p e pos
    split
    · rename_i i hi
      obtain ⟨a, b⟩ := K.loc hi
      split
      · rename_i h
        by_cases hc : notComp e = true
        · exact ps_asgD nd a b (.inl (hf x)) (V _) (notComp_ok hc)
        · rw [Bool.or_eq_true] at h
          rcases h with h | h
          · exact absurd h hc
          · cases e <;> simp only [isLc, Bool.false_eq_true] at h
            rename_i elt gens scope lp
            obtain ⟨bb, hsw, hloc⟩ := lc_swap (elt := elt) (gens := gens) (scope := scope) (pos := lp) (p := p) (n := x) (l := pos.line) (env := X.env)
            cases bb with
            | false => exact ps_asgD nd a b (.inl (hf x)) (V _) hsw
            | true =>
              cases n with
              | zero => exact ⟨fun _ _ _ _ _ _ ⟨_, _, _, _, e, _⟩ => by cases e⟩
              | succ n =>
                exact lcS_ok (sv := fun S e => (evP n S e).1) (st := fun S e => (evP n S e).2) (fun S C X e K => (sound n S C X e K).1) (fun S C X e K => (sound n S C X e K).2) K a (hloc rfl) hsw
      · exact ps_noS
    · exact ps_noS
  · rename_i ts k p e pos
    split
    · rename_i h
      rw [Bool.and_eq_true] at h
      split
      · rename_i t ht
        exact ps_asgT (Dv _) (tgOf_ok K hf ht) (sole_ok h.1) (swapped_none h.2) rfl
      · exact ps_noS
    · exact ps_noS
  · split
    · rename_i i hi
      split
      · rename_i h
        simp only [Bool.and_eq_true] at h
        obtain ⟨a, b⟩ := K.slot hi
        exact ps_setFD K.hK K.O (K.fld _ h.1.2) a b (nmOk1 h.1.1) (nmOk2 h.1.1) (Dv _) (notComp_ok h.2)
      · exact ps_noS
    · exact ps_noS
  · split
    · rename_i i hi
      split
      · rename_i h
        simp only [Bool.and_eq_true] at h
        obtain ⟨a, b⟩ := K.slot hi
        exact ps_setIxD a b (nmOk1 h.1.1) (nmOk2 h.1.1) (Dv _) (Dv _) h.1.2 (sole_ok h.2) rfl rfl
      · exact ps_noS
    · exact ps_noS
  · rename_i tg iter b pos
    split
    · rename_i t ht
      split
      · rename_i h; exact ps_forF K.po K.calm (iter_ok (sv := fun S e => (evP n S e).1) (fun S C X e K => (sound n S C X e K).1) K tg iter) (tgOf_ok K hf ht) (hs _) h
      · exact ps_noS
    · exact ps_noS
  · exact ps_whileD K.po S.F (T _) (hs _)
  · split
    · rename_i i l ht
      unfold tryOf at ht
      split at ht
      · rename_i tp n ss p
        split at ht
        · rename_i hb
          simp only [Bool.and_eq_true, beq_iff_eq] at hb
          split at ht
          · rename_i i' l' hi hl
            split at ht
            · rename_i ha
              cases ht
              obtain ⟨s1, s2⟩ := K.stk hb.1.1
              obtain ⟨a1, _⟩ := K.slot hi
              have all := List.all_eq_true.mp ha
              simp only [Bool.and_eq_true] at all
              exact ps_tryD s1 s2 nd a1 (by rw [K.sc]; exact hb.1.2) (nmOk1 hb.2) (nmOk2 hb.2) K.tk K.hK hl
                (fun q hq => by
                  obtain ⟨Ax, m, _⟩ := K.hds q.1 (all q hq).1.1
                  rw [ad_ok m]
                  exact ⟨K.gl (all q hq).1.2, nmOk1 (all q hq).2, .inl m⟩)
                (fun c A hc q hq => by
                  obtain ⟨Ax, m, fact⟩ := K.hds q.1 (all q hq).1.1
                  rw [ad_ok m]
                  exact fact c A hc)
                (fun W pn xe tk po => hS _ _ (K.tr tk po) hf _)
            · cases ht
          · cases ht
        · cases ht
      · cases ht
    · exact ps_noS
  · split
    · rename_i h
      simp only [Bool.and_eq_true] at h
      obtain ⟨A, f, fd, ps, k, h1, h2, h3, h4, h5, h6⟩ := K.exs _ h.1.1.2
      exact ps_raiseD K.calm K.tk h1 h3 h4 (K.room.mono h5) h6 (K.gl h.1.2) h2 (Dv _) (nmOk1 h.1.1.1) h.2
    · exact ps_noS
  · exact ps_noS
theorem exB_ok {f : Stmt → SDen} (h : ∀ s, PS X s (tSt C (f s))) : ∀ ss, PSs X ss (tSt C (exB f ss))
  | [] => pss_nilD
  | s :: ss => pss_consD (h s) (exB_ok h ss)
theorem exS_all (S : SC) (ne : Nat) : ∀ (n : Nat) (C : Ck) (X : Cx), Cpt S C X → (∀ x, X.fn x = true) → ∀ ss : List Stmt, PSs X ss (tSt C (exS S ne n ss))
  | 0, _, _, _, _, ss => ⟨fun _ _ _ _ _ _ ⟨_, _, _, _, e, _⟩ => by cases e⟩
  | n + 1, _, _, K, hf, ss => exB_ok (exSt_ok K hf (exS_all S ne n)) ss
theorem exS_ok (K : Cpt S C X) (hf : ∀ x, X.fn x = true) (ne : Nat) (n : Nat) (ss : List Stmt) : PSs X ss (tSt C (exS S ne n ss)) := exS_all S ne n C X K hf ss
end
end DI
set_option maxRecDepth 100000
set_option maxHeartbeats 4000000
namespace DI
open PySem PySem.Spec PyProof.Rows L2

/-! ### the combinators, applied -/
section
variable {α β : Type} {ρ : Rho} {i : Nat} {x : Den RV} {y : Den D} {t : Den Bool} {a b : SDen} {c c2 : Den CO} {d : D} {op : Operator} {o : CmpOp}
@[simp] theorem ev_ret {v : α} : DI.ret v ρ = some (.ok v ρ) := rfl
@[simp] theorem ev_bnd {x : Den α} {k : α → Den β} : bnd x k ρ = match x ρ with | none => none | some (.exc c d ρ') => some (.exc c d ρ') | some (.ok a ρ') => k a ρ' := rfl
@[simp] theorem ev_bS {x : Den α} {k : α → SDen} : bS x k ρ = match x ρ with
  | none => none
  | some (.exc c d ρ') => some (.exc c d ρ')
  | some (.ok a ρ') => k a ρ' := rfl
@[simp] theorem ev_frz : frzD x ρ = bnd x (fun r => DI.ret r.frz) ρ := rfl
@[simp] theorem ev_coD : coD y ρ = bnd y (fun d => DI.ret (.val d)) ρ := rfl
@[simp] theorem ev_slotV : slotV i ρ = match ρ[i]? with
  | some (.val d) => some (.ok (.val d) ρ)
  | some (.own m) => some (.ok (.val m.frz) (ρ.set i (.val m.frz)))
  | _ => none := rfl
@[simp] theorem ev_slotC : slotC i ρ = match ρ[i]? with
  | some (.val _) => some (.ok (.slot i) ρ)
  | some (.own _) => some (.ok (.slot i) ρ)
  | some (.ref _) => some (.ok (.slot i) ρ)
  | _ => none := rfl
@[simp] theorem ev_coV : coGet ρ (.val d) = some d := rfl
@[simp] theorem ev_coS : coGet ρ (.slot i) = match ρ[i]? with
    | some (.val d) => some d
    | some (.own m) => some m.frz
    | some (.ref m) => some m.frz
    | _ => none := rfl
@[simp] theorem ev_consA {x : Den D} {y : Den (List D)} : consA x y ρ = bnd x (fun d => bnd y fun ds => DI.ret (d :: ds)) ρ := rfl
@[simp] theorem ev_tupV {x : Den (List D)} : tupV x ρ = bnd x (fun ds => if ds.length ≤ 100000 then DI.ret (.val (.tup ds)) else stuck) ρ := rfl
@[simp] theorem ev_lstV {x : Den (List D)} : lstV x ρ = bnd x (fun ds => if ds.length ≤ 100000 then DI.ret (.new (.lst ds)) else stuck) ρ := rfl
@[simp] theorem ev_optV {v : Option RV} : optV v ρ = v.map fun r => .ok r ρ := rfl
@[simp] theorem ev_optD {v : Option D} : optD v ρ = v.map fun d => .ok (.val d) ρ := rfl
@[simp] theorem ev_optB {v : Option Bool} : optB v ρ = v.map fun d => .ok d ρ := rfl
theorem ev_binV (h : supOp op = true) : binV op c c2 ρ = bnd c (fun a => bnd c2 fun b => fun ρ => match coGet ρ a, coGet ρ b with
  | some d1, some d2 => optV (binD op d1 d2) ρ
  | _, _ => none) ρ := by
  unfold binV
  rw [if_pos h]
  try rfl
@[simp] theorem ev_add : binV .Add c c2 ρ = bnd c (fun a => bnd c2 fun b => fun ρ => match coGet ρ a, coGet ρ b with
  | some d1, some d2 => optV (binD .Add d1 d2) ρ
  | _, _ => none) ρ := ev_binV rfl
@[simp] theorem ev_sub : binV .Sub c c2 ρ = bnd c (fun a => bnd c2 fun b => fun ρ => match coGet ρ a, coGet ρ b with
  | some d1, some d2 => optV (binD .Sub d1 d2) ρ
  | _, _ => none) ρ := ev_binV rfl
@[simp] theorem ev_mul : binV .Mult c c2 ρ = bnd c (fun a => bnd c2 fun b => fun ρ => match coGet ρ a, coGet ρ b with
  | some d1, some d2 => optV (binD .Mult d1 d2) ρ
  | _, _ => none) ρ := ev_binV rfl
@[simp] theorem ev_mod : binV .Mod c c2 ρ = bnd c (fun a => bnd c2 fun b => fun ρ => match coGet ρ a, coGet ρ b with
  | some d1, some d2 => optV (binD .Mod d1 d2) ρ
  | _, _ => none) ρ := ev_binV rfl
@[simp] theorem ev_div : binV .FloorDiv c c2 ρ = bnd c (fun a => bnd c2 fun b => fun ρ => match coGet ρ a, coGet ρ b with
  | some d1, some d2 => optV (binD .FloorDiv d1 d2) ρ
  | _, _ => none) ρ := ev_binV rfl
@[simp] theorem ev_pow : binV .Pow c c2 ρ = bnd c (fun a => bnd c2 fun b => fun ρ => match coGet ρ a, coGet ρ b with
  | some d1, some d2 => optV (binD .Pow d1 d2) ρ
  | _, _ => none) ρ := ev_binV rfl
@[simp] theorem ev_cmpB : cmpB o y c ρ = bnd y (fun d1 => bnd c fun c => fun ρ => match coGet ρ c with
  | some d2 => optB (cmpD o d1 d2) ρ
  | none => none) ρ := rfl
@[simp] theorem ev_blV : blV t ρ = bnd t (fun b => DI.ret (.val (.bl b))) ρ := rfl
@[simp] theorem ev_truC : truC c ρ = bnd c (fun c => fun ρ => match coGet ρ c with
  | some d => optB (truthD d) ρ
  | none => none) ρ := rfl
@[simp] theorem ev_ixV : ixV c y ρ = bnd c (fun c => bnd y fun d2 => fun ρ => match coGet ρ c with
  | some d1 => optD (ixD d1 d2) ρ
  | none => none) ρ := rfl
@[simp] theorem ev_call1C {k : D → Option RV} : call1C k c ρ = bnd c (fun c => fun ρ => match coGet ρ c with
  | some d => optV (k d) ρ
  | none => none) ρ := rfl
@[simp] theorem ev_callA {k : List D → Option D} {x : Den (List D)} : callA k x ρ = bnd x (fun ds => optD (k ds)) ρ := rfl
@[simp] theorem ev_askV {k : D → Bool} : askV k c ρ = call1C (fun d => some (.val (.bl (k d)))) c ρ := rfl
@[simp] theorem ev_notB : notB t ρ = bnd t (fun b => DI.ret (!b)) ρ := rfl
@[simp] theorem ev_ifV {x z : Den RV} : ifV t x z ρ = bnd t (fun b => if b then x else z) ρ := rfl
@[simp] theorem ev_ite {p : Prop} [Decidable p] {x y : Den α} : (if p then x else y) ρ = if p then x ρ else y ρ := by split <;> rfl
@[simp] theorem ev_iteS {p : Prop} [Decidable p] {x y : SDen} : (if p then x else y) ρ = if p then x ρ else y ρ := by split <;> rfl
@[simp] theorem ev_stuck : (stuck : Den α) ρ = none := rfl
@[simp] theorem ev_seq : seqS a b ρ = match a ρ with
  | some (.next ρ') => b ρ'
  | o => o := rfl
@[simp] theorem ev_next : nextS ρ = some (.next ρ) := rfl
@[simp] theorem ev_brk : brkS ρ = some (.brk ρ) := rfl
@[simp] theorem ev_cont : contS ρ = some (.cont ρ) := rfl
@[simp] theorem ev_if : ifS t a b ρ = bS t (fun k => if k then a else b) ρ := rfl
@[simp] theorem ev_retS : retS x ρ = bS x (fun r ρ => some (.ret r ρ)) ρ := rfl
@[simp] theorem ev_retN : retN i ρ = match ρ[i]? with
  | some (.val d) => some (.ret (.val d) ρ)
  | some (.own m) => some (.ret (.new m) ρ)
  | _ => none := rfl
@[simp] theorem ev_valD : valD y ρ = bnd y (fun d => DI.ret (.val d)) ρ := rfl
@[simp] theorem ev_fldV {f : Str} : fldV f c ρ = bnd c (fun c => fun ρ => match coGet ρ c with
  | some (.obj _ gs) => (gs.lookup f).map fun d => .ok (.val d) ρ
  | _ => none) ρ := rfl
@[simp] theorem ev_coVv : coVal ρ (.val d) = some d := rfl
@[simp] theorem ev_coVs : coVal ρ (.slot i) = match ρ[i]? with
    | some (.val d) => some d
    | _ => none := rfl
@[simp] theorem ev_getV {p : Str → Option FM} : getV p c ρ = bnd c (fun c => fun ρ => match coVal ρ c with
  | some (.obj n gs) => match p n with
    | some f => match f [.val (.obj n gs)] with
      | some (.ret r []) => some (.ok r ρ)
      | _ => none
    | none => none
  | _ => none) ρ := rfl
@[simp] theorem ev_eqO {p : Str → Option FM} : eqO p y c ρ = bnd y (fun d1 => bnd c fun c => fun ρ => match d1 with
  | .obj n gs => match p n, coVal ρ c with
    | some f, some d2 => (eqF f (.obj n gs) d2).map fun b => .ok b ρ
    | _, _ => none
  | d1 => match coGet ρ c with
    | some d2 => optB (cmpD .Eq d1 d2) ρ
    | none => none) ρ := rfl
@[simp] theorem ev_lenO {p : Str → Option FM} : lenO p c ρ = bnd c (fun c => fun ρ => match coGet ρ c with
  | some (.obj n gs) => match p n, coVal ρ c with
    | some f, some d => match f [.val d] with
      | some (.ret (.val (.int i)) []) => if 0 ≤ i ∧ i < 2 ^ 63 then some (.ok (.val (.int i)) ρ) else none
      | _ => none
    | _, _ => none
  | some d => optV (lenD d) ρ
  | none => none) ρ := rfl
@[simp] theorem ev_new {x : Str} {n : Nat} {f : FM} {cs : List CO} : newV x n f cs ρ = match argsOf ρ cs with
  | none => none
  | some as => if (slotsOf cs).Nodup ∧ as.length = n then match f (.ref (.ins x []) :: as) with
      | some (.ret (.val .non) outs) => (outs.lookup 0).map fun m => .ok (.new m) (upA (updOf 0 cs (shiftO outs)) 0 ρ)
      | some (.exc e d outs) => some (.exc e d (upA (updOf 0 cs (shiftO outs)) 0 ρ))
      | _ => none
    else none := rfl
@[simp] theorem ev_setFS {s : Nat} {f : Str} : setFS s f y ρ = bS y (fun d => bS (slotC s) fun _ => fun ρ => match getM s ρ with
  | some (.ins c gs) => if gs.length < 1000 then (setM s (.ins c (putD f d gs)) ρ).map .next else none
  | _ => none) ρ := rfl
@[simp] theorem ev_try {l : List (Str × HK)} : tryS i a l ρ = match a ρ with
  | some (.exc c d ρ') => if i < ρ'.length then match pick c l with
    | some k => some (.ret (.val (k.val d)) ρ')
    | none => some (.exc c d ρ')
    else none
  | o => o := rfl
@[simp] theorem ev_raise {x : Str} {y : Den D} : raiseS x y ρ = bS y (fun d ρ => some (.exc x d ρ)) ρ := rfl
@[simp] theorem ev_asg : asgS i x ρ = bS x (fun r ρ => (storeR i r ρ).map .next) ρ := rfl
@[simp] theorem ev_setIx {x : Den D} {s : Nat} {y : Den D} : setIxS x s y ρ = bS x (fun d => bS (slotC s) fun _ => bS y fun k => fun ρ => match getM s ρ with
  | some m => match setIxM m k d with
    | some m' => (setM s m' ρ).map .next
    | none => none
  | none => none) ρ := rfl
@[simp] theorem ev_app {s : Nat} {x : Den D} : appS s x ρ = match getM s ρ with
  | some (.lst _) => bS x (fun d => fun ρ => match getM s ρ with
    | some (.lst ds) => if ds.length < 100000 then (setM s (.lst (ds ++ [d])) ρ).map .next else none
    | _ => none) ρ
  | _ => none := rfl
@[simp] theorem ev_nilC : nilC ρ = some (.ok [] ρ) := rfl
@[simp] theorem ev_consC {x : Den CO} {y : Den (List CO)} : consC x y ρ = bnd x (fun c => bnd y fun cs => DI.ret (c :: cs)) ρ := rfl
@[simp] theorem ev_run {n : Nat} {f : FM} {cs : List CO} : runFn n f cs ρ = match argsOf ρ cs with
  | none => none
  | some as => if (slotsOf cs).Nodup ∧ as.length = n then match f as with
      | some (.ret rv outs) => some (.ok rv (upA (updOf 0 cs outs) 0 ρ))
      | some (.exc c d outs) => some (.exc c d (upA (updOf 0 cs outs) 0 ρ))
      | none => none
    else none := rfl
@[simp] theorem ev_forS {x : Den D} {t : Tg} {body : SDen} : forS x t body ρ = bS x (fun d => fun ρ => match itemsD d with
  | some ds => forL body t ds ρ
  | none => none) ρ := rfl
@[simp] theorem ev_forR1 {x : Den D} {t : Tg} {body : SDen} : forR1 x t body ρ = bS x (fun d => fun ρ => match d with
  | .int j => if rngOk j then forL body t (rngL 0 j.toNat) ρ else none
  | _ => none) ρ := rfl
@[simp] theorem ev_slcV {x : Den CO} {lo hi : Den (Option Int)} : slcV x lo hi ρ = bnd x (fun c => bnd lo fun l => bnd hi fun h => fun ρ => match coGet ρ c with
  | some d => optV (slcD d l h) ρ
  | none => none) ρ := rfl
@[simp] theorem ev_noPart : noPart ρ = some (.ok none ρ) := rfl
@[simp] theorem ev_part {x : Den D} : part x ρ = bnd x (fun d => match d with
  | .int i => DI.ret (some i)
  | _ => stuck) ρ := rfl
end
section
variable {ρ : Rho} {i : Nat} {x y : Den D} {t u v : Den Bool} {d e : D} {ds es : List D} {k0 : Int} {its : Den (List D)} {tg : Tg} {bd : SDen} {ks : List Nat} {acc : List D} {s : Str}
@[simp] theorem ev_optF {o : Option (List D)} : optF o ρ = o.map fun r => .ok r ρ := rfl
@[simp] theorem ev_itemsF : itemsF x ρ = bnd x (fun d => optF (itemsI d)) ρ := rfl
@[simp] theorem ev_enumF : enumF k0 x ρ = bnd x (fun d => optF ((itemsI d).map (enumD k0))) ρ := rfl
@[simp] theorem ev_zipF : zipF x y ρ = bnd x (fun d => bnd y fun e => optF (zipI d e)) ρ := rfl
@[simp] theorem ev_rngF1 : rngF1 x ρ = bnd x (fun d => match d with
  | .int j => if rngOk j then ret (rngL 0 j.toNat) else stuck
  | _ => stuck) ρ := rfl
@[simp] theorem ev_rngF2 : rngF2 x y ρ = bnd x (fun d1 => bnd y fun d2 => match d1, d2 with
  | .int i, .int j => if rngOk i && rngOk j then ret (rngL i (j - i).toNat) else stuck
  | _, _ => stuck) ρ := rfl
@[simp] theorem ev_forF : forF its tg bd ρ = bS its (fun ds => forL bd tg ds) ρ := rfl
@[simp] theorem ev_lcF {elt : Den D} {cond : Den Bool} : lcF its elt cond tg ks ρ = bnd its (fun ds => fun ρ => if ks.all (fun k => isPl ρ[k]?) then (lcT elt cond tg ks [] ds (wipeR ρ ks)).map fun p => .ok (.new (.lst p.1)) (backR ρ ks p.2) else none) ρ := rfl
@[simp] theorem ev_call1D {k : D → Option D} : call1D k x ρ = bnd x (fun d => optD (k d)) ρ := rfl
@[simp] theorem ev_meth1 {k : D → D → Option RV} : meth1 k x y ρ = bnd x (fun a => if isStrD a then bnd y fun b => optV (k a b) else stuck) ρ := rfl
@[simp] theorem ev_popV : popV i ρ = match getM i ρ with
  | some (.lst ds) => match ds.getLast? with
    | some d => (setM i (.lst ds.dropLast) ρ).map fun ρ' => .ok (.val d) ρ'
    | none => none
  | _ => none := rfl
@[simp] theorem ev_extS : extS i x ρ = match getM i ρ with
  | some (.lst _) => bS x (fun d => fun ρ => match getM i ρ, d with
    | some (.lst ds), .lst es => if ds.length + es.length ≤ 1000000 then (setM i (.lst (ds ++ es)) ρ).map .next else none
    | _, _ => none) ρ
  | _ => none := rfl
@[simp] theorem ev_ifB : ifB t u v ρ = bnd t (fun b => if b then u else v) ρ := rfl
@[simp] theorem it_l : itemsI (.lst ds) = some ds := rfl
@[simp] theorem it_f : itemsI (.fls ds) = some ds := rfl
@[simp] theorem it_t : itemsI (.tup ds) = some ds := rfl
@[simp] theorem it_s : itemsI (.str s) = some (signsD s) := rfl
@[simp] theorem isStr_s : isStrD (.str s) = true := rfl
@[simp] theorem en_nil : enumD k0 [] = [] := rfl
theorem en_cons : enumD k0 (d :: ds) = .tup [.int k0, d] :: enumD (k0 + 1) ds := by
  unfold enumD
  rw [List.mapIdx_cons]
  congr 1
  · simp
  · refine congrArg (fun f => List.mapIdx f ds) (funext fun i => funext fun x => ?_)
    have e : k0 + ((i + 1 : Nat) : Int) = k0 + 1 + (i : Int) := by omega
    rw [e]
@[simp] theorem bls_nil : blsOf [] = some [] := rfl
@[simp] theorem bls_cons {b : Bool} : blsOf (.bl b :: ds) = (blsOf ds).map (b :: ·) := rfl
theorem bls_map {α : Type} (f : α → Bool) : ∀ l : List α, blsOf (l.map fun a => D.bl (f a)) = some (l.map f)
  | [] => rfl
  | a :: l => by simp [bls_map f l]
theorem strs_map {α : Type} (f : α → Str) : ∀ l : List α, strsOf (l.map fun a => D.str (f a)) = some (l.map f)
  | [] => rfl
  | a :: l => by
    show (strsOf (l.map fun a => D.str (f a))).map (f a :: ·) = _
    rw [strs_map f l]
    rfl
end
/-! ### comparisons of plain things -/
theorem shaped_int {i : Int} : SeqAt.shaped (.int i) = true := by
  unfold SeqAt.shaped
  simp [PyData.canLay0, PyData.depth]
theorem shaped_str {i : Str} (h : PyData.strOk i = true) : SeqAt.shaped (.str i) = true := by
  unfold SeqAt.shaped
  simp [PyData.canLay0, PyData.depth, h]
theorem shaped_bl {i : Bool} : SeqAt.shaped (.bool i) = true := by
  unfold SeqAt.shaped
  simp [PyData.canLay0, PyData.depth]
theorem shaped_non : SeqAt.shaped .none = true := by
  unfold SeqAt.shaped
  simp [PyData.canLay0, PyData.depth]
@[simp] theorem eqD_int {i j : Int} : eqD (.int i) (.int j) = some (decide (i = j)) := by
  unfold eqD okD eqvD
  simp only [toPy, shaped_int, Bool.and_self, if_true, Option.some.injEq]
  by_cases h : i = j
  · subst h
    simp [PyData.eqv]
  · simp [PyData.eqv, h]
theorem eqD_str {i j : Str} (h1 : PyData.strOk i = true) (h2 : PyData.strOk j = true) : eqD (.str i) (.str j) = some (decide (i = j)) := by
  unfold eqD okD eqvD
  simp only [toPy, shaped_str h1, shaped_str h2, Bool.and_self, if_true, Option.some.injEq]
  by_cases h : i = j
  · subst h
    simp [PyData.eqv]
  · simp [PyData.eqv, h]
theorem eqD_bl {i j : Bool} : eqD (.bl i) (.bl j) = some (decide (i = j)) := by
  unfold eqD okD eqvD
  simp only [toPy, shaped_bl, Bool.and_self, if_true, Option.some.injEq]
  by_cases h : i = j
  · subst h
    simp [PyData.eqv]
  · simp [PyData.eqv, h]
/-! ### the data's steps -/
section
variable {ρ : Rho} {i j : Int} {k n tot : Nat} {r : RV} {d : D} {ds es : List D} {m : M} {b : Bool} {x y : D} {T : String} {bd : SDen} {as : List Arg} {cs : List CO} {u : List (Nat × M)}
@[simp] theorem ev_rvv : RV.frz (.val d) = d := rfl
@[simp] theorem ev_rvn : RV.frz (.new m) = m.frz := rfl
@[simp] theorem ev_ml : M.frz (.lst ds) = .lst ds := rfl
@[simp] theorem ev_mi {c : Str} {gs : List (Str × D)} : M.frz (.ins c gs) = .obj c gs := rfl
@[simp] theorem bi_add : binD .Add (.int i) (.int j) = some (.val (.int (i + j))) := rfl
@[simp] theorem bi_addT : binD .Add (.tup ds) (.tup es) = if ds.length + es.length ≤ 100000 then some (.val (.tup (ds ++ es))) else none := rfl
@[simp] theorem bi_addL : binD .Add (.lst ds) (.lst es) = if ds.length + es.length ≤ 100000 then some (.new (.lst (ds ++ es))) else none := rfl
@[simp] theorem bi_sub : binD .Sub (.int i) (.int j) = some (.val (.int (i - j))) := rfl
@[simp] theorem bi_mul : binD .Mult (.int i) (.int j) = if (-(2 ^ 64) < i ∧ i < 2 ^ 64) ∨ (-(2 ^ 64) < j ∧ j < 2 ^ 64) then some (.val (.int (i * j))) else none := rfl
@[simp] theorem bi_mulT : binD .Mult (.tup ds) (.int j) = if 2 ≤ j ∧ j ≤ 5000 ∧ ds.length ≤ 1000 ∧ ds ≠ [] then some (.val (.tup (List.replicate j.toNat ds).flatten)) else none := rfl
@[simp] theorem bi_mod : binD .Mod (.int i) (.int j) = if 0 < j then some (.val (.int (i % j))) else none := rfl
@[simp] theorem bi_div : binD .FloorDiv (.int i) (.int j) = if 0 < j ∧ j < 1073741824 then some (.val (.int (i / j))) else none := rfl
@[simp] theorem bi_pow : binD .Pow (.int i) (.int j) = if 0 ≤ j ∧ j ≤ 1000000 ∧ i.natAbs < 2 ^ 64 then some (.val (.int (i ^ j.toNat))) else none := rfl
@[simp] theorem cm_eq : cmpD .Eq x y = eqD x y := rfl
@[simp] theorem cm_ne : cmpD .NotEq x y = (eqD x y).map (!·) := rfl
@[simp] theorem cm_lt : cmpD .Lt (.int i) (.int j) = some (decide (i < j)) := rfl
@[simp] theorem cm_le : cmpD .LtE (.int i) (.int j) = some (decide (i ≤ j)) := rfl
@[simp] theorem cm_gt : cmpD .Gt (.int i) (.int j) = some (decide (j < i)) := rfl
@[simp] theorem cm_ge : cmpD .GtE (.int i) (.int j) = some (decide (j ≤ i)) := rfl
@[simp] theorem cm_is : cmpD .Is x .non = some (match x with | .non => true | _ => false) := rfl
@[simp] theorem cm_isN : cmpD .IsNot x .non = some (match x with | .non => false | _ => true) := rfl
@[simp] theorem cm_isB : cmpD .Is x (.bl b) = some (match x with | .bl a => decide (a = b) | _ => false) := rfl
@[simp] theorem cm_isNB : cmpD .IsNot x (.bl b) = some (match x with | .bl a => !decide (a = b) | _ => true) := rfl
@[simp] theorem cm_in : cmpD .In x y = inD x y := rfl
@[simp] theorem cm_notIn : cmpD .NotIn x y = (inD x y).map (!·) := rfl
@[simp] theorem ix_l : ixD (.lst ds) (.int i) = L2.atI ds i := rfl
@[simp] theorem ix_f : ixD (.fls ds) (.int i) = L2.atI ds i := rfl
@[simp] theorem ix_t : ixD (.tup ds) (.int i) = L2.atI ds i := rfl
@[simp] theorem le_l : lenD (.lst ds) = some (.val (.int ds.length)) := rfl
@[simp] theorem le_f : lenD (.fls ds) = some (.val (.int ds.length)) := rfl
@[simp] theorem le_t : lenD (.tup ds) = some (.val (.int ds.length)) := rfl
@[simp] theorem inx_i : DI.intX (.int i) = some (.int i) := rfl
@[simp] theorem inx_b : DI.intX (.bl b) = some (.int (if b then 1 else 0)) := rfl
@[simp] theorem in_i : DI.intD [.int i] = some (.int i) := rfl
@[simp] theorem in_b : DI.intD [.bl b] = some (.int (if b then 1 else 0)) := rfl
@[simp] theorem tr_b : truthD (.bl b) = some b := rfl
@[simp] theorem ist_n : isTn T .non = false := rfl
@[simp] theorem ist_b : isTn T (.bl b) = (T == "bool" || T == "int") := rfl
@[simp] theorem ist_i : isTn T (.int i) = (T == "int") := rfl
@[simp] theorem ist_s {z : Str} : isTn T (.str z) = (T == "str") := rfl
@[simp] theorem ist_l : isTn T (.lst ds) = (T == "list") := rfl
@[simp] theorem ist_f : isTn T (.fls ds) = (T == "list") := rfl
@[simp] theorem ist_t : isTn T (.tup ds) = (T == "tuple") := rfl
@[simp] theorem ev_semF : semF n tot bd as = if as.length = n then match bd (as.map Arg.sl ++ List.replicate (tot - n) .no) with
  | some (.next ρ) => (outsAt 0 as ρ).map (Res.ret (.val .non))
  | some (.ret r ρ) => (outsAt 0 as ρ).map (Res.ret r)
  | some (.exc c d ρ) => (outsAt 0 as ρ).map (Res.exc c d)
  | _ => none
  else none := rfl
@[simp] theorem ou_nil : outsAt k [] ρ = some [] := rfl
@[simp] theorem ou_ref {m0 : M} : outsAt k (.ref m0 :: as) (.ref m :: ρ) = (outsAt (k + 1) as ρ).map ((k, m) :: ·) := rfl
@[simp] theorem ou_val {s : Sl} : outsAt k (.val d :: as) (s :: ρ) = outsAt (k + 1) as ρ := rfl
@[simp] theorem sl_val : Arg.sl (.val d) = .val d := rfl
@[simp] theorem sl_ref : Arg.sl (.ref m) = .ref m := rfl
@[simp] theorem ev_storeR : storeR k r ρ = match ρ[k]? with
  | some (.ref _) => none
  | _ => some (ρ.set k (match r with | .val d => .val d | .new m => .own m)) := rfl
@[simp] theorem ev_storeV : storeV k d ρ = match ρ[k]? with
  | some (.ref _) => none
  | _ => some (ρ.set k (.val d)) := rfl
@[simp] theorem ev_getM : getM k ρ = match ρ[k]? with
  | some (.own m) => some m
  | some (.ref m) => some m
  | _ => none := rfl
@[simp] theorem ev_setM : setM k m ρ = match ρ[k]? with
  | some (.own _) => some (ρ.set k (.own m))
  | some (.ref _) => some (ρ.set k (.ref m))
  | _ => none := rfl
@[simp] theorem ev_setIxM : setIxM (.lst ds) (.int i) d = (ixN ds.length i).map fun j => .lst (ds.set j d) := rfl
@[simp] theorem ev_stN : stT (.name k) d ρ = storeV k d ρ := rfl
@[simp] theorem ev_stT {ts : List Tg} : stT (.tup ts) (.tup ds) ρ = stTs ts ds ρ := rfl
@[simp] theorem ev_stTl {ts : List Tg} : stT (.tup ts) (.lst ds) ρ = stTs ts ds ρ := rfl
@[simp] theorem ev_stTf {ts : List Tg} : stT (.tup ts) (.fls ds) ρ = stTs ts ds ρ := rfl
@[simp] theorem ev_sts0 : stTs [] [] ρ = some ρ := rfl
@[simp] theorem ev_sts1 {t : Tg} {ts : List Tg} : stTs (t :: ts) (d :: ds) ρ = match stT t d ρ with
  | some ρ' => stTs ts ds ρ'
  | none => none := rfl
@[simp] theorem ao_v : argOf ρ (.val d) = some (.val d) := rfl
@[simp] theorem ao_s : argOf ρ (.slot k) = (getM k ρ).map .ref := rfl
@[simp] theorem ao_0 : argsOf ρ [] = some [] := rfl
@[simp] theorem ao_1 {c : CO} : argsOf ρ (c :: cs) = match argOf ρ c, argsOf ρ cs with
  | some a, some as => some (a :: as)
  | _, _ => none := rfl
@[simp] theorem so_0 : slotsOf [] = [] := rfl
@[simp] theorem so_s : slotsOf (.slot k :: cs) = k :: slotsOf cs := rfl
@[simp] theorem so_v : slotsOf (.val d :: cs) = slotsOf cs := rfl
@[simp] theorem up_0 : updOf k [] u = [] := rfl
@[simp] theorem up_s {z : Nat} : updOf k (.slot z :: cs) u = match u.lookup k with
  | some m => (z, m) :: updOf (k + 1) cs u
  | none => updOf (k + 1) cs u := rfl
@[simp] theorem up_v : updOf k (.val d :: cs) u = updOf (k + 1) cs u := rfl
@[simp] theorem ua_0 : upA u k [] = [] := rfl
@[simp] theorem ua_1 {s : Sl} : upA u k (s :: ρ) = (match u.lookup k with | some m => s.put m | none => s) :: upA u (k + 1) ρ := rfl
@[simp] theorem pu_o {m0 : M} : Sl.put m (.own m0) = .own m := rfl
@[simp] theorem pu_r {m0 : M} : Sl.put m (.ref m0) = .ref m := rfl
@[simp] theorem pu_v : Sl.put m (.val d) = .val d := rfl
@[simp] theorem pu_n : Sl.put m .no = .no := rfl
@[simp] theorem lk_1 {a z : Nat} {l : List (Nat × M)} : ((a, m) :: l).lookup z = match z == a with
  | true => some m
  | false => l.lookup z := rfl
end
end DI
set_option maxRecDepth 100000
set_option maxHeartbeats 4000000
namespace DI
open PySem PySem.Spec PyProof.Rows L2

/-! ### a def of the text -/
structure Known (P : Program) (w : World) (K : Kc) (ca : Str → Option Addr) (mg : Str → Option Value) (base : Heap) (S : SC) : Prop where
  O : OwnT K
  blt : ∀ x, S.blt x = true → mg x = none
  con : ∀ x d, S.con x = some d → ∃ v u, mg x = some u ∧ RelV v u ∧ ∀ H, Rp K H v d
  fns : ∀ x e, S.fns x = some e → ∃ k f fd ps, k ≤ S.lvl ∧ mg x = some (.ref f) ∧ PySem.W.keepIn K.K (.ref f) = true ∧ Binds K.K fd ps [] ∧ FnOk P w K.K mg base (L2N.CX P w) k f fd ps (spOf K ca e.n e.f)
  cls : ∀ x, S.cls x = true → ∃ A, K.cl x = some A ∧ mg x = some (.ref A)
  ctr : ∀ x e, S.ctor x = some e → ∃ A g fd ps k, K.cl x = some A ∧ mg x = some (.ref A) ∧ Mk K.K A g ∧ FnOk P w K.K mg base (L2N.CX P w) k g fd ps (spOf K ca (e.n + 1) e.f) ∧ k + 1 ≤ S.lvl ∧ Binds K.K fd ps []
  fld : ∀ f, S.fld f = true → ∀ c A, K.cl c = some A → NoAttr K.K A f
  prp : ∀ z g, S.prp z = some g → ∀ c f, g c = some f → ∃ A p g' fd k ps, K.cl c = some A ∧ PropOf K.K A z p g' ∧ FnOk P w K.K mg base (L2N.CX P w) k g' fd ps (spOf K ca 1 f) ∧ k + 1 ≤ S.lvl ∧ Binds K.K fd ps []
  nof : S.oeq.isSome = true → ∀ c A, K.cl c = some A → (∀ T ∈ "NoneType" :: five, PySem.W.notFirst K.K A (.type T) = true) ∧ ∀ c' A', K.cl c' = some A' → PySem.W.notFirst K.K A (.ref A') = true
  oeq : ∀ g, S.oeq = some g → ∀ c f, g c = some f → ∃ A g' fd k ps, K.cl c = some A ∧ PySem.W.findIn K.K (.ref A) "__eq__" = some (some (.ref g')) ∧ PySem.W.isFn K.K (.ref g') = true ∧ FnOk P w K.K mg base (L2N.CX P w) k g' fd ps (spOf K ca 2 f) ∧ k + 1 ≤ S.lvl ∧ Binds K.K fd ps []
  lns : ∀ g, S.lns = some g → ∀ c f, g c = some f → ∃ A g' fd k ps, K.cl c = some A ∧ PySem.W.findIn K.K (.ref A) "__len__" = some (some (.ref g')) ∧ PySem.W.isFn K.K (.ref g') = true ∧ FnOk P w K.K mg base (L2N.CX P w) k g' fd ps (spOf K ca 1 f) ∧ k + 1 ≤ S.lvl ∧ Binds K.K fd ps []
  kwc : ∀ x e ks, S.ctor x = some e → S.kwn x = some ks → ∃ A g fd ps k, K.cl x = some A ∧ mg x = some (.ref A) ∧ Mk K.K A g ∧ FnOk P w K.K mg base (L2N.CX P w) k g fd ps (spOf K ca (e.n + 1) e.f) ∧ k + 1 ≤ S.lvl ∧ KwAll K.K fd ps 1 ∧ ps.drop 1 = ks
  kwd : ∀ x e ks, S.fns x = some e → S.kwf x = some ks → ∃ k f fd ps, k ≤ S.lvl ∧ mg x = some (.ref f) ∧ PySem.W.keepIn K.K (.ref f) = true ∧ KwAll K.K fd ps 0 ∧ FnOk P w K.K mg base (L2N.CX P w) k f fd ps (spOf K ca e.n e.f) ∧ ps = ks
  hds : ∀ x, S.hdl x = true → ∃ Ax, mg x = some (.ref Ax) ∧ ∀ c A, ca c = some A → (∃ f, EkC K.K A f) ∧ PySem.W.exmOne K.K (.ref A) (.ref Ax) = some (rel c x)
  exs : ∀ x, S.exn x = true → ∃ A f fd ps k, ca x = some A ∧ mg x = some (.ref A) ∧ EkC K.K A f ∧ FnOk P w K.K mg base (L2N.CX P w) k f fd ps (spAt A) ∧ k + 1 ≤ S.lvl ∧ Binds K.K fd ps []
section
variable {P : Program} {w : World} {K : Kc} {ca : Str → Option Addr} {mg : Str → Option Value} {base : Heap} {S : SC}
theorem cpt_of (Y : Known P w K ca mg base S) {N : List Str} {qual : Str} {st : Stmt} {f : Addr} {cdv : Value} {A : Around} {outer : List Env} {s : Shared} {H : Hp} {E : XK} {W : Wd} (hN : S.N = N) (hsc : S.sc = defScope st) (nd : N.Nodup) (hW : W.K = K)
    (hr : Room S.lvl (A.deeper (envOfC qual (defScope st) s.heap.objs.size f cdv))) :
    Cpt S ⟨W, fun cls d _ H => E cls d H, ca⟩ (cxOf (L2N.CX P w) P w K.K mg base N qual (defScope st) f cdv A outer s H E) where
  hK := by show K.K = W.K.K; rw [hW]
  hN := hN.symm
  nd := by rw [hN]; exact nd
  sc := hsc.symm
  calm := rfl
  un := by
    have := hr.un
    show (A.deeper (envOfC qual (defScope st) s.heap.objs.size f cdv)).units + 65 < cLine
    omega
  room := hr
  tk := L2N.takes_of rfl rfl rfl rfl
  po := passes_of rfl
  O := by show OwnT W.K; rw [hW]; exact Y.O
  blt := Y.blt
  con := fun x d h => by show ∃ v u, mg x = some u ∧ RelV v u ∧ ∀ H, Rp W.K H v d; rw [hW]; exact Y.con x d h
  fns := fun x e h => by
    obtain ⟨k, f, fd, ps, a, b, c, d, g⟩ := Y.fns x e h
    refine ⟨k, f, fd, ps, a, b, c, d, ?_⟩
    show FnOk P w K.K mg base (L2N.CX P w) k f fd ps (spOf W.K ca e.n e.f)
    rw [hW]; exact g
  cls := fun x h => by show ∃ A, W.K.cl x = some A ∧ mg x = some (.ref A); rw [hW]; exact Y.cls x h
  ctr := fun x e h => by
    obtain ⟨A, g, fd, ps, k, a, b, c, d, r⟩ := Y.ctr x e h
    refine ⟨A, g, fd, ps, k, by show W.K.cl x = some A; rw [hW]; exact a, b, c, ?_, r⟩
    show FnOk P w K.K mg base (L2N.CX P w) k g fd ps (spOf W.K ca (e.n + 1) e.f)
    rw [hW]; exact d
  fld := fun f h c A z => Y.fld f h c A (by rw [← hW]; exact z)
  prp := fun z g h c f q => by
    obtain ⟨A, p, g', fd, k, ps, a, b, d, l, r⟩ := Y.prp z g h c f q
    refine ⟨A, p, g', fd, k, ps, by show W.K.cl c = some A; rw [hW]; exact a, b, ?_, hr.mono l, r⟩
    show FnOk P w K.K mg base (L2N.CX P w) k g' fd ps (spOf W.K ca 1 f)
    rw [hW]; exact d
  oeq := fun g h => by
    refine ⟨fun c A z => ?_, fun c f h' => ?_⟩
    · have n := Y.nof (by rw [h]; rfl) c A (by rw [← hW]; exact z)
      exact ⟨n.1, fun c2 A2 z2 => n.2 c2 A2 (by rw [← hW]; exact z2)⟩
    · obtain ⟨A, g', fd, k, ps, a, b, d, e, l, r⟩ := Y.oeq g h c f h'
      refine ⟨A, g', fd, k, ps, by show W.K.cl c = some A; rw [hW]; exact a, b, d, ?_, hr.mono l, r⟩
      show FnOk P w K.K mg base (L2N.CX P w) k g' fd ps (spOf W.K ca 2 f)
      rw [hW]; exact e
  lns := fun g h c f h' => by
    obtain ⟨A, g', fd, k, ps, a, b, d, e, l, r⟩ := Y.lns g h c f h'
    refine ⟨A, g', fd, k, ps, by show W.K.cl c = some A; rw [hW]; exact a, b, d, ?_, hr.mono l, r⟩
    show FnOk P w K.K mg base (L2N.CX P w) k g' fd ps (spOf W.K ca 1 f)
    rw [hW]; exact e
  kwc := fun x e ks h h2 => by
    obtain ⟨A, g, fd, ps, k, a, b, c, d, r⟩ := Y.kwc x e ks h h2
    refine ⟨A, g, fd, ps, k, by show W.K.cl x = some A; rw [hW]; exact a, b, c, ?_, r⟩
    show FnOk P w K.K mg base (L2N.CX P w) k g fd ps (spOf W.K ca (e.n + 1) e.f)
    rw [hW]; exact d
  kwd := fun x e ks h h2 => by
    obtain ⟨k, f, fd, ps, a, b, c, d, g, r⟩ := Y.kwd x e ks h h2
    refine ⟨k, f, fd, ps, a, b, c, d, ?_, r⟩
    show FnOk P w K.K mg base (L2N.CX P w) k f fd ps (spOf W.K ca e.n e.f)
    rw [hW]; exact g
  hds := Y.hds
  stk := fun _ => ⟨rfl, rfl⟩
  exs := Y.exs
theorem def_ok (Y : Known P w K ca mg base S) {x qual : Str} {st : Stmt} {dvs : List V} {kws : List (Str × V)} {f : Addr} {fd : FuncData} {N ps : List Str} {ne n : Nat} (F : FunD K.K x qual (defArgs st) (defBody st) (defScope st) dvs kws f fd)
    (SF : FnScope N ps (defScope st)) (hn : ps.length ≤ N.length) (hN : S.N = N) (hsc : S.sc = defScope st) : FnOk P w K.K mg base (L2N.CX P w) (S.lvl + 1) f fd ps (spOf K ca ps.length (semF ps.length N.length (exS S ne n (defBody st)))) :=
  fn_ok F SF hn fun cdv A outer s H E W hW hr => exS_ok (cpt_of Y hN hsc SF.nd hW hr) (fun _ => rfl) ne n (defBody st)
end
section
variable {α : Type} {p : Str → α → Prop}
theorem look_nil (x : Str) (e : α) (h : ([] : List (Str × α)).lookup x = some e) : p x e := by cases h
theorem look_cons {a : Str} {e0 : α} {l : List (Str × α)} (h0 : p a e0) (hl : ∀ x e, l.lookup x = some e → p x e) (x : Str) (e : α) (h : ((a, e0) :: l).lookup x = some e) : p x e := by
  rw [List.lookup_cons] at h
  split at h
  · rename_i q
    cases h
    rw [beq_iff_eq.mp q]
    exact h0
  · exact hl x e h
end
/-- a scope that knows no own class -/
theorem Known.plain {P : Program} {w : World} {K : Kc} {ca : Str → Option Addr} {mg : Str → Option Value} {base : Heap} {S : SC} (O : OwnT K) (blt : ∀ x, S.blt x = true → mg x = none) (con : ∀ x d, S.con x = some d → ∃ v u, mg x = some u ∧ RelV v u ∧ ∀ H, Rp K H v d)
    (fns : ∀ x e, S.fns x = some e → ∃ k f fd ps, k ≤ S.lvl ∧ mg x = some (.ref f) ∧ PySem.W.keepIn K.K (.ref f) = true ∧ Binds K.K fd ps [] ∧ FnOk P w K.K mg base (L2N.CX P w) k f fd ps (spOf K ca e.n e.f))
    (cls : ∀ x, S.cls x = true → ∃ A, K.cl x = some A ∧ mg x = some (.ref A)) (exs : ∀ x, S.exn x = true → ∃ A f fd ps k, ca x = some A ∧ mg x = some (.ref A) ∧ EkC K.K A f ∧ FnOk P w K.K mg base (L2N.CX P w) k f fd ps (spAt A) ∧ k + 1 ≤ S.lvl ∧ Binds K.K fd ps [])
    (h1 : S.ctor = fun _ => none) (h2 : S.fld = fun _ => false) (h3 : S.prp = fun _ => none) (h4 : S.oeq = none) (h5 : S.lns = none) (h6 : S.hdl = fun _ => false) (h7 : S.kwf = fun _ => none) : Known P w K ca mg base S :=
  ⟨O, blt, con, fns, cls, fun x e h => (by rw [h1] at h; cases h), fun f h => (by rw [h2] at h; cases h), fun z g h => (by rw [h3] at h; cases h), fun h => (by rw [h4] at h; cases h), fun g h => (by rw [h4] at h; cases h), fun g h => (by rw [h5] at h; cases h), fun x e ks h => (by rw [h1] at h; cases h), fun x e ks h h' => (by rw [h7] at h'; cases h'), fun x h => (by rw [h6] at h; cases h), exs⟩
end DI
set_option maxRecDepth 100000
set_option maxHeartbeats 4000000
namespace DI
open PySem PySem.Spec PyProof.Rows L2 He

/-! ### the head's facts: defs, names, and one question of one's own -/
abbrev AlB : Type := AlD × Bool
def SaysB (fa : List Fa) (fn : List DefD) (ex : PySem.W.Frag → Bool) (K : PySem.W.Frag) : Prop := SaysD fa fn K ∧ ex K = true
def obsB (n : Nat) (fa : List Fa) (fn : List DefD) (ex : PySem.W.Frag → Bool) (g : Addr → Option Obj) : AlB := (obsDG n fa fn g, ex (frG g (asD g n)))
def hookB (n : Nat) (fa : List Fa) (fn : List DefD) (ex : PySem.W.Frag → Bool) : PySem.W.Hook where
  α := AlB
  obs := fun s => obsB n fa fn ex s.heap.get?
  val := fun _ => (He.valD fn, true)
  says := fun _ h => ∃ K : PySem.W.Frag, K.In h ∧ SaysB fa fn ex K
  of := fun _ _ e => ⟨_, frG_in, congrArg Prod.fst e, congrArg Prod.snd e⟩
  keeps := fun _ _ _ ⟨K, kin, c⟩ k => ⟨K, PySem.W.Frag.In.keeps kin k, c⟩
theorem obsB_eq {n : Nat} {fa : List Fa} {fn : List DefD} {ex : PySem.W.Frag → Bool} {g : Addr → Option Obj} {s : Shared} (h : ∀ a, g a = s.heap.get? a) : obsB n fa fn ex g = (hookB n fa fn ex).obs s := by
  have e : g = s.heap.get? := funext h
  subst e
  rfl
section
variable {fa : List Fa} {fn : List DefD} {ex : PySem.W.Frag → Bool} {K : PySem.W.Frag} {h : Heap} {mg : Str → Option Value}
theorem says_glo (kin : K.In h) (G : h.Ns mainGlobals mg) (c : SaysB fa fn ex K) {x : Str} (m : Fa.glo x ∈ fa) : mg x = some (.ref (ga K x)) := by
  obtain ⟨i, hi, e⟩ := List.mem_iff_getElem.mp m
  exact glo_ok kin G (c.1.fact i (by rw [List.getElem?_eq_getElem hi, e]))
theorem says_free (kin : K.In h) (G : h.Ns mainGlobals mg) (c : SaysB fa fn ex K) {x : Str} (m : Fa.free x ∈ fa) : mg x = none := by
  obtain ⟨i, hi, e⟩ := List.mem_iff_getElem.mp m
  exact free_ok kin G (c.1.fact i (by rw [List.getElem?_eq_getElem hi, e]))
end
/-- an error's class: all that is asked of it -/
def ekB (K : PySem.W.Frag) (A f : Addr) : Bool :=
  PySem.W.excInitIn K A exT "Exception.__new__" && (PySem.W.excOver K A exT && (decide (PySem.W.findIn K (.ref A) "__setattr__" = some (some (.builtin "object.__setattr__"))) &&
  (decide (PySem.W.subIn K (.ref A) (.type "BaseException") = some true) && (decide (PySem.W.typeIn K (.ref A) = some (.type "type")) && (PySem.W.keepIn K (.ref A) && (PySem.W.hasDictIn K A &&
  (decide (PySem.W.findIn K (.ref A) "at" = some none) && (decide (PySem.W.findIn K (.ref A) "__init__" = some (some (.ref f))) && (decide (PySem.W.typeIn K (.ref f) = some (.type "function")) &&
  (decide (PySem.W.findIn K (.ref A) "__getattribute__" = some (some (.builtin "BaseException.__getattribute__"))) && decide (PySem.W.findIn K (.ref A) "__getattr__" = some none)))))))))))
theorem ekB_ok {K : PySem.W.Frag} {A f : Addr} (h : ekB K A f = true) : EkC K A f := by
  unfold ekB at h
  simp only [Bool.and_eq_true, decide_eq_true_eq] at h
  obtain ⟨h1, h2, h3, h4, h5, h6, h7, h8, h9, h10, h11, h12⟩ := h
  exact ⟨h1, h2, h3, h4, h5, h6, h7, h8, h9, h10, h11, h12⟩
def eisB (K : PySem.W.Frag) (A : Addr) : Bool := decide (PySem.W.findIn K (.ref A) "__class__" = some (some (.builtin "object.__class__"))) && (decide (PySem.W.specialIn K (.builtin "object.__class__") "__get__" = some (some (.builtin "getset_descriptor.__get__"))) &&
  (decide (PySem.W.takesIn K (.builtin "object.__class__") = some true) && decide (PySem.W.mroIn K A (.type "object") = some true)))
theorem eisB_ok {K : PySem.W.Frag} {A : Addr} (h : eisB K A = true) : EisC K A := by
  unfold eisB at h
  simp only [Bool.and_eq_true, decide_eq_true_eq] at h
  obtain ⟨h1, h2, h3, h4⟩ := h
  exact ⟨h1, h2, h3, h4⟩
end DI
set_option maxRecDepth 100000
set_option maxHeartbeats 4000000
namespace DI
open PySem PySem.Spec PyProof.Rows L2 He

/-! ### the head's facts, by lists of names -/
abbrev FnT : Type := Option (Str × Str × Arguments × FuncBody × Scope × Addr × List (Str × Addr) × Addr)
def fnAt (K : PySem.W.Frag) (a : Addr) : FnT := match K.lookup a with
  | some ⟨_, _, .func fd, _⟩ => some (fd.name, fd.qualname, fd.params, fd.body, fd.scope, fd.globals, fd.closure, fd.builtins)
  | _ => none
/-- a property's getter -/
def gaP (K : PySem.W.Frag) (c m : Str) : Addr := match PySem.W.recIn K (ma K (ga K c) m) "property" with
  | some (.ref g :: _) => g
  | _ => 0
/-- a class's own property: its name, the def -/
structure PrD where
  cls : Str
  nm : Str
  df : DefD
def okAt (K : PySem.W.Frag) (a : Addr) (d : DefD) : Bool := PySem.W.keepIn K (.ref a) && (match K.lookup a with
  | some ⟨_, _, .func fd, _⟩ => PySem.W.codeIn K fd.code d.qual && (dflB K fd.defaults (d.dvs K) && kwdB K fd.kwdefaults (d.kws K))
  | _ => false)
theorem fnAt_ok {K : PySem.W.Frag} {a : Addr} {d : DefD} (e : fnAt K a = d.val) (c : okAt K a d = true) : ∃ fd, FunD K d.name d.qual d.params d.body d.scope (d.dvs K) (d.kws K) a fd := by
  obtain ⟨kp, c2⟩ := ba c
  unfold fnAt at e
  cases q : K.lookup a with
  | none => rw [q] at c2; cases c2
  | some o =>
    obtain ⟨oc, od, dt, osl⟩ := o
    rw [q] at c2 e
    cases dt with
    | func fd =>
      obtain ⟨n1, n2, n3, n4, n5, n6, n7, n8, n9, n10, n11, n12, n13, n14, n15⟩ := fd
      have e2 : (some (n1, n2, n3, n4, n5, n6, n7, n15) : FnT) = some (d.name, d.qual, d.params, .stmts d.body, d.scope, mainGlobals, [], builtinsNs) := e
      simp only [Option.some.injEq, Prod.mk.injEq] at e2
      obtain ⟨h1, h2, h3, h4, h5, h6, h7, h8⟩ := e2
      subst h1 h2 h3 h4 h5 h6 h7 h8
      have c3 : (PySem.W.codeIn K n13 d.qual && (dflB K n8 (d.dvs K) && kwdB K n9 (d.kws K))) = true := c2
      obtain ⟨k1, k2⟩ := ba c3
      obtain ⟨k3, k4⟩ := ba k2
      exact ⟨_, ⟨oc, od, n8, n9, n10, n11, n12, n13, n14, osl, rfl, q, k1, dflB_ok k3, kwdB_ok k4⟩, kp⟩
    | _ => cases c2
def prOk (K : PySem.W.Frag) (p : PrD) : Bool :=
  decide (PySem.W.findIn K (.ref (ga K p.cls)) p.nm = some (some (.ref (ma K (ga K p.cls) p.nm)))) && (decide (PySem.W.specialIn K (.ref (ma K (ga K p.cls) p.nm)) "__get__" = some (some (.builtin "property.__get__"))) &&
  (decide (PySem.W.takesIn K (.ref (ma K (ga K p.cls) p.nm)) = some true) && ((match PySem.W.recIn K (ma K (ga K p.cls) p.nm) "property" with
    | some (.ref _ :: _) => true
    | _ => false) && okAt K (gaP K p.cls p.nm) p.df)))
theorem prOk_ok {K : PySem.W.Frag} {p : PrD} (h : prOk K p = true) : PropOf K (ga K p.cls) p.nm (ma K (ga K p.cls) p.nm) (gaP K p.cls p.nm) ∧ okAt K (gaP K p.cls p.nm) p.df = true := by
  unfold prOk at h
  obtain ⟨h1, h⟩ := ba h
  obtain ⟨h2, h⟩ := ba h
  obtain ⟨h3, h⟩ := ba h
  obtain ⟨h4, h5⟩ := ba h
  refine ⟨⟨of_decide_eq_true h1, of_decide_eq_true h2, of_decide_eq_true h3, ?_⟩, h5⟩
  unfold gaP
  split at h4
  · rename_i g r e
    exact ⟨r, by rw [e]⟩
  · cases h4
abbrev AlC : Type := AlD × (Bool × List FnT)
def SaysC (fa : List Fa) (fn : List DefD) (ps : List PrD) (ex : PySem.W.Frag → Bool) (K : PySem.W.Frag) : Prop := SaysD fa fn K ∧ (ex K = true ∧ ps.map (fun p => fnAt K (gaP K p.cls p.nm)) = ps.map fun p => p.df.val)
def obsC (n : Nat) (fa : List Fa) (fn : List DefD) (ps : List PrD) (ex : PySem.W.Frag → Bool) (g : Addr → Option Obj) : AlC := (obsDG n fa fn g, (ex (frG g (asD g n)), ps.map fun p => fnAt (frG g (asD g n)) (gaP (frG g (asD g n)) p.cls p.nm)))
def hookC (n : Nat) (fa : List Fa) (fn : List DefD) (ps : List PrD) (ex : PySem.W.Frag → Bool) : PySem.W.Hook where
  α := AlC
  obs := fun s => obsC n fa fn ps ex s.heap.get?
  val := fun _ => (He.valD fn, (true, ps.map fun p => p.df.val))
  says := fun _ h => ∃ K : PySem.W.Frag, K.In h ∧ SaysC fa fn ps ex K
  of := fun _ s e => by
    have e1 := congrArg (fun z : AlC => z.1) e
    have e2 := congrArg (fun z : AlC => z.2.1) e
    have e3 := congrArg (fun z : AlC => z.2.2) e
    exact ⟨frG s.heap.get? (asD s.heap.get? n), frG_in, e1, e2, e3⟩
  keeps := fun _ _ _ ⟨K, kin, c⟩ k => ⟨K, PySem.W.Frag.In.keeps kin k, c⟩
theorem obsC_eq {n : Nat} {fa : List Fa} {fn : List DefD} {ps : List PrD} {ex : PySem.W.Frag → Bool} {g : Addr → Option Obj} {s : Shared} (h : ∀ a, g a = s.heap.get? a) : obsC n fa fn ps ex g = (hookC n fa fn ps ex).obs s := by
  have e : g = s.heap.get? := funext h
  subst e
  rfl
section
variable {fa : List Fa} {fn : List DefD} {ps : List PrD} {ex : PySem.W.Frag → Bool} {K : PySem.W.Frag} {h : Heap} {mg : Str → Option Value}
theorem saysC_glo (kin : K.In h) (G : h.Ns mainGlobals mg) (c : SaysC fa fn ps ex K) {x : Str} (m : Fa.glo x ∈ fa) : mg x = some (.ref (ga K x)) := by
  obtain ⟨i, hi, e⟩ := List.mem_iff_getElem.mp m
  exact glo_ok kin G (c.1.fact i (by rw [List.getElem?_eq_getElem hi, e]))
theorem saysC_free (kin : K.In h) (G : h.Ns mainGlobals mg) (c : SaysC fa fn ps ex K) {x : Str} (m : Fa.free x ∈ fa) : mg x = none := by
  obtain ⟨i, hi, e⟩ := List.mem_iff_getElem.mp m
  exact free_ok kin G (c.1.fact i (by rw [List.getElem?_eq_getElem hi, e]))
theorem saysC_prop (c : SaysC fa fn ps ex K) (i : Nat) {p : PrD} (hp : ps[i]? = some p) (hok : okAt K (gaP K p.cls p.nm) p.df = true) : ∃ fd, FunD K p.df.name p.df.qual p.df.params p.df.body p.df.scope (p.df.dvs K) (p.df.kws K) (gaP K p.cls p.nm) fd := by
  have e := c.2.2
  have e2 : (ps.map fun p => fnAt K (gaP K p.cls p.nm))[i]? = (ps.map fun p => p.df.val)[i]? := by rw [e]
  rw [List.getElem?_map, List.getElem?_map, hp] at e2
  exact fnAt_ok (Option.some.inj e2) hok
end

/-! ### constants of the module, of any depth -/
mutual
def repB (K : PySem.W.Frag) : Nat → D → Value → Bool
  | _, .non, .none => true
  | _, .bl b, .bool c => b == c
  | _, .int i, .int j _ => decide (i = j)
  | _, .str x, .str y _ => decide (x = y)
  | n + 1, .tup ds, .ref a => (match K.lookup a with
    | some ⟨.type c, _, .seq its _, _⟩ => decide (c = "tuple") && (decide (its.size ≤ sizeLine) && repL K n ds its.toList)
    | _ => false)
  | _, _, _ => false
def repL (K : PySem.W.Frag) : Nat → List D → List Value → Bool
  | _, [], [] => true
  | n, d :: ds, u :: us => repB K n d u && repL K n ds us
  | _, _, _ => false
end
mutual
theorem repB_ok {K : Kc} : ∀ (n : Nat) (d : D) (u : Value), repB K.K n d u = true → ∃ v, RelV v u ∧ ∀ H, Rp K H v d
  | n, .non, u, h => by cases u <;> first | exact ⟨.non, rfl, fun _ => .non⟩ | (cases n <;> cases h)
  | n, .bl b, u, h => by
    cases u <;> try (cases n <;> cases h; done)
    rename_i c
    have e : b = c := by cases n <;> exact beq_iff_eq.mp h
    subst e
    exact ⟨.bl b, rfl, fun _ => .bl b⟩
  | n, .int i, u, h => by
    cases u <;> try (cases n <;> cases h; done)
    rename_i j t
    have e : i = j := by cases n <;> exact of_decide_eq_true h
    subst e
    exact ⟨.int i, ⟨t, rfl⟩, fun _ => .int i⟩
  | n, .str x, u, h => by
    cases u <;> try (cases n <;> cases h; done)
    rename_i y t
    have e : x = y := by cases n <;> exact of_decide_eq_true h
    subst e
    exact ⟨.str x, ⟨t, rfl⟩, fun _ => .str x⟩
  | n, .lst _, u, h => by cases n <;> cases u <;> cases h
  | n, .fls _, u, h => by cases n <;> cases u <;> cases h
  | n, .obj _ _, u, h => by cases n <;> cases u <;> cases h
  | 0, .tup ds, u, h => by cases u <;> cases h
  | n + 1, .tup ds, u, h => by
    cases u <;> try (cases h; done)
    rename_i a
    have h' : (match K.K.lookup a with
      | some ⟨.type c, _, .seq its _, _⟩ => decide (c = "tuple") && (decide (its.size ≤ sizeLine) && repL K.K n ds its.toList)
      | _ => false) = true := h
    split at h'
    · rename_i c od its m sl q
      obtain ⟨h1, h2⟩ := ba h'
      obtain ⟨h3, h4⟩ := ba h2
      obtain ⟨vs, rv, rp⟩ := repL_ok n ds its.toList h4
      exact ⟨.ref a, rfl, fun H => .tup (xs := vs) (.inr ⟨_, its, m, q, congrArg Value.type (of_decide_eq_true h1), rfl, of_decide_eq_true h3, rv⟩) (rp H)⟩
    · cases h'
theorem repL_ok {K : Kc} : ∀ (n : Nat) (ds : List D) (us : List Value), repL K.K n ds us = true → ∃ vs, Vals vs us ∧ ∀ H, RpA K H vs ds
  | n, [], us, h => by
    cases us with
    | nil => exact ⟨[], .nil, fun _ => .nil⟩
    | cons u us => cases n <;> cases h
  | n, d :: ds, us, h => by
    cases us with
    | nil => cases n <;> cases h
    | cons u us =>
      have h' : (repB K.K n d u && repL K.K n ds us) = true := by cases n <;> exact h
      obtain ⟨h1, h2⟩ := ba h'
      obtain ⟨v, a, b⟩ := repB_ok n d u h1
      obtain ⟨vs, a2, b2⟩ := repL_ok n ds us h2
      exact ⟨v :: vs, .cons a a2, fun H => .cons (b H) (b2 H)⟩
end
def conB (K : PySem.W.Frag) (p : Str × D) : Bool := match PySem.W.nsIn K mainGlobals p.1 with
  | some (some u) => repB K 8 p.2 u
  | _ => false
theorem conB_ok {K : Kc} {h : Heap} {mg : Str → Option Value} (kin : K.K.In h) (G : h.Ns mainGlobals mg) {p : Str × D} (c : conB K.K p = true) : ∃ v u, mg p.1 = some u ∧ RelV v u ∧ ∀ H, Rp K H v p.2 := by
  unfold conB at c
  split at c
  · rename_i u e
    obtain ⟨v, r, rp⟩ := repB_ok 8 p.2 u c
    exact ⟨v, u, PySem.W.mg_of kin G e, r, rp⟩
  · cases c

/-! ### the own classes, the own errors -/
def clOf (K : PySem.W.Frag) (cs : List Str) : Str → Option Addr := fun c => if cs.contains c then some (ga K c) else none
abbrev kcOf (K : PySem.W.Frag) (cs : List Str) : Kc := ⟨K, clOf K cs⟩
theorem clOf_inv {K : PySem.W.Frag} {cs : List Str} {c : Str} {A : Addr} (h : clOf K cs c = some A) : c ∈ cs ∧ A = ga K c := by
  unfold clOf at h
  split at h
  · rename_i hc
    exact ⟨by simpa using hc, (Option.some.inj h).symm⟩
  · cases h
theorem clOf_in {K : PySem.W.Frag} {cs : List Str} {c : Str} (h : c ∈ cs) : clOf K cs c = some (ga K c) := by
  unfold clOf
  rw [if_pos (by simpa using h)]
def ownB1 (K : PySem.W.Frag) (cs : List Str) (c : Str) : Bool := (Fa.cls c).ok K && (eisB K (ga K c) && (five.all (fun T => decide (PySem.W.kitOne K (.ref (ga K c)) (.type T) = some false)) && (("NoneType" :: five).all (fun T => decide (PySem.W.kitOne K (.type T) (.ref (ga K c)) = some false)) &&
  cs.all fun c' => decide (PySem.W.kitOne K (.ref (ga K c')) (.ref (ga K c)) = some (c' == c)))))
def ownB (K : PySem.W.Frag) (cs : List Str) : Bool := cs.all (ownB1 K cs)
theorem ownB_ok {K : PySem.W.Frag} {cs : List Str} (h : ownB K cs = true) : OwnT (kcOf K cs) := by
  have at_ : ∀ c ∈ cs, ownB1 K cs c = true := List.all_eq_true.mp h
  refine ⟨fun c C z => ?_, fun c C z T hT => ?_, fun c C z T hT => ?_, fun c C c' C' z z' => ?_⟩
  all_goals
    obtain ⟨m, rfl⟩ := clOf_inv z
    obtain ⟨h1, h2⟩ := ba (at_ c m)
    obtain ⟨h2, h3⟩ := ba h2
    obtain ⟨h3, h4⟩ := ba h3
    obtain ⟨h4, h5⟩ := ba h4
  · obtain ⟨a, b, c, d⟩ := eisB_ok h2
    exact ⟨cls_ok h1, a, b, c, d⟩
  · exact of_decide_eq_true (List.all_eq_true.mp h3 T hT)
  · exact of_decide_eq_true (List.all_eq_true.mp h4 T hT)
  · obtain ⟨m', rfl⟩ := clOf_inv z'
    exact of_decide_eq_true (List.all_eq_true.mp h5 c' m')
def fldB (K : PySem.W.Frag) (cs fs : List Str) : Bool := cs.all fun c => fs.all fun f => (Fa.noat c f).ok K
theorem fldB_ok {K : PySem.W.Frag} {cs fs : List Str} (h : fldB K cs fs = true) {f : Str} (hf : fs.contains f = true) : ∀ c A, (kcOf K cs).cl c = some A → NoAttr K A f := fun c A z => by
  obtain ⟨m, rfl⟩ := clOf_inv z
  exact noat_ok (List.all_eq_true.mp (List.all_eq_true.mp h c m) f (by simpa using hf))
def nofB (K : PySem.W.Frag) (cs : List Str) : Bool := cs.all fun c => (("NoneType" :: five).all fun T => PySem.W.notFirst K (ga K c) (.type T)) && cs.all fun c' => PySem.W.notFirst K (ga K c) (.ref (ga K c'))
theorem nofB_ok {K : PySem.W.Frag} {cs : List Str} (h : nofB K cs = true) : ∀ c A, (kcOf K cs).cl c = some A → (∀ T ∈ "NoneType" :: five, PySem.W.notFirst K A (.type T) = true) ∧ ∀ c' A', (kcOf K cs).cl c' = some A' → PySem.W.notFirst K A (.ref A') = true := fun c A z => by
  obtain ⟨m, rfl⟩ := clOf_inv z
  obtain ⟨h1, h2⟩ := ba (List.all_eq_true.mp h c m)
  refine ⟨fun T hT => List.all_eq_true.mp h1 T hT, fun c' A' z' => ?_⟩
  obtain ⟨m', rfl⟩ := clOf_inv z'
  exact List.all_eq_true.mp h2 c' m'
def excB (K : PySem.W.Frag) (es : List Str) : Bool := es.all fun e => ekB K (ga K e) (ma K (ga K e) "__init__") && es.all fun x => decide (PySem.W.exmOne K (.ref (ga K e)) (.ref (ga K x)) = some (rel e x))
theorem excB_ek {K : PySem.W.Frag} {es : List Str} (h : excB K es = true) {e : Str} (m : e ∈ es) : EkC K (ga K e) (ma K (ga K e) "__init__") := ekB_ok (ba (List.all_eq_true.mp h e m)).1
theorem excB_em {K : PySem.W.Frag} {es : List Str} (h : excB K es = true) {e x : Str} (m : e ∈ es) (mx : x ∈ es) : PySem.W.exmOne K (.ref (ga K e)) (.ref (ga K x)) = some (rel e x) :=
  of_decide_eq_true (List.all_eq_true.mp (ba (List.all_eq_true.mp h e m)).2 x mx)
/-- a def with one name for its place, called -/
structure Cld (P : Program) (w : World) (K : Kc) (mg : Str → Option Value) (base : Heap) (ca : Str → Option Addr) (k : Nat) (x : Str) (n : Nat) (f : FM) : Prop where
  ex : ∃ g fd ps, mg x = some (.ref g) ∧ PySem.W.keepIn K.K (.ref g) = true ∧ Binds K.K fd ps [] ∧ FnOk P w K.K mg base (L2N.CX P w) k g fd ps (spOf K ca n f)
/-- a method -/
structure ClM (P : Program) (w : World) (K : Kc) (mg : Str → Option Value) (base : Heap) (ca : Str → Option Addr) (k : Nat) (g : Addr) (n : Nat) (f : FM) : Prop where
  ex : ∃ fd ps, Binds K.K fd ps [] ∧ FnOk P w K.K mg base (L2N.CX P w) k g fd ps (spOf K ca n f)
/-- .. called by keywords too (nk positional values ahead) -/
structure ClK (P : Program) (w : World) (K : Kc) (mg : Str → Option Value) (base : Heap) (ca : Str → Option Addr) (k : Nat) (g : Addr) (n : Nat) (f : FM) (nk : Nat) (ks : List Str) : Prop where
  ex : ∃ fd ps, KwAll K.K fd ps nk ∧ FnOk P w K.K mg base (L2N.CX P w) k g fd ps (spOf K ca n f) ∧ ps.drop nk = ks
theorem _root_.L2.FunD.kwAll {K : PySem.W.Frag} {x qual : Str} {params : Arguments} {body : List Stmt} {scope : Scope} {kws : List (Str × V)} {f : Addr} {fd : FuncData} {ps : List Str} {n : Nat} (F : FunD K x qual params body scope [] kws f fd)
    (h : ∀ (kV doc pm : Value) (an : Option Addr) (cdv ct : Value) (us ws : List Value), us.length = n → (us ++ ws).length = ps.length → bindArgs (PySem.W.fnOf x qual params body scope .none kV doc pm an cdv ct) ⟨us, (ps.drop n).zip ws⟩ = pure (ps.zip (us ++ ws))) : KwAll K fd ps n := by
  obtain ⟨oc, od, dV, kV, doc, pm, an, cdv, ct, osl, rfl, lk, hcd, hD, hK⟩ := F.ex
  rcases hD with ⟨_, rfl⟩ | ⟨e, _⟩
  · exact fun s us ws _ hl ht => .of_eq (h kV doc pm an cdv ct us ws hl ht)
  · exact absurd rfl e
end DI
set_option maxRecDepth 100000
set_option maxHeartbeats 4000000
namespace DI
open PySem PySem.Spec PyProof.Rows L2 He

def clsBody : Stmt → List Stmt
  | .ClassDef (body := b) .. => b
  | _ => []
section
variable {P : Program} {w : World} {K : PySem.W.Frag} {mg : Str → Option Value} {base : Heap}
/-- an error's own maker -/
theorem init_ok {x qual : Str} {st : Stmt} {f fx A : Addr} {fd : FuncData} {p p2 p3 p4 : Pos} (F : FunD K x qual (defArgs st) (defBody st) (defScope st) [] [] f fd) (T : EkC K A fx) (S : FnScope ["self", "at"] ["self", "at"] (defScope st))
    (hb : defBody st = [.Assign [.Attribute (.Name "self" p) "at" p2] (.Name "at" p3) p4]) (l1 : (defScope st).names.lookup ("self" : Str) = some NameKind.local) (l2 : (defScope st).names.lookup ("at" : Str) = some NameKind.local) : FnOk P w K mg base (L2N.CX P w) 1 f fd ["self", "at"] (spAt A) := by
  refine F.ok S (fun vs H Q E h => ?_) (fun cdv Ar outer s H vs Q E hr h => ⟨tAt K (tVar 0) (tVar 1), ?_, ?_⟩)
  · obtain ⟨a, y, rfl, _⟩ := h
    rfl
  · rw [hb]
    exact pss_one (ps_at (pe_var (i := 0) rfl (.inl l1) rfl rfl) (pe_var (i := 1) rfl (.inl l2) rfl rfl))
  · obtain ⟨a, y, rfl, ea, q⟩ := h
    exact ⟨y, rfl, .ref a, rfl, a, A, fx, rfl, T, ea, q⟩
/-- a def of which nothing is promised -/
theorem fn_none {K : Kc} {ca : Str → Option Addr} {k n : Nat} {f : Addr} {fd : FuncData} {ps : List Str} : FnOk P w K.K mg base (L2N.CX P w) k f fd ps (spOf K ca n fun _ => none) :=
  ⟨(fun vs H Q E h => (by obtain ⟨Hf, as, r, _, _, _, _, e, _⟩ := h; cases e)), (fun A outer s H args us vs Q E _ _ _ _ h => (by obtain ⟨Hf, as, r, _, _, _, _, e, _⟩ := h; cases e))⟩
/-- the law's own promise -/
def spLaw (K : PySem.W.Frag) : Sp := fun vs H Q _ => ∃ (a : Addr) (ns : List Int), vs = [.ref a] ∧ SqL K H a (ns.map V.int) ∧ ∀ H', Q (.bl true) H'
theorem ints_rp {K : Kc} {H : Hp} : ∀ ns : List Int, RpA K H (ns.map V.int) (ns.map D.int)
  | [] => .nil
  | n :: ns => .cons (.int n) (ints_rp ns)
/-- the plain part: the script alone -/
def scrH (H : Hp) (a : Addr) : Hp := fun b => if b = a then H a else none
theorem scrH_ex {H : Hp} {a : Addr} : Ex (scrH H a) H := fun b o h => by
  unfold scrH at h
  split at h
  · rename_i e; subst e; exact h
  · cases h
theorem scrH_sq {K : PySem.W.Frag} {H : Hp} {a : Addr} {xs : List V} (h : SqL K H a xs) : SqL K (scrH H a) a xs := by
  have e : scrH H a a = H a := by unfold scrH; rw [if_pos rfl]
  rcases h with (h | ⟨o, h⟩) | h
  · exact .inl (.inl (by rw [e]; exact h))
  · exact .inl (.inr ⟨o, by rw [e]; exact h⟩)
  · exact .inr h
theorem law_end {K : Kc} {ca : Str → Option Addr} {k : Nat} {g : Addr} {fd : FuncData} {ps : List Str} {f : FM} (F : FnOk P w K.K mg base (L2N.CX P w) k g fd ps (spOf K ca 1 f)) (h : ∀ ns : List Int, f [.val (.fls (ns.map .int))] = some (.ret (.val (.bl true)) [])) :
    FnOk P w K.K mg base CX0 k g fd ps (spLaw K.K) := by
  have toOf : ∀ {vs H Q E}, spLaw K.K vs H Q E → spOf K ca 1 f vs H Q (fun _ _ _ => False) := fun {vs H Q E} hs => by
    obtain ⟨a, ns, rfl, hS, q⟩ := hs
    refine ⟨scrH H a, [.val (.fls (ns.map .int))], _, rfl, .cons (.fls (scrH_sq hS) (ints_rp ns)) .nil, scrH_ex, fun i j p h1 _ => ?_, h ns, fun v Hf' H' B r => ?_⟩
    · unfold rfF at h1
      rcases i with _ | i <;> simp at h1
    · cases (show Rp K Hf' v (.bl true) from r)
      exact q H'
  refine ⟨fun vs H Q E hs => F.len vs H Q _ (toOf hs), fun A outer s H args us vs Q E hr he hb hv hs => ?_⟩
  refine codeAny_mono (F.run A outer s H args us vs Q (fun _ _ _ => False) hr he hb hv (toOf hs)) fun r s' z => ?_
  cases r with
  | ok fl => cases fl <;> exact z
  | error e =>
    obtain ⟨_, _, _, _, _, _, _, _, _, _, _, _, no⟩ := z
    exact no.elim
end
end DI
set_option maxRecDepth 100000
set_option maxHeartbeats 4000000
namespace DI
open PySem PySem.Spec PyProof.Rows L2 He
theorem lookup_mem {α : Type} : ∀ {l : List (Str × α)} {x : Str} {d : α}, l.lookup x = some d → (x, d) ∈ l
  | [], _, _, h => by cases h
  | (y, e) :: l, x, d, h => by
    rw [List.lookup_cons] at h
    split at h
    · rename_i q
      cases h
      rw [beq_iff_eq.mp q]
      exact List.mem_cons_self ..
    · exact List.mem_cons_of_mem _ (lookup_mem h)
section
variable {P : Program} {w : World} {K : Kc} {mg : Str → Option Value} {base : Heap} {ca : Str → Option Addr} {k n l : Nat} {x : Str} {f : FM} {g : Addr}
theorem Cld.fns (C : Cld P w K mg base ca k x n f) (h : k ≤ l) : ∃ k' g fd ps, k' ≤ l ∧ mg x = some (.ref g) ∧ PySem.W.keepIn K.K (.ref g) = true ∧ Binds K.K fd ps [] ∧ FnOk P w K.K mg base (L2N.CX P w) k' g fd ps (spOf K ca n f) := by
  obtain ⟨g, fd, ps, a, b, c, d⟩ := C.ex
  exact ⟨k, g, fd, ps, h, a, b, c, d⟩
theorem ClM.ctr {cs : List Str} {Kp : PySem.W.Frag} {ca : Str → Option Addr} {m : Nat} (C : ClM P w (kcOf Kp cs) mg base ca k (ma Kp (ga Kp x) "__init__") (m + 1) f) (hc : x ∈ cs) (hm : mg x = some (.ref (ga Kp x))) (M : (Fa.mkr x).ok Kp = true) (h : k + 1 ≤ l) :
    ∃ A g fd ps k', (kcOf Kp cs).cl x = some A ∧ mg x = some (.ref A) ∧ Mk Kp A g ∧ FnOk P w Kp mg base (L2N.CX P w) k' g fd ps (spOf (kcOf Kp cs) ca (m + 1) f) ∧ k' + 1 ≤ l ∧ Binds Kp fd ps [] := by
  obtain ⟨fd, ps, a, b⟩ := C.ex
  exact ⟨ga Kp x, _, fd, ps, k, clOf_in hc, hm, mkr_ok M, b, h, a⟩
theorem ClM.prp {cs : List Str} {Kp : PySem.W.Frag} {ca : Str → Option Addr} {p : PrD} (C : ClM P w (kcOf Kp cs) mg base ca k (gaP Kp p.cls p.nm) 1 f) (hc : p.cls ∈ cs) (ok : prOk Kp p = true) (h : k + 1 ≤ l) :
    ∃ A q g fd k' ps, (kcOf Kp cs).cl p.cls = some A ∧ PropOf Kp A p.nm q g ∧ FnOk P w Kp mg base (L2N.CX P w) k' g fd ps (spOf (kcOf Kp cs) ca 1 f) ∧ k' + 1 ≤ l ∧ Binds Kp fd ps [] := by
  obtain ⟨fd, ps, a, b⟩ := C.ex
  exact ⟨ga Kp p.cls, _, _, fd, k, ps, clOf_in hc, (prOk_ok ok).1, b, h, a⟩
theorem ClM.spc {cs : List Str} {Kp : PySem.W.Frag} {ca : Str → Option Addr} {m : Str} {n : Nat} (C : ClM P w (kcOf Kp cs) mg base ca k (ma Kp (ga Kp x) m) n f) (hc : x ∈ cs) (ok : (Fa.meth x m).ok Kp = true) (h : k + 1 ≤ l) :
    ∃ A g fd k' ps, (kcOf Kp cs).cl x = some A ∧ PySem.W.findIn Kp (.ref A) m = some (some (.ref g)) ∧ PySem.W.isFn Kp (.ref g) = true ∧ FnOk P w Kp mg base (L2N.CX P w) k' g fd ps (spOf (kcOf Kp cs) ca n f) ∧ k' + 1 ≤ l ∧ Binds Kp fd ps [] := by
  obtain ⟨fd, ps, a, b⟩ := C.ex
  have M := meth_ok ok
  exact ⟨ga Kp x, _, fd, k, ps, clOf_in hc, M.at_, M.fn, b, h, a⟩
/-- the errors of the text -/
structure ExI (P : Program) (w : World) (K : PySem.W.Frag) (mg : Str → Option Value) (base : Heap) (e : Str) : Prop where
  ex : ∃ fd ps, FnOk P w K mg base (L2N.CX P w) 1 (ma K (ga K e) "__init__") fd ps (spAt (ga K e)) ∧ Binds K fd ps []
theorem exs_of {Kp : PySem.W.Frag} {es : List Str} (hm : ∀ e ∈ es, mg e = some (.ref (ga Kp e))) (h : excB Kp es = true) (I : ∀ e ∈ es, ExI P w Kp mg base e) (hl : 2 ≤ l) : ∀ x, es.contains x = true → ∃ A f fd ps k, clOf Kp es x = some A ∧ mg x = some (.ref A) ∧ EkC Kp A f ∧ FnOk P w Kp mg base (L2N.CX P w) k f fd ps (spAt A) ∧ k + 1 ≤ l ∧ Binds Kp fd ps [] := fun x hx => by
  have m : x ∈ es := by simpa using hx
  obtain ⟨fd, ps, a, b⟩ := (I x m).ex
  exact ⟨_, _, fd, ps, 1, clOf_in m, hm x m, excB_ek h m, a, hl, b⟩
theorem hds_of {Kp : PySem.W.Frag} {es : List Str} (hm : ∀ e ∈ es, mg e = some (.ref (ga Kp e))) (h : excB Kp es = true) : ∀ x, es.contains x = true → ∃ Ax, mg x = some (.ref Ax) ∧ ∀ c A, clOf Kp es c = some A → (∃ f, EkC Kp A f) ∧ PySem.W.exmOne Kp (.ref A) (.ref Ax) = some (rel c x) := fun x hx => by
  have m : x ∈ es := by simpa using hx
  refine ⟨_, hm x m, fun c A z => ?_⟩
  obtain ⟨mc, rfl⟩ := clOf_inv z
  exact ⟨⟨_, excB_ek h mc⟩, excB_em h mc m⟩
end
end DI
set_option maxRecDepth 100000
set_option maxHeartbeats 4000000
namespace Lb
open PySem PySem.Spec PyProof.Rows L2 DI
def c_values_is_flag : SDen := (seqS (retS (orV [(blV (cmpB .Is (frzD (slotV 0)) (coD (frzD (ret (.val (.bl true))))))), (blV (cmpB .Is (frzD (slotV 0)) (coD (frzD (ret (.val (.bl false)))))))])) nextS)
def F_values_is_flag : FM := semF 1 1 c_values_is_flag
def c_Printer___init__ : SDen := (seqS (ifS (notB (truC (coD (frzD (bnd (consC (coD (frzD (slotV 1))) nilC) (runFn 1 F_values_is_flag))))))
    (seqS (raiseS ("BadValue" : Str) (frzD (ret (.val (.int 1))))) nextS)
    nextS) (seqS (ifS (notB (truC (coD (frzD (bnd (consC (coD (frzD (slotV 2))) nilC) (runFn 1 F_values_is_flag))))))
    (seqS (raiseS ("BadValue" : Str) (frzD (ret (.val (.int 2))))) nextS)
    nextS) (seqS (ifS (notB (truC (coD (frzD (bnd (consC (coD (frzD (slotV 3))) nilC) (runFn 1 F_values_is_flag))))))
    (seqS (raiseS ("BadValue" : Str) (frzD (ret (.val (.int 3))))) nextS)
    nextS) (seqS (setFS 0 ("_counts" : Str) (frzD (slotV 1))) (seqS (setFS 0 ("_remembers" : Str) (frzD (slotV 2))) (seqS (setFS 0 ("_tells" : Str) (frzD (slotV 3))) nextS))))))
def F_Printer___init__ : FM := semF 4 4 c_Printer___init__
def c_Printer___eq__ : SDen := (seqS (retS (andV [(askV (isOwn ("Printer" : Str)) (slotC 1)), (blV (cmpB .Eq (frzD (fldV ("_counts" : Str) (slotC 0))) (coD (frzD (fldV ("_counts" : Str) (slotC 1)))))), (blV (cmpB .Eq (frzD (fldV ("_remembers" : Str) (slotC 0))) (coD (frzD (fldV ("_remembers" : Str) (slotC 1)))))), (blV (cmpB .Eq (frzD (fldV ("_tells" : Str) (slotC 0))) (coD (frzD (fldV ("_tells" : Str) (slotC 1))))))])) nextS)
def F_Printer___eq__ : FM := semF 2 2 c_Printer___eq__
def c_Printer_counts : SDen := (seqS (retS (fldV ("_counts" : Str) (slotC 0))) nextS)
def F_Printer_counts : FM := semF 1 1 c_Printer_counts
def c_Printer_remembers : SDen := (seqS (retS (fldV ("_remembers" : Str) (slotC 0))) nextS)
def F_Printer_remembers : FM := semF 1 1 c_Printer_remembers
def c_Printer_tells : SDen := (seqS (retS (fldV ("_tells" : Str) (slotC 0))) nextS)
def F_Printer_tells : FM := semF 1 1 c_Printer_tells
def c_values_is_sequence : SDen := (seqS (retS (askV (fun d => isTn "list" d || isTn "tuple" d) (slotC 0))) nextS)
def F_values_is_sequence : FM := semF 1 1 c_values_is_sequence
def c_values_is_integer : SDen := (seqS (retS (andV [(askV (isTn "int") (slotC 0)), (notV (askV (isTn "bool") (slotC 0)))])) nextS)
def F_values_is_integer : FM := semF 1 1 c_values_is_integer
def c_values_is_number : SDen := (seqS (retS (andV [(bnd (consC (coD (frzD (slotV 0))) nilC) (runFn 1 F_values_is_integer)), (blV (chainB .LtE .LtE (frzD (slotV 1)) (frzD (slotV 0)) (frzD (slotV 2))))])) nextS)
def F_values_is_number : FM := semF 3 3 c_values_is_number
def con_BARE_WORDS : D := (.tup [(.str ("recall" : Str)), (.str ("note" : Str)), (.str ("count" : Str)), (.str ("add" : Str)), (.str ("send" : Str)), (.str ("wait" : Str)), (.str ("end" : Str))])
def con_TESTS : D := (.tup [(.str ("done" : Str)), (.str ("ok" : Str))])
def c_plans__is_line : SDen := (seqS (ifS (notB (truC (coD (frzD (bnd (consC (coD (frzD (slotV 0))) nilC) (runFn 1 F_values_is_sequence))))))
    (seqS (retS (ret (.val (.bl false)))) nextS)
    nextS) (seqS (ifS (cmpB .Eq (frzD (call1C lenD (slotC 0))) (coD (frzD (ret (.val (.int 1))))))
    (seqS (retS (blV (cmpB .In (frzD (ixV (slotC 0) (frzD (ret (.val (.int 0)))))) (coD (frzD (ret (.val con_BARE_WORDS))))))) nextS)
    nextS) (seqS (ifS (cmpB .Eq (frzD (call1C lenD (slotC 0))) (coD (frzD (ret (.val (.int 2))))))
    (seqS (retS (andV [(blV (cmpB .Eq (frzD (ixV (slotC 0) (frzD (ret (.val (.int 0)))))) (coD (frzD (ret (.val (.str ("go" : Str)))))))), (bnd (consC (coD (frzD (ixV (slotC 0) (frzD (ret (.val (.int 1))))))) (consC (coD (frzD (ret (.val (.int 0))))) (consC (coD (frzD (binV .Sub (slotC 1) (coD (frzD (ret (.val (.int 1)))))))) nilC))) (runFn 3 F_values_is_number))])) nextS)
    nextS) (seqS (ifS (cmpB .Eq (frzD (call1C lenD (slotC 0))) (coD (frzD (ret (.val (.int 3))))))
    (seqS (retS (andV [(blV (cmpB .Eq (frzD (ixV (slotC 0) (frzD (ret (.val (.int 0)))))) (coD (frzD (ret (.val (.str ("if" : Str)))))))), (blV (cmpB .In (frzD (ixV (slotC 0) (frzD (ret (.val (.int 1)))))) (coD (frzD (ret (.val con_TESTS)))))), (bnd (consC (coD (frzD (ixV (slotC 0) (frzD (ret (.val (.int 2))))))) (consC (coD (frzD (ret (.val (.int 0))))) (consC (coD (frzD (binV .Sub (slotC 1) (coD (frzD (ret (.val (.int 1)))))))) nilC))) (runFn 3 F_values_is_number))])) nextS)
    nextS) (seqS (retS (ret (.val (.bl false)))) nextS)))))
def F_plans__is_line : FM := semF 2 2 c_plans__is_line
def con_LAST_WORDS : D := (.tup [(.str ("end" : Str)), (.str ("go" : Str))])
def con_MOST_LINES : D := (.int 16)
def c_Plan___init__ : SDen := (seqS (ifS (orB [(notB (truC (coD (frzD (bnd (consC (coD (frzD (slotV 1))) nilC) (runFn 1 F_values_is_sequence)))))), (notB (chainB .LtE .LtE (frzD (ret (.val (.int 1)))) (frzD (call1C lenD (slotC 1))) (frzD (ret (.val con_MOST_LINES)))))])
    (seqS (raiseS ("BadValue" : Str) (frzD (ret (.val (.int 1))))) nextS)
    nextS) (seqS (forF (enumF 0 (frzD (slotV 1))) (.tup [(.name 3), (.name 4)])
    (seqS (ifS (notB (truC (coD (frzD (bnd (consC (coD (frzD (slotV 4))) (consC (coD (frzD (call1C lenD (slotC 1)))) nilC)) (runFn 2 F_plans__is_line))))))
    (seqS (raiseS ("BadLine" : Str) (frzD (slotV 3))) nextS)
    nextS) nextS)) (seqS (asgS 2 (binV .Sub (coD (frzD (call1C lenD (slotC 1)))) (coD (frzD (ret (.val (.int 1))))))) (seqS (ifS (cmpB .NotIn (frzD (ixV (coD (frzD (ixV (slotC 1) (frzD (slotV 2))))) (frzD (ret (.val (.int 0)))))) (coD (frzD (ret (.val con_LAST_WORDS)))))
    (seqS (raiseS ("BadLine" : Str) (frzD (slotV 2))) nextS)
    nextS) (seqS (setFS 0 ("_lines" : Str) (frzD (call1C tupleD (coD (frzD (lcF (itemsF (frzD (slotV 1))) (frzD (call1C tupleD (slotC 4))) (ret true) (.name 4) [4])))))) nextS)))))
def F_Plan___init__ : FM := semF 2 5 c_Plan___init__
def c_Plan___eq__ : SDen := (seqS (retS (andV [(askV (isOwn ("Plan" : Str)) (slotC 1)), (blV (cmpB .Eq (frzD (fldV ("_lines" : Str) (slotC 0))) (coD (frzD (fldV ("_lines" : Str) (slotC 1))))))])) nextS)
def F_Plan___eq__ : FM := semF 2 2 c_Plan___eq__
def c_Plan___len__ : SDen := (seqS (retS (call1C lenD (coD (frzD (fldV ("_lines" : Str) (slotC 0)))))) nextS)
def F_Plan___len__ : FM := semF 1 1 c_Plan___len__
def c_Plan_lines : SDen := (seqS (retS (fldV ("_lines" : Str) (slotC 0))) nextS)
def F_Plan_lines : FM := semF 1 1 c_Plan_lines
def c__law_so (self : FM) : SDen := (seqS (ifS (cmpB .Is (frzD (slotV 1)) (coD (frzD (ret (.val .non)))))
    (seqS (retS (blV (cmpB .Is (frzD (slotV 0)) (coD (frzD (ret (.val .non))))))) nextS)
    nextS) (seqS (ifS (truC (coD (frzD (askV (isTn "tuple") (slotC 1)))))
    (seqS (ifS (orB [(notB (truC (coD (frzD (askV (isTn "tuple") (slotC 0)))))), (cmpB .NotEq (frzD (call1C lenD (slotC 0))) (coD (frzD (call1C lenD (slotC 1)))))])
    (seqS (retS (ret (.val (.bl false)))) nextS)
    nextS) (seqS (forF (rngF1 (frzD (call1C lenD (slotC 1)))) (.name 2)
    (seqS (ifS (notB (truC (coD (frzD (bnd (consC (coD (frzD (ixV (slotC 0) (frzD (slotV 2))))) (consC (coD (frzD (ixV (slotC 1) (frzD (slotV 2))))) nilC)) (runFn 2 self))))))
    (seqS (retS (ret (.val (.bl false)))) nextS)
    nextS) nextS)) (seqS (retS (ret (.val (.bl true)))) nextS)))
    nextS) (seqS (ifS (orB [(truC (coD (frzD (askV (isTn "bool") (slotC 1))))), (truC (coD (frzD (askV (isTn "bool") (slotC 0)))))])
    (seqS (retS (andV [(askV (isTn "bool") (slotC 1)), (askV (isTn "bool") (slotC 0)), (blV (cmpB .Eq (frzD (slotV 0)) (slotC 1)))])) nextS)
    nextS) (seqS (ifS (truC (coD (frzD (askV (isTn "int") (slotC 1)))))
    (seqS (retS (andV [(askV (isTn "int") (slotC 0)), (blV (cmpB .Eq (frzD (slotV 0)) (slotC 1)))])) nextS)
    nextS) (seqS (retS (andV [(askV (isTn "str") (slotC 1)), (askV (isTn "str") (slotC 0)), (blV (cmpB .Eq (frzD (slotV 0)) (slotC 1)))])) nextS)))))
def F__law_so : Nat → FM
  | 0 => fun _ => none
  | n + 1 => semF 2 3 (c__law_so (F__law_so n))
def c__law_numbers : SDen := (seqS (asgS 1 (lstV (ret []))) (seqS (forF (itemsF (frzD (slcV (slotC 0) noPart (part (frzD (ret (.val (.int 63)))))))) (.name 2)
    (seqS (ifS (cmpB .GtE (frzD (slotV 2)) (coD (frzD (binV .Pow (coD (frzD (ret (.val (.int 10))))) (coD (frzD (ret (.val (.int 18)))))))))
    (seqS (asgS 3 (slotV 2)) (seqS (forF (rngF1 (frzD (ret (.val (.int 60))))) (.name 4)
    (seqS (ifS (cmpB .Eq (frzD (slotV 3)) (coD (frzD (ret (.val (.int 0))))))
    (seqS brkS nextS)
    nextS) (seqS (appS 1 (frzD (binV .Mod (coD (frzD (call1D intX (frzD (slotV 3))))) (coD (frzD (ret (.val (.int 997)))))))) (seqS (asgS 3 (binV .FloorDiv (slotC 3) (coD (frzD (ret (.val (.int 997))))))) nextS)))) nextS))
    (seqS (forF (rngF1 (frzD (ret (.val (.int 4))))) (.name 4)
    (seqS (asgS 5 (binV .Mod (coD (frzD (call1D intX (frzD (binV .Add (coD (frzD (binV .Add (coD (frzD (binV .Mult (slotC 2) (coD (frzD (ret (.val (.int 48271)))))))) (coD (frzD (binV .Mult (slotC 4) (coD (frzD (ret (.val (.int 69621))))))))))) (coD (frzD (ret (.val (.int 11)))))))))) (coD (frzD (ret (.val (.int 2147483647))))))) (seqS (appS 1 (frzD (binV .Mod (coD (frzD (call1D intX (frzD (binV .Add (coD (frzD (binV .Mult (slotC 5) (coD (frzD (ret (.val (.int 16807)))))))) (slotC 4)))))) (coD (frzD (ret (.val (.int 2147483629)))))))) nextS))) nextS)) nextS)) (seqS (ifS (cmpB .Eq (frzD (call1C lenD (slotC 1))) (coD (frzD (ret (.val (.int 0))))))
    (seqS (appS 1 (frzD (ret (.val (.int 0))))) nextS)
    nextS) (seqS (retN 1) nextS))))
def F__law_numbers : FM := semF 1 6 c__law_numbers
def c__law_draw : SDen := (seqS (ifS (cmpB .Lt (frzD (slotV 1)) (coD (frzD (call1C lenD (slotC 0)))))
    (seqS (retS (binV .Mod (coD (frzD (call1D intX (frzD (ixV (slotC 0) (frzD (slotV 1))))))) (slotC 2))) nextS)
    nextS) (seqS (asgS 3 (binV .Mod (coD (frzD (call1D intX (frzD (binV .Add (coD (frzD (binV .Add (coD (frzD (binV .Mult (coD (frzD (ixV (slotC 0) (frzD (binV .Mod (coD (frzD (call1D intX (frzD (slotV 1))))) (coD (frzD (call1C lenD (slotC 0))))))))) (coD (frzD (ret (.val (.int 40692)))))))) (coD (frzD (binV .Mult (slotC 1) (coD (frzD (ret (.val (.int 7919))))))))))) (coD (frzD (ret (.val (.int 3)))))))))) (coD (frzD (ret (.val (.int 2147483399))))))) (seqS (retS (binV .Mod (coD (frzD (call1D intX (frzD (binV .Mod (coD (frzD (call1D intX (frzD (binV .Add (coD (frzD (binV .Mult (slotC 3) (coD (frzD (ret (.val (.int 48271)))))))) (slotC 1)))))) (coD (frzD (ret (.val (.int 2147483647)))))))))) (slotC 2))) nextS)))
def F__law_draw : FM := semF 3 4 c__law_draw
def c__law_take : SDen := (seqS (setIxS (frzD (binV .Add (coD (frzD (ixV (slotC 1) (frzD (ret (.val (.int 0))))))) (coD (frzD (ret (.val (.int 1))))))) 1 (frzD (ret (.val (.int 0))))) (seqS (retS (bnd (consC (coD (frzD (slotV 0))) (consC (coD (frzD (binV .Sub (coD (frzD (ixV (slotC 1) (frzD (ret (.val (.int 0))))))) (coD (frzD (ret (.val (.int 1)))))))) (consC (coD (frzD (slotV 2))) nilC))) (runFn 3 F__law_draw))) nextS))
def F__law_take : FM := semF 3 3 c__law_take
def c__law_loose (self : FM) : SDen := (seqS (ifS (truC (coD (frzD (askV (isTn "tuple") (slotC 0)))))
    (seqS (asgS 2 (lcF (itemsF (frzD (slotV 0))) (frzD (bnd (consC (coD (frzD (slotV 3))) (consC (coD (frzD (binV .Add (slotC 1) (coD (frzD (ret (.val (.int 1)))))))) nilC)) (runFn 2 self))) (ret true) (.name 3) [3])) (seqS (retS (ifV (cmpB .Eq (frzD (binV .Mod (coD (frzD (call1D intX (frzD (slotV 1))))) (coD (frzD (ret (.val (.int 2))))))) (coD (frzD (ret (.val (.int 0)))))) (slotV 2) (call1C tupleD (slotC 2)))) nextS))
    nextS) (seqS (retN 0) nextS))
def F__law_loose : Nat → FM
  | 0 => fun _ => none
  | n + 1 => semF 2 4 (c__law_loose (F__law_loose n))
def c__law_printer : SDen := (seqS (retS (tupV (consA (frzD (blV (cmpB .Eq (frzD (bnd (consC (coD (frzD (slotV 0))) (consC (slotC 1) (consC (coD (frzD (ret (.val (.int 2))))) nilC))) (runFn 3 F__law_take))) (coD (frzD (ret (.val (.int 0)))))))) (consA (frzD (blV (cmpB .Eq (frzD (bnd (consC (coD (frzD (slotV 0))) (consC (slotC 1) (consC (coD (frzD (ret (.val (.int 3))))) nilC))) (runFn 3 F__law_take))) (coD (frzD (ret (.val (.int 0)))))))) (consA (frzD (blV (cmpB .Gt (frzD (bnd (consC (coD (frzD (slotV 0))) (consC (slotC 1) (consC (coD (frzD (ret (.val (.int 3))))) nilC))) (runFn 3 F__law_take))) (coD (frzD (ret (.val (.int 0)))))))) (ret [])))))) nextS)
def F__law_printer : FM := semF 2 2 c__law_printer
def c__law_shift : SDen := (seqS (asgS 3 (lstV (ret []))) (seqS (forF (itemsF (frzD (slotV 0))) (.name 4)
    (seqS (ifS (cmpB .Eq (frzD (ixV (slotC 4) (frzD (ret (.val (.int 0)))))) (coD (frzD (ret (.val (.str ("go" : Str)))))))
    (seqS (asgS 4 (tupV (consA (frzD (ret (.val (.str ("go" : Str))))) (consA (frzD (ifV (cmpB .GtE (frzD (ixV (slotC 4) (frzD (ret (.val (.int 1)))))) (slotC 1)) (binV .Add (coD (frzD (ixV (slotC 4) (frzD (ret (.val (.int 1))))))) (slotC 2)) (ixV (slotC 4) (frzD (ret (.val (.int 1))))))) (ret []))))) nextS)
    nextS) (seqS (ifS (cmpB .Eq (frzD (ixV (slotC 4) (frzD (ret (.val (.int 0)))))) (coD (frzD (ret (.val (.str ("if" : Str)))))))
    (seqS (asgS 4 (tupV (consA (frzD (ret (.val (.str ("if" : Str))))) (consA (frzD (ixV (slotC 4) (frzD (ret (.val (.int 1)))))) (consA (frzD (ifV (cmpB .GtE (frzD (ixV (slotC 4) (frzD (ret (.val (.int 2)))))) (slotC 1)) (binV .Add (coD (frzD (ixV (slotC 4) (frzD (ret (.val (.int 2))))))) (slotC 2)) (ixV (slotC 4) (frzD (ret (.val (.int 2))))))) (ret [])))))) nextS)
    nextS) (seqS (appS 3 (frzD (slotV 4))) nextS)))) (seqS (retN 3) nextS)))
def F__law_shift : FM := semF 3 5 c__law_shift
def c__law_line : SDen := (seqS (asgS 4 (lstV (consA (frzD (ret (.val (.str ("recall" : Str))))) (consA (frzD (ret (.val (.str ("note" : Str))))) (consA (frzD (ret (.val (.str ("add" : Str))))) (consA (frzD (ret (.val (.str ("send" : Str))))) (consA (frzD (ret (.val (.str ("wait" : Str))))) (consA (frzD (ret (.val (.str ("end" : Str))))) (consA (frzD (ret (.val (.str ("go" : Str))))) (consA (frzD (ret (.val (.str ("if" : Str))))) (consA (frzD (ret (.val (.str ("if" : Str))))) (consA (frzD (ret (.val (.str ("count" : Str))))) (ret []))))))))))))) (seqS (asgS 5 (ixV (slotC 4) (frzD (bnd (consC (coD (frzD (slotV 0))) (consC (slotC 1) (consC (coD (frzD (ifV (truC (slotC 3)) (ret (.val (.int 10))) (ret (.val (.int 9)))))) nilC))) (runFn 3 F__law_take))))) (seqS (ifS (cmpB .Eq (frzD (slotV 5)) (coD (frzD (ret (.val (.str ("go" : Str)))))))
    (seqS (retS (tupV (consA (frzD (ret (.val (.str ("go" : Str))))) (consA (frzD (bnd (consC (coD (frzD (slotV 0))) (consC (slotC 1) (consC (coD (frzD (slotV 2))) nilC))) (runFn 3 F__law_take))) (ret []))))) nextS)
    nextS) (seqS (ifS (cmpB .Eq (frzD (slotV 5)) (coD (frzD (ret (.val (.str ("if" : Str)))))))
    (seqS (retS (tupV (consA (frzD (ret (.val (.str ("if" : Str))))) (consA (frzD (ixV (coD (frzD (lstV (consA (frzD (ret (.val (.str ("done" : Str))))) (consA (frzD (ret (.val (.str ("ok" : Str))))) (ret [])))))) (frzD (bnd (consC (coD (frzD (slotV 0))) (consC (slotC 1) (consC (coD (frzD (ret (.val (.int 2))))) nilC))) (runFn 3 F__law_take))))) (consA (frzD (bnd (consC (coD (frzD (slotV 0))) (consC (slotC 1) (consC (coD (frzD (slotV 2))) nilC))) (runFn 3 F__law_take))) (ret [])))))) nextS)
    nextS) (seqS (retS (tupV (consA (frzD (slotV 5)) (ret [])))) nextS)))))
def F__law_line : FM := semF 4 6 c__law_line
def c__law_plan : SDen := (seqS (asgS 3 (lstV (consA (frzD (tupV (consA (frzD (tupV (consA (frzD (ret (.val (.str ("count" : Str))))) (ret [])))) (consA (frzD (tupV (consA (frzD (ret (.val (.str ("if" : Str))))) (consA (frzD (ret (.val (.str ("done" : Str))))) (consA (frzD (ret (.val (.int 6)))) (ret [])))))) (consA (frzD (tupV (consA (frzD (ret (.val (.str ("add" : Str))))) (ret [])))) (consA (frzD (tupV (consA (frzD (ret (.val (.str ("send" : Str))))) (ret [])))) (consA (frzD (tupV (consA (frzD (ret (.val (.str ("wait" : Str))))) (ret [])))) (consA (frzD (tupV (consA (frzD (ret (.val (.str ("go" : Str))))) (consA (frzD (ret (.val (.int 0)))) (ret []))))) (consA (frzD (tupV (consA (frzD (ret (.val (.str ("end" : Str))))) (ret [])))) (ret [])))))))))) (ret [])))) (seqS (appS 3 (frzD (tupV (consA (frzD (tupV (consA (frzD (ret (.val (.str ("recall" : Str))))) (ret [])))) (consA (frzD (tupV (consA (frzD (ret (.val (.str ("if" : Str))))) (consA (frzD (ret (.val (.str ("done" : Str))))) (consA (frzD (ret (.val (.int 8)))) (ret [])))))) (consA (frzD (tupV (consA (frzD (ret (.val (.str ("add" : Str))))) (ret [])))) (consA (frzD (tupV (consA (frzD (ret (.val (.str ("send" : Str))))) (ret [])))) (consA (frzD (tupV (consA (frzD (ret (.val (.str ("wait" : Str))))) (ret [])))) (consA (frzD (tupV (consA (frzD (ret (.val (.str ("if" : Str))))) (consA (frzD (ret (.val (.str ("ok" : Str))))) (consA (frzD (ret (.val (.int 7)))) (ret [])))))) (consA (frzD (tupV (consA (frzD (ret (.val (.str ("go" : Str))))) (consA (frzD (ret (.val (.int 3)))) (ret []))))) (consA (frzD (tupV (consA (frzD (ret (.val (.str ("note" : Str))))) (ret [])))) (consA (frzD (tupV (consA (frzD (ret (.val (.str ("end" : Str))))) (ret [])))) (ret []))))))))))))) (seqS (appS 3 (frzD (tupV (consA (frzD (tupV (consA (frzD (ret (.val (.str ("recall" : Str))))) (ret [])))) (consA (frzD (tupV (consA (frzD (ret (.val (.str ("if" : Str))))) (consA (frzD (ret (.val (.str ("done" : Str))))) (consA (frzD (ret (.val (.int 9)))) (ret [])))))) (consA (frzD (tupV (consA (frzD (ret (.val (.str ("add" : Str))))) (ret [])))) (consA (frzD (tupV (consA (frzD (ret (.val (.str ("send" : Str))))) (ret [])))) (consA (frzD (tupV (consA (frzD (ret (.val (.str ("wait" : Str))))) (ret [])))) (consA (frzD (tupV (consA (frzD (ret (.val (.str ("if" : Str))))) (consA (frzD (ret (.val (.str ("ok" : Str))))) (consA (frzD (ret (.val (.int 7)))) (ret [])))))) (consA (frzD (tupV (consA (frzD (ret (.val (.str ("go" : Str))))) (consA (frzD (ret (.val (.int 0)))) (ret []))))) (consA (frzD (tupV (consA (frzD (ret (.val (.str ("note" : Str))))) (ret [])))) (consA (frzD (tupV (consA (frzD (ret (.val (.str ("go" : Str))))) (consA (frzD (ret (.val (.int 0)))) (ret []))))) (consA (frzD (tupV (consA (frzD (ret (.val (.str ("end" : Str))))) (ret [])))) (ret [])))))))))))))) (seqS (appS 3 (frzD (tupV (consA (frzD (tupV (consA (frzD (ret (.val (.str ("recall" : Str))))) (ret [])))) (consA (frzD (tupV (consA (frzD (ret (.val (.str ("if" : Str))))) (consA (frzD (ret (.val (.str ("done" : Str))))) (consA (frzD (ret (.val (.int 7)))) (ret [])))))) (consA (frzD (tupV (consA (frzD (ret (.val (.str ("add" : Str))))) (ret [])))) (consA (frzD (tupV (consA (frzD (ret (.val (.str ("note" : Str))))) (ret [])))) (consA (frzD (tupV (consA (frzD (ret (.val (.str ("send" : Str))))) (ret [])))) (consA (frzD (tupV (consA (frzD (ret (.val (.str ("wait" : Str))))) (ret [])))) (consA (frzD (tupV (consA (frzD (ret (.val (.str ("go" : Str))))) (consA (frzD (ret (.val (.int 0)))) (ret []))))) (consA (frzD (tupV (consA (frzD (ret (.val (.str ("end" : Str))))) (ret [])))) (ret [])))))))))))) (seqS (appS 3 (frzD (tupV (consA (frzD (tupV (consA (frzD (ret (.val (.str ("recall" : Str))))) (ret [])))) (consA (frzD (tupV (consA (frzD (ret (.val (.str ("add" : Str))))) (ret [])))) (consA (frzD (tupV (consA (frzD (ret (.val (.str ("send" : Str))))) (ret [])))) (consA (frzD (tupV (consA (frzD (ret (.val (.str ("wait" : Str))))) (ret [])))) (consA (frzD (tupV (consA (frzD (ret (.val (.str ("go" : Str))))) (consA (frzD (ret (.val (.int 0)))) (ret []))))) (consA (frzD (tupV (consA (frzD (ret (.val (.str ("end" : Str))))) (ret [])))) (ret [])))))))))) (seqS (appS 3 (frzD (tupV (consA (frzD (tupV (consA (frzD (ret (.val (.str ("recall" : Str))))) (ret [])))) (consA (frzD (tupV (consA (frzD (ret (.val (.str ("if" : Str))))) (consA (frzD (ret (.val (.str ("done" : Str))))) (consA (frzD (ret (.val (.int 7)))) (ret [])))))) (consA (frzD (tupV (consA (frzD (ret (.val (.str ("add" : Str))))) (ret [])))) (consA (frzD (tupV (consA (frzD (ret (.val (.str ("send" : Str))))) (ret [])))) (consA (frzD (tupV (consA (frzD (ret (.val (.str ("wait" : Str))))) (ret [])))) (consA (frzD (tupV (consA (frzD (ret (.val (.str ("note" : Str))))) (ret [])))) (consA (frzD (tupV (consA (frzD (ret (.val (.str ("go" : Str))))) (consA (frzD (ret (.val (.int 1)))) (ret []))))) (consA (frzD (tupV (consA (frzD (ret (.val (.str ("end" : Str))))) (ret [])))) (ret [])))))))))))) (seqS (ifS (andB [(truC (slotC 2)), (cmpB .Eq (frzD (bnd (consC (coD (frzD (slotV 0))) (consC (slotC 1) (consC (coD (frzD (ret (.val (.int 12))))) nilC))) (runFn 3 F__law_take))) (coD (frzD (ret (.val (.int 0))))))])
    (seqS (retS (tupV (consA (frzD (tupV (consA (frzD (ret (.val (.str ("count" : Str))))) (ret [])))) (consA (frzD (tupV (consA (frzD (ret (.val (.str ("if" : Str))))) (consA (frzD (ret (.val (.str ("ok" : Str))))) (consA (frzD (ret (.val (.int 3)))) (ret [])))))) (consA (frzD (tupV (consA (frzD (ret (.val (.str ("note" : Str))))) (ret [])))) (consA (frzD (tupV (consA (frzD (ret (.val (.str ("if" : Str))))) (consA (frzD (ret (.val (.str ("done" : Str))))) (consA (frzD (ret (.val (.int 8)))) (ret [])))))) (consA (frzD (tupV (consA (frzD (ret (.val (.str ("add" : Str))))) (ret [])))) (consA (frzD (tupV (consA (frzD (ret (.val (.str ("send" : Str))))) (ret [])))) (consA (frzD (tupV (consA (frzD (ret (.val (.str ("wait" : Str))))) (ret [])))) (consA (frzD (tupV (consA (frzD (ret (.val (.str ("go" : Str))))) (consA (frzD (ixV (coD (frzD (lstV (consA (frzD (ret (.val (.int 0)))) (consA (frzD (ret (.val (.int 0)))) (consA (frzD (ret (.val (.int 3)))) (ret []))))))) (frzD (bnd (consC (coD (frzD (slotV 0))) (consC (slotC 1) (consC (coD (frzD (ret (.val (.int 3))))) nilC))) (runFn 3 F__law_take))))) (ret []))))) (consA (frzD (tupV (consA (frzD (ret (.val (.str ("end" : Str))))) (ret [])))) (ret [])))))))))))) nextS)
    nextS) (seqS (asgS 4 (bnd (consC (coD (frzD (slotV 0))) (consC (slotC 1) (consC (coD (frzD (ret (.val (.int 4))))) nilC))) (runFn 3 F__law_take))) (seqS (ifS (cmpB .Eq (frzD (slotV 4)) (coD (frzD (ret (.val (.int 0))))))
    (seqS (asgS 7 (binV .Add (coD (frzD (ret (.val (.int 1))))) (coD (frzD (bnd (consC (coD (frzD (slotV 0))) (consC (slotC 1) (consC (coD (frzD (ret (.val (.int 16))))) nilC))) (runFn 3 F__law_take)))))) (seqS (asgS 5 (lcF (rngF1 (frzD (slotV 7))) (frzD (bnd (consC (coD (frzD (slotV 0))) (consC (slotC 1) (consC (coD (frzD (slotV 7))) (consC (coD (frzD (slotV 2))) nilC)))) (runFn 4 F__law_line))) (ret true) (.name 6) [6])) (seqS (setIxS (frzD (ifV (cmpB .Gt (frzD (bnd (consC (coD (frzD (slotV 0))) (consC (slotC 1) (consC (coD (frzD (ret (.val (.int 3))))) nilC))) (runFn 3 F__law_take))) (coD (frzD (ret (.val (.int 0)))))) (tupV (consA (frzD (ret (.val (.str ("end" : Str))))) (ret []))) (tupV (consA (frzD (ret (.val (.str ("go" : Str))))) (consA (frzD (bnd (consC (coD (frzD (slotV 0))) (consC (slotC 1) (consC (coD (frzD (slotV 7))) nilC))) (runFn 3 F__law_take))) (ret [])))))) 5 (frzD (binV .Sub (slotC 7) (coD (frzD (ret (.val (.int 1)))))))) (seqS (retS (call1C tupleD (slotC 5))) nextS))))
    nextS) (seqS (asgS 5 (call1C listD (coD (frzD (ixV (slotC 3) (frzD (bnd (consC (coD (frzD (slotV 0))) (consC (slotC 1) (consC (coD (frzD (ret (.val (.int 6))))) nilC))) (runFn 3 F__law_take)))))))) (seqS (ifS (andB [(notB (truC (slotC 2))), (cmpB .In (frzD (tupV (consA (frzD (ret (.val (.str ("count" : Str))))) (ret [])))) (slotC 5))])
    (seqS (asgS 5 (call1C listD (coD (frzD (ixV (slotC 3) (frzD (ret (.val (.int 2))))))))) nextS)
    nextS) (seqS (forF (rngF1 (frzD (ixV (coD (frzD (lstV (consA (frzD (ret (.val (.int 0)))) (consA (frzD (ret (.val (.int 0)))) (consA (frzD (ret (.val (.int 1)))) (consA (frzD (ret (.val (.int 2)))) (ret [])))))))) (frzD (bnd (consC (coD (frzD (slotV 0))) (consC (slotC 1) (consC (coD (frzD (ret (.val (.int 4))))) nilC))) (runFn 3 F__law_take)))))) (.name 6)
    (seqS (asgS 8 (bnd (consC (coD (frzD (slotV 0))) (consC (slotC 1) (consC (coD (frzD (binV .Sub (coD (frzD (call1C lenD (slotC 5)))) (coD (frzD (ret (.val (.int 1)))))))) nilC))) (runFn 3 F__law_take))) (seqS (asgS 9 (bnd (consC (coD (frzD (slotV 0))) (consC (slotC 1) (consC (coD (frzD (ret (.val (.int 3))))) nilC))) (runFn 3 F__law_take))) (seqS (ifS (cmpB .Eq (frzD (slotV 9)) (coD (frzD (ret (.val (.int 0))))))
    (seqS (setIxS (frzD (bnd (consC (coD (frzD (slotV 0))) (consC (slotC 1) (consC (coD (frzD (call1C lenD (slotC 5)))) (consC (coD (frzD (slotV 2))) nilC)))) (runFn 4 F__law_line))) 5 (frzD (slotV 8))) nextS)
    (seqS (ifS (andB [(cmpB .Eq (frzD (slotV 9)) (coD (frzD (ret (.val (.int 1)))))), (cmpB .Lt (frzD (call1C lenD (slotC 5))) (coD (frzD (ret (.val (.int 15))))))])
    (seqS (asgS 5 (bnd (consC (coD (frzD (slotV 5))) (consC (coD (frzD (slotV 8))) (consC (coD (frzD (ret (.val (.int 1))))) nilC))) (runFn 3 F__law_shift))) (seqS (asgS 5 (binV .Add (coD (frzD (binV .Add (coD (frzD (slcV (slotC 5) noPart (part (frzD (slotV 8)))))) (coD (frzD (lstV (consA (frzD (bnd (consC (coD (frzD (slotV 0))) (consC (slotC 1) (consC (coD (frzD (binV .Add (coD (frzD (call1C lenD (slotC 5)))) (coD (frzD (ret (.val (.int 1)))))))) (consC (coD (frzD (slotV 2))) nilC)))) (runFn 4 F__law_line))) (ret [])))))))) (coD (frzD (slcV (slotC 5) (part (frzD (slotV 8))) noPart))))) nextS))
    (seqS (ifS (cmpB .Gt (frzD (call1C lenD (slotC 5))) (coD (frzD (ret (.val (.int 3))))))
    (seqS (asgS 5 (bnd (consC (coD (frzD (binV .Add (coD (frzD (slcV (slotC 5) noPart (part (frzD (slotV 8)))))) (coD (frzD (slcV (slotC 5) (part (frzD (binV .Add (slotC 8) (coD (frzD (ret (.val (.int 1)))))))) noPart)))))) (consC (coD (frzD (binV .Add (slotC 8) (coD (frzD (ret (.val (.int 1)))))))) (consC (coD (frzD (negV (frzD (ret (.val (.int 1))))))) nilC))) (runFn 3 F__law_shift))) nextS)
    nextS) nextS)) nextS)) nextS)))) (seqS (ifS (cmpB .Eq (frzD (bnd (consC (coD (frzD (slotV 0))) (consC (slotC 1) (consC (coD (frzD (ret (.val (.int 4))))) nilC))) (runFn 3 F__law_take))) (coD (frzD (ret (.val (.int 0))))))
    (seqS (forF (rngF1 (frzD (binV .Sub (coD (frzD (binV .Add (coD (frzD (ret (.val (.int 13))))) (coD (frzD (bnd (consC (coD (frzD (slotV 0))) (consC (slotC 1) (consC (coD (frzD (ret (.val (.int 4))))) nilC))) (runFn 3 F__law_take))))))) (coD (frzD (call1C lenD (slotC 5))))))) (.name 6)
    (seqS (asgS 8 (bnd (consC (coD (frzD (slotV 0))) (consC (slotC 1) (consC (coD (frzD (binV .Sub (coD (frzD (call1C lenD (slotC 5)))) (coD (frzD (ret (.val (.int 1)))))))) nilC))) (runFn 3 F__law_take))) (seqS (asgS 5 (bnd (consC (coD (frzD (slotV 5))) (consC (coD (frzD (slotV 8))) (consC (coD (frzD (ret (.val (.int 1))))) nilC))) (runFn 3 F__law_shift))) (seqS (asgS 5 (binV .Add (coD (frzD (binV .Add (coD (frzD (slcV (slotC 5) noPart (part (frzD (slotV 8)))))) (coD (frzD (lstV (consA (frzD (ixV (coD (frzD (lstV (consA (frzD (tupV (consA (frzD (ret (.val (.str ("recall" : Str))))) (ret [])))) (consA (frzD (tupV (consA (frzD (ret (.val (.str ("note" : Str))))) (ret [])))) (consA (frzD (tupV (consA (frzD (ret (.val (.str ("wait" : Str))))) (ret [])))) (consA (frzD (tupV (consA (frzD (ret (.val (.str ("go" : Str))))) (consA (frzD (binV .Add (slotC 8) (coD (frzD (ret (.val (.int 1))))))) (ret []))))) (consA (frzD (tupV (consA (frzD (ret (.val (.str ("if" : Str))))) (consA (frzD (ret (.val (.str ("ok" : Str))))) (consA (frzD (binV .Add (slotC 8) (coD (frzD (ret (.val (.int 1))))))) (ret [])))))) (ret []))))))))) (frzD (bnd (consC (coD (frzD (slotV 0))) (consC (slotC 1) (consC (coD (frzD (ret (.val (.int 5))))) nilC))) (runFn 3 F__law_take))))) (ret [])))))))) (coD (frzD (slcV (slotC 5) (part (frzD (slotV 8))) noPart))))) nextS)))) nextS)
    nextS) (seqS (retS (call1C tupleD (slotC 5))) nextS))))))))))))))
def F__law_plan : FM := semF 3 10 c__law_plan
def c__law_case : SDen := (seqS (asgS 2 (bnd (consC (coD (frzD (slotV 0))) (consC (slotC 1) nilC)) (runFn 2 F__law_printer))) (seqS (retS (tupV (consA (frzD (slotV 2)) (consA (frzD (bnd (consC (coD (frzD (slotV 0))) (consC (slotC 1) (consC (coD (frzD (ixV (slotC 2) (frzD (ret (.val (.int 0))))))) nilC))) (runFn 3 F__law_plan))) (ret []))))) nextS))
def F__law_case : FM := semF 2 3 c__law_case
def c__law_machine : SDen := (seqS (retS (valD (frzD (bnd (consC (coD (frzD (ixV (coD (frzD (ixV (slotC 0) (frzD (ret (.val (.int 0))))))) (frzD (ret (.val (.int 0))))))) (consC (coD (frzD (ixV (coD (frzD (ixV (slotC 0) (frzD (ret (.val (.int 0))))))) (frzD (ret (.val (.int 1))))))) (consC (coD (frzD (ixV (coD (frzD (ixV (slotC 0) (frzD (ret (.val (.int 0))))))) (frzD (ret (.val (.int 2))))))) nilC))) (newV ("Printer" : Str) 3 F_Printer___init__))))) nextS)
def F__law_machine : FM := semF 1 1 c__law_machine
def c__law_made : SDen := (seqS (retS (valD (frzD (bnd (consC (coD (frzD (ixV (slotC 0) (frzD (ret (.val (.int 1))))))) nilC) (newV ("Plan" : Str) 1 F_Plan___init__))))) nextS)
def F__law_made : FM := semF 1 1 c__law_made
def eqT : Str → Option FM := fun c => [(("Printer" : Str), F_Printer___eq__), (("Plan" : Str), F_Plan___eq__)].lookup c
def lenT : Str → Option FM := fun c => [(("Plan" : Str), F_Plan___len__)].lookup c
def c__law_set : SDen := (seqS (asgS 3 (call1C listD (slotC 0))) (seqS (setIxS (frzD (slotV 2)) 3 (frzD (slotV 1))) (seqS (retS (call1C tupleD (slotC 3))) nextS)))
def F__law_set : FM := semF 3 4 c__law_set
def c__law_plan_fault : SDen := (seqS (tryS 1 (seqS (dropS (valD (frzD (bnd (consC (coD (frzD (slotV 0))) nilC) (newV ("Plan" : Str) 1 F_Plan___init__))))) nextS) [(("BadValue" : Str), .tag ("value" : Str)), (("BadLine" : Str), .tag ("line" : Str))]) (seqS (retS (ret (.val .non))) nextS))
def F__law_plan_fault : FM := semF 1 2 c__law_plan_fault
def c__law_printer_fault : SDen := (seqS (tryS 3 (seqS (dropS (valD (frzD (bnd (consC (coD (frzD (slotV 0))) (consC (coD (frzD (slotV 1))) (consC (coD (frzD (slotV 2))) nilC))) (newV ("Printer" : Str) 3 F_Printer___init__))))) nextS) [(("BadValue" : Str), .at_)]) (seqS (retS (ret (.val .non))) nextS))
def F__law_printer_fault : FM := semF 3 4 c__law_printer_fault
end Lb
set_option maxRecDepth 100000
set_option maxHeartbeats 4000000
namespace Lb
open PySem PySem.Spec PyProof.Rows L2 DI
def c_values_is_told : SDen := (seqS (retS (andV [(bnd (consC (coD (frzD (slotV 0))) nilC) (runFn 1 F_values_is_sequence)), (blV (cmpB .Eq (frzD (call1C lenD (slotC 0))) (coD (frzD (ret (.val (.int 2))))))), (blV (cmpB .Eq (frzD (ixV (slotC 0) (frzD (ret (.val (.int 0)))))) (coD (frzD (ret (.val (.str ("told" : Str)))))))), (bnd (consC (coD (frzD (ixV (slotC 0) (frzD (ret (.val (.int 1))))))) nilC) (runFn 1 F_values_is_flag))])) nextS)
def F_values_is_told : FM := semF 1 1 c_values_is_told
def P_lines : Str → Option FM := fun c => [(("Plan" : Str), F_Plan_lines)].lookup c
def c_plans_asks_count : SDen := (seqS (retS (blV (cmpB .In (frzD (tupV (consA (frzD (ret (.val (.str ("count" : Str))))) (ret [])))) (coD (frzD (getV P_lines (slotC 0))))))) nextS)
def F_plans_asks_count : FM := semF 1 1 c_plans_asks_count
def P_counts : Str → Option FM := fun c => [(("Printer" : Str), F_Printer_counts)].lookup c
def c_plans_check_fit : SDen := (seqS (ifS (notB (truC (coD (frzD (askV (isOwn ("Printer" : Str)) (slotC 0))))))
    (seqS (raiseS ("BadValue" : Str) (frzD (ret (.val (.int 1))))) nextS)
    nextS) (seqS (ifS (notB (truC (coD (frzD (askV (isOwn ("Plan" : Str)) (slotC 1))))))
    (seqS (raiseS ("BadValue" : Str) (frzD (ret (.val (.int 2))))) nextS)
    nextS) (seqS (ifS (andB [(truC (coD (frzD (bnd (consC (coD (frzD (slotV 1))) nilC) (runFn 1 F_plans_asks_count))))), (notB (truC (coD (frzD (getV P_counts (slotC 0))))))])
    (seqS (raiseS ("BadValue" : Str) (frzD (ret (.val (.int 2))))) nextS)
    nextS) nextS)))
def F_plans_check_fit : FM := semF 2 2 c_plans_check_fit
def c_steps_is_sheet : SDen := (seqS (retS (askV (isTn "int") (slotC 0))) nextS)
def F_steps_is_sheet : FM := semF 1 1 c_steps_is_sheet
def con_GO_ON : D := (.int 0)
def con_LIE : D := (.int 1)
def con_JAM : D := (.int 2)
def con_CUT_LYING : D := (.int 3)
def con_CUT_LOSING : D := (.int 4)
def con_CUT : D := (.int 5)
def c_steps_open_choices : SDen := (seqS (asgS 2 (ixV (slotC 1) (frzD (ret (.val (.int 0)))))) (seqS (ifS (notB (truC (coD (frzD (bnd (consC (coD (frzD (ixV (slotC 1) (frzD (ret (.val (.int 4))))))) nilC) (runFn 1 F_steps_is_sheet))))))
    (seqS (retS (ifV (cmpB .Is (frzD (slotV 2)) (coD (frzD (ret (.val .non))))) (tupV (ret [])) (tupV (consA (frzD (ret (.val con_GO_ON))) (consA (frzD (ret (.val con_CUT))) (ret [])))))) nextS)
    nextS) (seqS (ifS (cmpB .Is (frzD (slotV 2)) (coD (frzD (ret (.val .non)))))
    (seqS (retS (tupV (consA (frzD (ret (.val con_LIE))) (consA (frzD (ret (.val con_JAM))) (ret []))))) nextS)
    nextS) (seqS (ifS (cmpB .In (frzD (ixV (coD (frzD (ixV (coD (frzD (fldV ("rows" : Str) (slotC 0)))) (frzD (slotV 2))))) (frzD (ret (.val (.int 0)))))) (coD (frzD (tupV (consA (frzD (ret (.val (.str ("send" : Str))))) (consA (frzD (ret (.val (.str ("wait" : Str))))) (ret [])))))))
    (seqS (retS (tupV (consA (frzD (ret (.val con_LIE))) (consA (frzD (ret (.val con_JAM))) (consA (frzD (ret (.val con_CUT_LYING))) (consA (frzD (ret (.val con_CUT_LOSING))) (ret []))))))) nextS)
    nextS) (seqS (retS (tupV (consA (frzD (ret (.val con_GO_ON))) (consA (frzD (ret (.val con_LIE))) (consA (frzD (ret (.val con_JAM))) (consA (frzD (ret (.val con_CUT_LYING))) (consA (frzD (ret (.val con_CUT_LOSING))) (ret [])))))))) nextS)))))
def F_steps_open_choices : FM := semF 2 3 c_steps_open_choices
def c_steps_is_choice : SDen := (seqS (retS (andV [(bnd (consC (coD (frzD (slotV 2))) nilC) (runFn 1 F_values_is_integer)), (blV (cmpB .In (frzD (slotV 2)) (coD (frzD (bnd (consC (coD (frzD (slotV 0))) (consC (coD (frzD (slotV 1))) nilC)) (runFn 2 F_steps_open_choices))))))])) nextS)
def F_steps_is_choice : FM := semF 3 3 c_steps_is_choice
def c_steps__cut : SDen := (seqS (asgT (.tup [(.name 1), (.name 1), (.name 1), (.name 2), (.name 1), (.name 3), (.name 4)]) (frzD (slotV 0))) (seqS (retS (tupV (consA (frzD (ret (.val (.int 0)))) (consA (frzD (ret (.val (.int 0)))) (consA (frzD (ret (.val (.bl false)))) (consA (frzD (slotV 2)) (consA (frzD (ret (.val .non))) (consA (frzD (slotV 3)) (consA (frzD (slotV 4)) (ret [])))))))))) nextS))
def F_steps__cut : FM := semF 1 5 c_steps__cut
def c_steps__next_line : SDen := (seqS (asgS 5 (ixV (slotC 0) (frzD (ret (.val (.int 0)))))) (seqS (ifS (cmpB .Eq (frzD (slotV 5)) (coD (frzD (ret (.val (.str ("end" : Str)))))))
    (seqS (retS (ret (.val .non))) nextS)
    nextS) (seqS (ifS (cmpB .Eq (frzD (slotV 5)) (coD (frzD (ret (.val (.str ("go" : Str)))))))
    (seqS (retS (ixV (slotC 0) (frzD (ret (.val (.int 1)))))) nextS)
    nextS) (seqS (ifS (andB [(cmpB .Eq (frzD (slotV 5)) (coD (frzD (ret (.val (.str ("if" : Str))))))), (ifB (cmpB .Eq (frzD (ixV (slotC 0) (frzD (ret (.val (.int 1)))))) (coD (frzD (ret (.val (.str ("done" : Str))))))) (cmpB .GtE (frzD (slotV 3)) (slotC 2)) (truC (slotC 4)))])
    (seqS (retS (ixV (slotC 0) (frzD (ret (.val (.int 2)))))) nextS)
    nextS) (seqS (retS (binV .Add (slotC 1) (coD (frzD (ret (.val (.int 1))))))) nextS)))))
def F_steps__next_line : FM := semF 5 6 c_steps__next_line
def c_steps__gone_on : SDen := (seqS (asgT (.tup [(.name 5), (.name 6), (.name 7), (.name 8), (.name 9), (.name 10), (.name 11)]) (frzD (slotV 2))) (seqS (asgS 3 (ixV (coD (frzD (fldV ("rows" : Str) (slotC 0)))) (frzD (slotV 5)))) (seqS (asgS 4 (ixV (slotC 3) (frzD (ret (.val (.int 0)))))) (seqS (ifS (cmpB .Eq (frzD (slotV 4)) (coD (frzD (ret (.val (.str ("recall" : Str)))))))
    (seqS (asgS 6 (slotV 8)) nextS)
    (seqS (ifS (cmpB .Eq (frzD (slotV 4)) (coD (frzD (ret (.val (.str ("note" : Str)))))))
    (seqS (asgS 8 (slotV 6)) nextS)
    (seqS (ifS (cmpB .Eq (frzD (slotV 4)) (coD (frzD (ret (.val (.str ("count" : Str)))))))
    (seqS (asgS 6 (slotV 11)) nextS)
    (seqS (ifS (cmpB .Eq (frzD (slotV 4)) (coD (frzD (ret (.val (.str ("add" : Str)))))))
    (seqS (asgS 6 (binV .Add (slotC 6) (coD (frzD (ret (.val (.int 1))))))) nextS)
    (seqS (ifS (cmpB .Eq (frzD (slotV 4)) (coD (frzD (ret (.val (.str ("send" : Str)))))))
    (seqS (asgS 9 (slotV 6)) nextS)
    (seqS (ifS (andB [(cmpB .Eq (frzD (slotV 4)) (coD (frzD (ret (.val (.str ("wait" : Str))))))), (cmpB .IsNot (frzD (slotV 9)) (coD (frzD (ret (.val .non)))))])
    (seqS (asgS 7 (ixV (slotC 9) (frzD (ret (.val (.int 1)))))) (seqS (asgS 9 (ret (.val .non))) nextS))
    nextS) nextS)) nextS)) nextS)) nextS)) nextS)) (seqS (retS (tupV (consA (frzD (bnd (consC (coD (frzD (slotV 3))) (consC (coD (frzD (slotV 5))) (consC (coD (frzD (slotV 1))) (consC (coD (frzD (slotV 6))) (consC (coD (frzD (slotV 7))) nilC))))) (runFn 5 F_steps__next_line))) (consA (frzD (slotV 6)) (consA (frzD (slotV 7)) (consA (frzD (slotV 8)) (consA (frzD (slotV 9)) (consA (frzD (slotV 10)) (consA (frzD (slotV 11)) (ret [])))))))))) nextS)))))
def F_steps__gone_on : FM := semF 3 12 c_steps__gone_on
def c_steps__to_be_told : SDen := (seqS (asgT (.tup [(.name 2), (.name 3), (.name 4), (.name 5), (.name 6), (.name 7), (.name 8)]) (frzD (slotV 0))) (seqS (retS (tupV (consA (frzD (slotV 2)) (consA (frzD (slotV 3)) (consA (frzD (slotV 4)) (consA (frzD (slotV 5)) (consA (frzD (tupV (consA (frzD (ret (.val (.str ("told" : Str))))) (consA (frzD (slotV 1)) (ret []))))) (consA (frzD (slotV 7)) (consA (frzD (slotV 8)) (ret [])))))))))) nextS))
def F_steps__to_be_told : FM := semF 2 9 c_steps__to_be_told
def c_steps_puts : SDen := (seqS (retS (orV [(blV (cmpB .Gt (frzD (slotV 1)) (slotC 2))), (notV (fldV ("remembering" : Str) (slotC 0)))])) nextS)
def F_steps_puts : FM := semF 3 3 c_steps_puts
def c_steps__laid : SDen := (seqS (asgT (.tup [(.name 2), (.name 3), (.name 4), (.name 5), (.name 6), (.name 7), (.name 8)]) (frzD (slotV 1))) (seqS (ifS (notB (truC (coD (frzD (bnd (consC (coD (frzD (slotV 0))) (consC (coD (frzD (slotV 6))) (consC (coD (frzD (slotV 7))) nilC))) (runFn 3 F_steps_puts))))))
    (seqS (retN 1) nextS)
    nextS) (seqS (ifS (truC (coD (frzD (fldV ("piling" : Str) (slotC 0)))))
    (seqS (asgS 8 (binV .Add (slotC 8) (coD (frzD (ret (.val (.int 1))))))) nextS)
    nextS) (seqS (retS (tupV (consA (frzD (slotV 2)) (consA (frzD (slotV 3)) (consA (frzD (slotV 4)) (consA (frzD (slotV 5)) (consA (frzD (slotV 6)) (consA (frzD (callA maxD (consA (frzD (slotV 7)) (consA (frzD (slotV 6)) (ret []))))) (consA (frzD (slotV 8)) (ret [])))))))))) nextS))))
def F_steps__laid : FM := semF 2 9 c_steps__laid
def c_steps_after : SDen := (seqS (ifS (cmpB .Eq (frzD (slotV 3)) (coD (frzD (ret (.val con_GO_ON)))))
    (seqS (retS (bnd (consC (coD (frzD (slotV 0))) (consC (coD (frzD (slotV 1))) (consC (coD (frzD (slotV 2))) nilC))) (runFn 3 F_steps__gone_on))) nextS)
    nextS) (seqS (ifS (cmpB .Eq (frzD (slotV 3)) (coD (frzD (ret (.val con_LIE)))))
    (seqS (retS (bnd (consC (coD (frzD (bnd (consC (coD (frzD (slotV 0))) (consC (coD (frzD (slotV 2))) nilC)) (runFn 2 F_steps__laid)))) (consC (coD (frzD (ret (.val (.bl true))))) nilC)) (runFn 2 F_steps__to_be_told))) nextS)
    nextS) (seqS (ifS (cmpB .Eq (frzD (slotV 3)) (coD (frzD (ret (.val con_JAM)))))
    (seqS (retS (bnd (consC (coD (frzD (slotV 2))) (consC (coD (frzD (notV (fldV ("telling" : Str) (slotC 0))))) nilC)) (runFn 2 F_steps__to_be_told))) nextS)
    nextS) (seqS (ifS (cmpB .Eq (frzD (slotV 3)) (coD (frzD (ret (.val con_CUT_LYING)))))
    (seqS (retS (bnd (consC (coD (frzD (bnd (consC (coD (frzD (slotV 0))) (consC (coD (frzD (slotV 2))) nilC)) (runFn 2 F_steps__laid)))) nilC) (runFn 1 F_steps__cut))) nextS)
    nextS) (seqS (retS (bnd (consC (coD (frzD (slotV 2))) nilC) (runFn 1 F_steps__cut))) nextS)))))
def F_steps_after : FM := semF 4 4 c_steps_after
def con_MOST_NUMBER : D := (.int 1000000000)
def c_moments__check_pages : SDen := (seqS (ifS (notB (truC (coD (frzD (bnd (consC (coD (frzD (slotV 0))) (consC (coD (frzD (ret (.val (.int 0))))) (consC (coD (frzD (ret (.val con_MOST_NUMBER)))) nilC))) (runFn 3 F_values_is_number))))))
    (seqS (raiseS ("BadValue" : Str) (frzD (ret (.val (.int 3))))) nextS)
    nextS) nextS)
def F_moments__check_pages : FM := semF 1 1 c_moments__check_pages
def P_remembers : Str → Option FM := fun c => [(("Printer" : Str), F_Printer_remembers)].lookup c
def P_tells : Str → Option FM := fun c => [(("Printer" : Str), F_Printer_tells)].lookup c
def c_House___init__ : SDen := (seqS (setFS 0 ("rows" : Str) (frzD (getV P_lines (slotC 2)))) (seqS (setFS 0 ("piling" : Str) (frzD (bnd (consC (coD (frzD (slotV 2))) nilC) (runFn 1 F_plans_asks_count)))) (seqS (setFS 0 ("remembering" : Str) (frzD (getV P_remembers (slotC 1)))) (seqS (setFS 0 ("telling" : Str) (frzD (getV P_tells (slotC 1)))) nextS))))
def F_House___init__ : FM := semF 3 3 c_House___init__
def c_moments__are_numbers : SDen := (seqS (retS (call1D allD (frzD (lcF (itemsF (frzD (slotV 0))) (frzD (bnd (consC (coD (frzD (slotV 1))) (consC (coD (frzD (negV (frzD (ret (.val con_MOST_NUMBER)))))) (consC (coD (frzD (ret (.val con_MOST_NUMBER)))) nilC))) (runFn 3 F_values_is_number))) (ret true) (.name 1) [1])))) nextS)
def F_moments__are_numbers : FM := semF 1 2 c_moments__are_numbers
def c_moments__is_way : SDen := (seqS (retS (orV [(blV (cmpB .Is (frzD (slotV 0)) (coD (frzD (ret (.val .non)))))), (bnd (consC (coD (frzD (slotV 0))) nilC) (runFn 1 F_values_is_told)), (bnd (consC (coD (frzD (slotV 0))) (consC (coD (frzD (negV (frzD (ret (.val con_MOST_NUMBER)))))) (consC (coD (frzD (ret (.val con_MOST_NUMBER)))) nilC))) (runFn 3 F_values_is_number))])) nextS)
def F_moments__is_way : FM := semF 1 1 c_moments__is_way
def c_moments__is_moment : SDen := (seqS (ifS (orB [(notB (truC (coD (frzD (bnd (consC (coD (frzD (slotV 1))) nilC) (runFn 1 F_values_is_sequence)))))), (cmpB .NotEq (frzD (call1C lenD (slotC 1))) (coD (frzD (ret (.val (.int 7))))))])
    (seqS (retS (ret (.val (.bl false)))) nextS)
    nextS) (seqS (asgT (.tup [(.name 2), (.name 3), (.name 4), (.name 5), (.name 6), (.name 7), (.name 8)]) (frzD (slotV 1))) (seqS (ifS (andB [(cmpB .IsNot (frzD (slotV 2)) (coD (frzD (ret (.val .non))))), (notB (truC (coD (frzD (bnd (consC (coD (frzD (slotV 2))) (consC (coD (frzD (ret (.val (.int 0))))) (consC (coD (frzD (binV .Sub (coD (frzD (call1C lenD (coD (frzD (fldV ("rows" : Str) (slotC 0))))))) (coD (frzD (ret (.val (.int 1)))))))) nilC))) (runFn 3 F_values_is_number))))))])
    (seqS (retS (ret (.val (.bl false)))) nextS)
    nextS) (seqS (ifS (notB (truC (coD (frzD (bnd (consC (coD (frzD (lstV (consA (frzD (slotV 3)) (consA (frzD (slotV 5)) (consA (frzD (slotV 7)) (consA (frzD (slotV 8)) (ret [])))))))) nilC) (runFn 1 F_moments__are_numbers))))))
    (seqS (retS (ret (.val (.bl false)))) nextS)
    nextS) (seqS (ifS (andB [(cmpB .NotEq (frzD (slotV 8)) (coD (frzD (ret (.val (.int 0)))))), (notB (truC (coD (frzD (fldV ("piling" : Str) (slotC 0))))))])
    (seqS (retS (ret (.val (.bl false)))) nextS)
    nextS) (seqS (retS (andV [(bnd (consC (coD (frzD (slotV 4))) nilC) (runFn 1 F_values_is_flag)), (bnd (consC (coD (frzD (slotV 6))) nilC) (runFn 1 F_moments__is_way))])) nextS))))))
def F_moments__is_moment : FM := semF 2 9 c_moments__is_moment
def c_moments_choices : SDen := (seqS (dropS (bnd (consC (coD (frzD (slotV 0))) (consC (coD (frzD (slotV 1))) nilC)) (runFn 2 F_plans_check_fit))) (seqS (dropS (bnd (consC (coD (frzD (slotV 2))) nilC) (runFn 1 F_moments__check_pages))) (seqS (asgS 4 (valD (frzD (bnd (consC (coD (frzD (slotV 0))) (consC (coD (frzD (slotV 1))) nilC)) (newV ("House" : Str) 2 F_House___init__))))) (seqS (ifS (notB (truC (coD (frzD (bnd (consC (coD (frzD (slotV 4))) (consC (coD (frzD (slotV 3))) nilC)) (runFn 2 F_moments__is_moment))))))
    (seqS (raiseS ("BadValue" : Str) (frzD (ret (.val (.int 4))))) nextS)
    nextS) (seqS (retS (bnd (consC (coD (frzD (slotV 4))) (consC (coD (frzD (slotV 3))) nilC)) (runFn 2 F_steps_open_choices))) nextS)))))
def F_moments_choices : FM := semF 4 5 c_moments_choices
def con_FIRST_MOMENT : D := (.tup [(.int 0), (.int 0), (.bl false), (.int 0), .non, (.int 0), (.int 0)])
def c_moments_moment : SDen := (seqS (dropS (bnd (consC (coD (frzD (slotV 0))) (consC (coD (frzD (slotV 1))) nilC)) (runFn 2 F_plans_check_fit))) (seqS (dropS (bnd (consC (coD (frzD (slotV 2))) nilC) (runFn 1 F_moments__check_pages))) (seqS (ifS (notB (truC (coD (frzD (bnd (consC (coD (frzD (slotV 3))) nilC) (runFn 1 F_values_is_sequence))))))
    (seqS (raiseS ("BadValue" : Str) (frzD (ret (.val (.int 4))))) nextS)
    nextS) (seqS (asgS 4 (valD (frzD (bnd (consC (coD (frzD (slotV 0))) (consC (coD (frzD (slotV 1))) nilC)) (newV ("House" : Str) 2 F_House___init__))))) (seqS (asgS 5 (ret (.val con_FIRST_MOMENT))) (seqS (forF (itemsF (frzD (slotV 3))) (.name 6)
    (seqS (ifS (notB (truC (coD (frzD (bnd (consC (coD (frzD (slotV 4))) (consC (coD (frzD (slotV 5))) (consC (coD (frzD (slotV 6))) nilC))) (runFn 3 F_steps_is_choice))))))
    (seqS (raiseS ("BadValue" : Str) (frzD (ret (.val (.int 4))))) nextS)
    nextS) (seqS (asgS 5 (bnd (consC (coD (frzD (slotV 4))) (consC (coD (frzD (slotV 2))) (consC (coD (frzD (slotV 5))) (consC (coD (frzD (slotV 6))) nilC)))) (runFn 4 F_steps_after))) nextS))) (seqS (retN 5) nextS)))))))
def F_moments_moment : FM := semF 4 7 c_moments_moment
def c__law_wide : SDen := (seqS (asgS 3 (bnd (consC (coD (frzD (slotV 0))) (consC (slotC 1) (consC (coD (frzD (ret (.val (.int 997))))) nilC))) (runFn 3 F__law_take))) (seqS (asgS 4 (bnd (consC (coD (frzD (slotV 0))) (consC (slotC 1) (consC (coD (frzD (ret (.val (.int 997))))) nilC))) (runFn 3 F__law_take))) (seqS (asgS 5 (bnd (consC (coD (frzD (slotV 0))) (consC (slotC 1) (consC (coD (frzD (ret (.val (.int 997))))) nilC))) (runFn 3 F__law_take))) (seqS (retS (binV .Mod (coD (frzD (call1D intX (frzD (binV .Add (coD (frzD (binV .Add (coD (frzD (binV .Mult (slotC 3) (coD (frzD (ret (.val (.int 994009)))))))) (coD (frzD (binV .Mult (slotC 4) (coD (frzD (ret (.val (.int 997))))))))))) (slotC 5)))))) (slotC 2))) nextS))))
def F__law_wide : FM := semF 3 6 c__law_wide
def c__law_numeric : SDen := (seqS (retS (andV [(askV (isTn "int") (slotC 0)), (notV (askV (isTn "bool") (slotC 0)))])) nextS)
def F__law_numeric : FM := semF 1 1 c__law_numeric
def c__law_first : SDen := (seqS (retS (tupV (consA (frzD (ret (.val (.int 0)))) (consA (frzD (ret (.val (.int 0)))) (consA (frzD (ret (.val (.bl false)))) (consA (frzD (ret (.val (.int 0)))) (consA (frzD (ret (.val .non))) (consA (frzD (ret (.val (.int 0)))) (consA (frzD (ret (.val (.int 0)))) (ret [])))))))))) nextS)
def F__law_first : FM := semF 0 0 c__law_first
def c__law_goes : SDen := (seqS (ifS (cmpB .Is (frzD (ixV (slotC 1) (frzD (ret (.val (.int 0)))))) (coD (frzD (ret (.val .non)))))
    (seqS (retS (ret (.val (.bl false)))) nextS)
    nextS) (seqS (retS (notV (andV [(bnd (consC (coD (frzD (ixV (slotC 1) (frzD (ret (.val (.int 4))))))) nilC) (runFn 1 F__law_numeric)), (blV (cmpB .In (frzD (ixV (coD (frzD (ixV (coD (frzD (ixV (slotC 0) (frzD (ret (.val (.int 1))))))) (frzD (ixV (slotC 1) (frzD (ret (.val (.int 0))))))))) (frzD (ret (.val (.int 0)))))) (coD (frzD (lstV (consA (frzD (ret (.val (.str ("send" : Str))))) (consA (frzD (ret (.val (.str ("wait" : Str))))) (ret []))))))))]))) nextS))
def F__law_goes : FM := semF 2 2 c__law_goes
def c__law_choices : SDen := (seqS (asgS 2 (lstV (ret []))) (seqS (ifS (truC (coD (frzD (bnd (consC (coD (frzD (slotV 0))) (consC (coD (frzD (slotV 1))) nilC)) (runFn 2 F__law_goes)))))
    (seqS (appS 2 (frzD (ret (.val (.int 0))))) nextS)
    nextS) (seqS (ifS (truC (coD (frzD (bnd (consC (coD (frzD (ixV (slotC 1) (frzD (ret (.val (.int 4))))))) nilC) (runFn 1 F__law_numeric)))))
    (seqS (asgS 2 (binV .Add (slotC 2) (coD (frzD (lstV (consA (frzD (ret (.val (.int 1)))) (consA (frzD (ret (.val (.int 2)))) (ret [])))))))) (seqS (ifS (cmpB .IsNot (frzD (ixV (slotC 1) (frzD (ret (.val (.int 0)))))) (coD (frzD (ret (.val .non)))))
    (seqS (asgS 2 (binV .Add (slotC 2) (coD (frzD (lstV (consA (frzD (ret (.val (.int 3)))) (consA (frzD (ret (.val (.int 4)))) (ret [])))))))) nextS)
    nextS) nextS))
    (seqS (ifS (cmpB .IsNot (frzD (ixV (slotC 1) (frzD (ret (.val (.int 0)))))) (coD (frzD (ret (.val .non)))))
    (seqS (appS 2 (frzD (ret (.val (.int 5))))) nextS)
    nextS) nextS)) (seqS (retN 2) nextS))))
def F__law_choices : FM := semF 2 3 c__law_choices
def c__law_lies : SDen := (seqS (asgS 2 (ixV (slotC 1) (frzD (ret (.val (.int 4)))))) (seqS (ifS (andB [(truC (coD (frzD (ixV (coD (frzD (ixV (slotC 0) (frzD (ret (.val (.int 0))))))) (frzD (ret (.val (.int 1)))))))), (cmpB .LtE (frzD (slotV 2)) (coD (frzD (ixV (slotC 1) (frzD (ret (.val (.int 5))))))))])
    (seqS (retS (tupV (consA (frzD (binV .Add (coD (frzD (binV .Add (coD (frzD (slcV (slotC 1) noPart (part (frzD (ret (.val (.int 4)))))))) (coD (frzD (tupV (consA (frzD (tupV (consA (frzD (ret (.val (.str ("told" : Str))))) (consA (frzD (ret (.val (.bl true)))) (ret []))))) (ret [])))))))) (coD (frzD (slcV (slotC 1) (part (frzD (ret (.val (.int 5))))) noPart))))) (consA (frzD (ret (.val .non))) (ret []))))) nextS)
    nextS) (seqS (asgS 3 (ifV (cmpB .In (frzD (tupV (consA (frzD (ret (.val (.str ("count" : Str))))) (ret [])))) (coD (frzD (ixV (slotC 0) (frzD (ret (.val (.int 1)))))))) (binV .Add (coD (frzD (ixV (slotC 1) (frzD (ret (.val (.int 6))))))) (coD (frzD (ret (.val (.int 1)))))) (ret (.val (.int 0))))) (seqS (retS (tupV (consA (frzD (binV .Add (coD (frzD (slcV (slotC 1) noPart (part (frzD (ret (.val (.int 4)))))))) (coD (frzD (tupV (consA (frzD (tupV (consA (frzD (ret (.val (.str ("told" : Str))))) (consA (frzD (ret (.val (.bl true)))) (ret []))))) (consA (frzD (callA maxD (consA (frzD (ixV (slotC 1) (frzD (ret (.val (.int 5)))))) (consA (frzD (slotV 2)) (ret []))))) (consA (frzD (slotV 3)) (ret []))))))))) (consA (frzD (slotV 2)) (ret []))))) nextS))))
def F__law_lies : FM := semF 2 4 c__law_lies
def c__law_house : SDen := (seqS (asgS 3 (ixV (coD (frzD (ixV (slotC 0) (frzD (ret (.val (.int 1))))))) (frzD (ixV (slotC 2) (frzD (ret (.val (.int 0)))))))) (seqS (asgS 4 (binV .Add (coD (frzD (ixV (slotC 2) (frzD (ret (.val (.int 0))))))) (coD (frzD (ret (.val (.int 1))))))) (seqS (asgS 5 (ixV (slotC 2) (frzD (ret (.val (.int 1)))))) (seqS (asgS 6 (ixV (slotC 2) (frzD (ret (.val (.int 2)))))) (seqS (asgS 7 (ixV (slotC 2) (frzD (ret (.val (.int 3)))))) (seqS (asgS 8 (ixV (slotC 2) (frzD (ret (.val (.int 4)))))) (seqS (ifS (cmpB .Eq (frzD (ixV (slotC 3) (frzD (ret (.val (.int 0)))))) (coD (frzD (ret (.val (.str ("recall" : Str)))))))
    (seqS (asgS 5 (slotV 7)) nextS)
    nextS) (seqS (ifS (cmpB .Eq (frzD (ixV (slotC 3) (frzD (ret (.val (.int 0)))))) (coD (frzD (ret (.val (.str ("note" : Str)))))))
    (seqS (asgS 7 (slotV 5)) nextS)
    nextS) (seqS (ifS (cmpB .Eq (frzD (ixV (slotC 3) (frzD (ret (.val (.int 0)))))) (coD (frzD (ret (.val (.str ("count" : Str)))))))
    (seqS (asgS 5 (ixV (slotC 2) (frzD (ret (.val (.int 6)))))) nextS)
    nextS) (seqS (ifS (cmpB .Eq (frzD (ixV (slotC 3) (frzD (ret (.val (.int 0)))))) (coD (frzD (ret (.val (.str ("add" : Str)))))))
    (seqS (asgS 5 (binV .Add (slotC 5) (coD (frzD (ret (.val (.int 1))))))) nextS)
    nextS) (seqS (ifS (cmpB .Eq (frzD (ixV (slotC 3) (frzD (ret (.val (.int 0)))))) (coD (frzD (ret (.val (.str ("send" : Str)))))))
    (seqS (asgS 8 (slotV 5)) nextS)
    nextS) (seqS (ifS (andB [(cmpB .Eq (frzD (ixV (slotC 3) (frzD (ret (.val (.int 0)))))) (coD (frzD (ret (.val (.str ("wait" : Str))))))), (truC (coD (frzD (askV (isTn "tuple") (slotC 8)))))])
    (seqS (asgS 6 (ixV (slotC 8) (frzD (ret (.val (.int 1)))))) (seqS (asgS 8 (ret (.val .non))) nextS))
    nextS) (seqS (ifS (cmpB .Eq (frzD (ixV (slotC 3) (frzD (ret (.val (.int 0)))))) (coD (frzD (ret (.val (.str ("go" : Str)))))))
    (seqS (asgS 4 (ixV (slotC 3) (frzD (ret (.val (.int 1)))))) nextS)
    nextS) (seqS (ifS (andB [(cmpB .Eq (frzD (ixV (slotC 3) (frzD (ret (.val (.int 0)))))) (coD (frzD (ret (.val (.str ("if" : Str))))))), (orB [(andB [(cmpB .Eq (frzD (ixV (slotC 3) (frzD (ret (.val (.int 1)))))) (coD (frzD (ret (.val (.str ("done" : Str))))))), (cmpB .GtE (frzD (slotV 5)) (slotC 1))]), (andB [(cmpB .Eq (frzD (ixV (slotC 3) (frzD (ret (.val (.int 1)))))) (coD (frzD (ret (.val (.str ("ok" : Str))))))), (truC (slotC 6))])])])
    (seqS (asgS 4 (ixV (slotC 3) (frzD (ret (.val (.int 2)))))) nextS)
    nextS) (seqS (ifS (cmpB .Eq (frzD (ixV (slotC 3) (frzD (ret (.val (.int 0)))))) (coD (frzD (ret (.val (.str ("end" : Str)))))))
    (seqS (asgS 4 (ret (.val .non))) nextS)
    nextS) (seqS (retS (tupV (consA (frzD (slotV 4)) (consA (frzD (slotV 5)) (consA (frzD (slotV 6)) (consA (frzD (slotV 7)) (consA (frzD (slotV 8)) (consA (frzD (ixV (slotC 2) (frzD (ret (.val (.int 5)))))) (consA (frzD (ixV (slotC 2) (frzD (ret (.val (.int 6)))))) (ret [])))))))))) nextS))))))))))))))))
def F__law_house : FM := semF 3 9 c__law_house
def c__law_step : SDen := (seqS (ifS (cmpB .Eq (frzD (slotV 3)) (coD (frzD (ret (.val (.int 0))))))
    (seqS (retS (tupV (consA (frzD (bnd (consC (coD (frzD (slotV 0))) (consC (coD (frzD (slotV 1))) (consC (coD (frzD (slotV 2))) nilC))) (runFn 3 F__law_house))) (consA (frzD (ret (.val .non))) (ret []))))) nextS)
    nextS) (seqS (ifS (cmpB .Eq (frzD (slotV 3)) (coD (frzD (ret (.val (.int 1))))))
    (seqS (retS (bnd (consC (coD (frzD (slotV 0))) (consC (coD (frzD (slotV 2))) nilC)) (runFn 2 F__law_lies))) nextS)
    nextS) (seqS (ifS (cmpB .Eq (frzD (slotV 3)) (coD (frzD (ret (.val (.int 2))))))
    (seqS (retS (tupV (consA (frzD (binV .Add (coD (frzD (binV .Add (coD (frzD (slcV (slotC 2) noPart (part (frzD (ret (.val (.int 4)))))))) (coD (frzD (tupV (consA (frzD (tupV (consA (frzD (ret (.val (.str ("told" : Str))))) (consA (frzD (notV (ixV (coD (frzD (ixV (slotC 0) (frzD (ret (.val (.int 0))))))) (frzD (ret (.val (.int 2))))))) (ret []))))) (ret [])))))))) (coD (frzD (slcV (slotC 2) (part (frzD (ret (.val (.int 5))))) noPart))))) (consA (frzD (ret (.val .non))) (ret []))))) nextS)
    nextS) (seqS (asgS 4 (tupV (consA (frzD (slotV 2)) (consA (frzD (ret (.val .non))) (ret []))))) (seqS (ifS (cmpB .Eq (frzD (slotV 3)) (coD (frzD (ret (.val (.int 3))))))
    (seqS (asgS 4 (bnd (consC (coD (frzD (slotV 0))) (consC (coD (frzD (slotV 2))) nilC)) (runFn 2 F__law_lies))) nextS)
    nextS) (seqS (retS (tupV (consA (frzD (tupV (consA (frzD (ret (.val (.int 0)))) (consA (frzD (ret (.val (.int 0)))) (consA (frzD (ret (.val (.bl false)))) (consA (frzD (ixV (slotC 2) (frzD (ret (.val (.int 3)))))) (consA (frzD (ret (.val .non))) (consA (frzD (ixV (coD (frzD (ixV (slotC 4) (frzD (ret (.val (.int 0))))))) (frzD (ret (.val (.int 5)))))) (consA (frzD (ixV (coD (frzD (ixV (slotC 4) (frzD (ret (.val (.int 0))))))) (frzD (ret (.val (.int 6)))))) (ret [])))))))))) (consA (frzD (ixV (slotC 4) (frzD (ret (.val (.int 1)))))) (ret []))))) nextS))))))
def F__law_step : FM := semF 4 5 c__law_step
def c__law_away : SDen := (seqS (retS (andV [(blV (cmpB .Gt (frzD (slotV 0)) (coD (frzD (ret (.val (.int 3))))))), (blV (cmpB .Gt (frzD (callA absD (consA (frzD (binV .Sub (slotC 0) (slotC 1))) (ret [])))) (coD (frzD (ret (.val (.int 3)))))))])) nextS)
def F__law_away : FM := semF 2 2 c__law_away
def c__law_breach : SDen := (seqS (ifS (cmpB .IsNot (frzD (slotV 4)) (coD (frzD (ret (.val .non)))))
    (seqS (ifS (orB [(cmpB .Lt (frzD (slotV 4)) (coD (frzD (ret (.val (.int 1)))))), (cmpB .Gt (frzD (slotV 4)) (slotC 1)), (cmpB .Gt (frzD (slotV 4)) (coD (frzD (binV .Add (coD (frzD (ixV (slotC 2) (frzD (ret (.val (.int 5))))))) (coD (frzD (ret (.val (.int 1))))))))), (andB [(cmpB .Eq (frzD (slotV 0)) (coD (frzD (ret (.val (.str ("once" : Str))))))), (cmpB .NotEq (frzD (slotV 4)) (coD (frzD (binV .Add (coD (frzD (ixV (slotC 2) (frzD (ret (.val (.int 5))))))) (coD (frzD (ret (.val (.int 1)))))))))])])
    (seqS (retS (ret (.val (.bl true)))) nextS)
    nextS) nextS)
    nextS) (seqS (ifS (andB [(cmpB .IsNot (frzD (ixV (slotC 2) (frzD (ret (.val (.int 0)))))) (coD (frzD (ret (.val .non))))), (cmpB .Is (frzD (ixV (slotC 3) (frzD (ret (.val (.int 0)))))) (coD (frzD (ret (.val .non))))), (orB [(truC (coD (frzD (bnd (consC (coD (frzD (ixV (slotC 3) (frzD (ret (.val (.int 4))))))) nilC) (runFn 1 F__law_numeric))))), (cmpB .NotEq (frzD (ixV (slotC 3) (frzD (ret (.val (.int 5)))))) (slotC 1))])])
    (seqS (retS (ret (.val (.bl true)))) nextS)
    nextS) (seqS (ifS (orB [(truC (coD (frzD (bnd (consC (coD (frzD (ixV (slotC 3) (frzD (ret (.val (.int 1))))))) (consC (coD (frzD (ixV (slotC 3) (frzD (ret (.val (.int 5))))))) nilC)) (runFn 2 F__law_away))))), (truC (coD (frzD (bnd (consC (coD (frzD (ixV (slotC 3) (frzD (ret (.val (.int 3))))))) (consC (coD (frzD (ixV (slotC 3) (frzD (ret (.val (.int 5))))))) nilC)) (runFn 2 F__law_away))))), (truC (coD (frzD (bnd (consC (coD (frzD (ixV (slotC 3) (frzD (ret (.val (.int 6))))))) (consC (coD (frzD (ixV (slotC 3) (frzD (ret (.val (.int 5))))))) nilC)) (runFn 2 F__law_away)))))])
    (seqS (retS (ret (.val (.bl true)))) nextS)
    nextS) (seqS (retS (andV [(bnd (consC (coD (frzD (ixV (slotC 3) (frzD (ret (.val (.int 4))))))) nilC) (runFn 1 F__law_numeric)), (bnd (consC (coD (frzD (ixV (slotC 3) (frzD (ret (.val (.int 4))))))) (consC (coD (frzD (ixV (slotC 3) (frzD (ret (.val (.int 5))))))) nilC)) (runFn 2 F__law_away))])) nextS))))
def F__law_breach : FM := semF 5 5 c__law_breach
def c__law_walk : SDen := (seqS (asgS 6 (bnd nilC (runFn 0 F__law_first))) (seqS (asgS 7 (lstV (ret []))) (seqS (forF (rngF1 (frzD (slotV 5))) (.name 8)
    (seqS (asgS 9 (bnd (consC (coD (frzD (slotV 2))) (consC (coD (frzD (slotV 6))) nilC)) (runFn 2 F__law_choices))) (seqS (ifS (cmpB .Eq (frzD (call1C lenD (slotC 9))) (coD (frzD (ret (.val (.int 0))))))
    (seqS brkS nextS)
    nextS) (seqS (asgS 10 (ixV (slotC 9) (frzD (ret (.val (.int 0)))))) (seqS (ifS (cmpB .Eq (frzD (bnd (consC (coD (frzD (slotV 0))) (consC (slotC 1) (consC (coD (frzD (ret (.val (.int 4))))) nilC))) (runFn 3 F__law_take))) (coD (frzD (ret (.val (.int 0))))))
    (seqS (asgS 10 (ixV (slotC 9) (frzD (bnd (consC (coD (frzD (slotV 0))) (consC (slotC 1) (consC (coD (frzD (call1C lenD (slotC 9)))) nilC))) (runFn 3 F__law_take))))) nextS)
    nextS) (seqS (asgS 11 (bnd (consC (coD (frzD (slotV 2))) (consC (coD (frzD (slotV 3))) (consC (coD (frzD (slotV 6))) (consC (coD (frzD (slotV 10))) nilC)))) (runFn 4 F__law_step))) (seqS (appS 7 (frzD (slotV 10))) (seqS (ifS (andB [(cmpB .IsNot (frzD (slotV 4)) (coD (frzD (ret (.val .non))))), (truC (coD (frzD (bnd (consC (coD (frzD (slotV 4))) (consC (coD (frzD (slotV 3))) (consC (coD (frzD (slotV 6))) (consC (coD (frzD (ixV (slotC 11) (frzD (ret (.val (.int 0))))))) (consC (coD (frzD (ixV (slotC 11) (frzD (ret (.val (.int 1))))))) nilC))))) (runFn 5 F__law_breach)))))])
    (seqS (retS (tupV (consA (frzD (call1C tupleD (slotC 7))) (consA (frzD (ixV (slotC 11) (frzD (ret (.val (.int 0)))))) (consA (frzD (ret (.val (.bl true)))) (ret [])))))) nextS)
    nextS) (seqS (asgS 6 (ixV (slotC 11) (frzD (ret (.val (.int 0)))))) nextS))))))))) (seqS (retS (tupV (consA (frzD (call1C tupleD (slotC 7))) (consA (frzD (slotV 6)) (consA (frzD (ret (.val (.bl false)))) (ret [])))))) nextS))))
def F__law_walk : FM := semF 6 12 c__law_walk
end Lb
set_option maxRecDepth 100000
set_option maxHeartbeats 4000000
namespace Lb
open PySem PySem.Spec PyProof.Rows L2 DI
section
def drawP (xs : List Int) (a l : Int) : Int :=
  if a < xs.length then xs.getD a.toNat 0 % l else ((xs.getD (a % xs.length).toNat 0 * 40692 + a * 7919 + 3) % 2147483399 * 48271 + a) % 2147483647 % l
theorem atI_map {xs : List Int} {i : Int} (h0 : 0 ≤ i) (h1 : i < xs.length) : L2.atI (xs.map D.int) i = some (.int (xs.getD i.toNat 0)) := by
  have e : ixN (xs.map D.int).length i = some i.toNat := by
    unfold ixN
    rw [if_pos h0, if_pos (by simpa using h1)]
  unfold L2.atI
  rw [e]
  have hl : i.toNat < xs.length := by omega
  simp [hl]
theorem draw_is {xs : List Int} {a l : Int} (h0 : 0 ≤ a) (hl : 0 < l) (hn : xs ≠ []) :
    F__law_draw [.val (.lst (xs.map .int)), .val (.int a), .val (.int l)] = some (.ret (.val (.int (drawP xs a l))) []) := by
  unfold F__law_draw
  unfold c__law_draw
  unfold drawP
  have hp : 0 < (xs.length : Int) := by
    cases xs with
    | nil => exact absurd rfl hn
    | cons x r => simp
  have hp2 : 0 < xs.length := by omega
  by_cases h1 : a < xs.length
  · have e := atI_map h0 h1
    simp [h1, hl, e]
  · have e := atI_map (xs := xs) (i := a % xs.length) (Int.emod_nonneg _ (by omega)) (Int.emod_lt_of_pos _ hp)
    simp [h1, hp, hp2, hl, e]
end
section
def digs : Nat → Int → List Int
  | 0, _ => []
  | n + 1, l => if l = 0 then [] else l % 997 :: digs n (l / 997)
theorem digs_len : ∀ (n : Nat) (l : Int), (digs n l).length ≤ n
  | 0, l => by simp [digs]
  | n + 1, l => by
    unfold digs
    split
    · simp
    · have := digs_len n (l / 997)
      simp; omega
def mixP (c : Int) (k : Int) : Int := ((c * 48271 + k * 69621 + 11) % 2147483647 * 16807 + k) % 2147483629
def cellP (c : Int) : List Int := if 10 ^ 18 ≤ c then digs 60 c else [mixP c 0, mixP c 1, mixP c 2, mixP c 3]
theorem cellP_len (c : Int) : (cellP c).length ≤ 60 := by
  unfold cellP
  split
  · exact digs_len 60 c
  · simp
def rowP (ns : List Int) : List Int := ns.flatMap cellP
def numP (ns : List Int) : List Int := if rowP (ns.take 63) = [] then [0] else rowP (ns.take 63)
theorem numP_ne (ns : List Int) : numP ns ≠ [] := by
  unfold numP
  split
  · simp
  · assumption
/-- not handed by reference -/
def Nr (s : Sl) : Prop := ∀ m, s ≠ .ref m
def bdDig : SDen := (seqS (ifS (cmpB .Eq (frzD (slotV 3)) (coD (frzD (DI.ret (.val (.int 0))))))
    (seqS brkS nextS)
    nextS) (seqS (appS 1 (frzD (binV .Mod (coD (frzD (call1D intX (frzD (slotV 3))))) (coD (frzD (DI.ret (.val (.int 997)))))))) (seqS (asgS 3 (binV .FloorDiv (slotC 3) (coD (frzD (DI.ret (.val (.int 997))))))) nextS)))
theorem dig_loop : ∀ (ds : List D) (row : List Int) (l : Int) (sc : D) (s2 s4 s5 : Sl), Nr s4 → row.length + ds.length ≤ 99999 →
    ∃ s3 s4', Nr s3 ∧ Nr s4' ∧ forL bdDig (.name 4) ds [.val sc, .own (.lst (row.map .int)), s2, .val (.int l), s4, s5] = some (.next [.val sc, .own (.lst ((row ++ digs ds.length l).map .int)), s2, s3, s4', s5])
  | [], row, l, sc, s2, s4, s5, h4, hl => ⟨.val (.int l), s4, (fun m z => by cases z), h4, by simp [forL, digs]⟩
  | d :: ds, row, l, sc, s2, s4, s5, h4, hl => by
    have st : storeV 4 d [.val sc, .own (.lst (row.map .int)), s2, .val (.int l), s4, s5] = some [.val sc, .own (.lst (row.map .int)), s2, .val (.int l), .val d, s5] := by
      unfold storeV
      cases s4 with
      | ref m => exact absurd rfl (h4 m)
      | _ => rfl
    unfold forL
    rw [show stT (.name 4) d [.val sc, .own (.lst (row.map .int)), s2, .val (.int l), s4, s5] = _ from st]
    by_cases z : l = 0
    · subst z
      refine ⟨.val (.int 0), .val d, fun m z => ?_, fun m z => ?_, ?_⟩
      · cases z
      · cases z
      · simp [bdDig, digs]
    · obtain ⟨s3, s4', n3, n4, e⟩ := dig_loop ds (row ++ [l % 997]) (l / 997) sc s2 (.val d) s5 (fun m z => by cases z) (by simp at hl ⊢; omega)
      refine ⟨s3, s4', n3, n4, ?_⟩
      have hlt : row.length < 100000 := by simp at hl; omega
      simp [bdDig, digs, z, hlt]
      simpa [bdDig] using e
def bdMix : SDen := (seqS (asgS 5 (binV .Mod (coD (frzD (call1D intX (frzD (binV .Add (coD (frzD (binV .Add (coD (frzD (binV .Mult (slotC 2) (coD (frzD (DI.ret (.val (.int 48271)))))))) (coD (frzD (binV .Mult (slotC 4) (coD (frzD (DI.ret (.val (.int 69621))))))))))) (coD (frzD (DI.ret (.val (.int 11)))))))))) (coD (frzD (DI.ret (.val (.int 2147483647))))))) (seqS (appS 1 (frzD (binV .Mod (coD (frzD (call1D intX (frzD (binV .Add (coD (frzD (binV .Mult (slotC 5) (coD (frzD (DI.ret (.val (.int 16807)))))))) (slotC 4)))))) (coD (frzD (DI.ret (.val (.int 2147483629)))))))) nextS))
theorem mix_turn {k : Int} {row : List Int} {c : Int} {sc : D} {s3 s5 : Sl} (h5 : Nr s5) (hl : row.length < 100000) :
    bdMix [.val sc, .own (.lst (row.map .int)), .val (.int c), s3, .val (.int k), s5] = some (.next [.val sc, .own (.lst ((row ++ [mixP c k]).map .int)), .val (.int c), s3, .val (.int k), .val (.int ((c * 48271 + k * 69621 + 11) % 2147483647))]) := by
  cases s5 with
  | ref m => exact absurd rfl (h5 m)
  | no => simp [bdMix, hl, mixP]
  | val d => simp [bdMix, hl, mixP]
  | own m => simp [bdMix, hl, mixP]
theorem mix_loop : ∀ (ks : List Int) (row : List Int) (c : Int) (sc : D) (s3 s4 s5 : Sl), Nr s4 → Nr s5 → row.length + ks.length ≤ 99999 →
    ∃ s4' s5', Nr s4' ∧ Nr s5' ∧ forL bdMix (.name 4) (ks.map .int) [.val sc, .own (.lst (row.map .int)), .val (.int c), s3, s4, s5] = some (.next [.val sc, .own (.lst ((row ++ ks.map (mixP c)).map .int)), .val (.int c), s3, s4', s5'])
  | [], row, c, sc, s3, s4, s5, h4, h5, hl => ⟨s4, s5, h4, h5, by simp [forL]⟩
  | k :: ks, row, c, sc, s3, s4, s5, h4, h5, hl => by
    have st : storeV 4 (.int k) [.val sc, .own (.lst (row.map .int)), .val (.int c), s3, s4, s5] = some [.val sc, .own (.lst (row.map .int)), .val (.int c), s3, .val (.int k), s5] := by
      unfold storeV
      cases s4 with
      | ref m => exact absurd rfl (h4 m)
      | _ => rfl
    obtain ⟨s4', s5', n4, n5, e⟩ := mix_loop ks (row ++ [mixP c k]) c sc s3 (.val (.int k)) (.val (.int ((c * 48271 + k * 69621 + 11) % 2147483647))) (fun m z => by cases z) (fun m z => by cases z) (by simp at hl ⊢; omega)
    refine ⟨s4', s5', n4, n5, ?_⟩
    rw [List.map_cons]
    unfold forL
    rw [show stT (.name 4) (.int k) [.val sc, .own (.lst (row.map .int)), .val (.int c), s3, s4, s5] = _ from st]
    dsimp only
    rw [mix_turn h5 (by simp at hl; omega)]
    dsimp only
    rw [e]
    simp
def bdCell : SDen := seqS (ifS (cmpB .GtE (frzD (slotV 2)) (coD (frzD (binV .Pow (coD (frzD (DI.ret (.val (.int 10))))) (coD (frzD (DI.ret (.val (.int 18)))))))))
  (seqS (asgS 3 (slotV 2)) (seqS (forF (rngF1 (frzD (DI.ret (.val (.int 60))))) (.name 4) bdDig) nextS))
  (seqS (forF (rngF1 (frzD (DI.ret (.val (.int 4))))) (.name 4) bdMix) nextS)) nextS
theorem rng4 : rngL 0 4 = [0, 1, 2, 3].map D.int := by rfl
theorem cell_turn {row : List Int} {c : Int} {sc : D} {s3 s4 s5 : Sl} (h3 : Nr s3) (h4 : Nr s4) (h5 : Nr s5) (hl : row.length + 60 ≤ 99999) :
    ∃ s3' s4' s5', Nr s3' ∧ Nr s4' ∧ Nr s5' ∧ bdCell [.val sc, .own (.lst (row.map .int)), .val (.int c), s3, s4, s5] = some (.next [.val sc, .own (.lst ((row ++ cellP c).map .int)), .val (.int c), s3', s4', s5']) := by
  have h3' : storeR 3 (.val (.int c)) [.val sc, .own (.lst (row.map .int)), .val (.int c), s3, s4, s5] = some [.val sc, .own (.lst (row.map .int)), .val (.int c), .val (.int c), s4, s5] := by
    unfold storeR
    cases s3 with
    | ref m => exact absurd rfl (h3 m)
    | _ => rfl
  by_cases hc : 10 ^ 18 ≤ c
  · obtain ⟨s3', s4', n3, n4, e⟩ := dig_loop (rngL 0 60) row c sc (.val (.int c)) s4 s5 h4 (by simp [rngL]; omega)
    refine ⟨s3', s4', s5, n3, n4, h5, ?_⟩
    rw [rngL_len] at e
    have hc2 : (1000000000000000000 : Int) ≤ c := hc
    have hk : cellP c = digs 60 c := if_pos hc
    rw [hk]
    simp [-ev_storeR, bdCell, hc2, h3', rngOk, e]
  · obtain ⟨s4', s5', n4, n5, e⟩ := mix_loop [0, 1, 2, 3] row c sc s3 s4 s5 h4 h5 (by simp; omega)
    refine ⟨s3, s4', s5', h3, n4, n5, ?_⟩
    rw [← rng4] at e
    have hc2 : ¬ (1000000000000000000 : Int) ≤ c := hc
    have hk : cellP c = [0, 1, 2, 3].map (mixP c) := if_neg hc
    rw [hk]
    simp [-ev_storeR, bdCell, hc2, rngOk, e]
theorem row_loop : ∀ (cs : List Int) (row : List Int) (sc : D) (s2 s3 s4 s5 : Sl), Nr s2 → Nr s3 → Nr s4 → Nr s5 → row.length + 60 * cs.length ≤ 90000 →
    ∃ s2' s3' s4' s5', Nr s2' ∧ forL bdCell (.name 2) (cs.map .int) [.val sc, .own (.lst (row.map .int)), s2, s3, s4, s5] = some (.next [.val sc, .own (.lst ((row ++ rowP cs).map .int)), s2', s3', s4', s5'])
  | [], row, sc, s2, s3, s4, s5, h2, h3, h4, h5, hl => ⟨s2, s3, s4, s5, h2, by simp [forL, rowP]⟩
  | c :: cs, row, sc, s2, s3, s4, s5, h2, h3, h4, h5, hl => by
    have st : storeV 2 (.int c) [.val sc, .own (.lst (row.map .int)), s2, s3, s4, s5] = some [.val sc, .own (.lst (row.map .int)), .val (.int c), s3, s4, s5] := by
      unfold storeV
      cases s2 with
      | ref m => exact absurd rfl (h2 m)
      | _ => rfl
    have hc := cellP_len c
    simp only [List.length_cons] at hl
    obtain ⟨s3', s4', s5', n3, n4, n5, e1⟩ := cell_turn (row := row) (c := c) (sc := sc) h3 h4 h5 (by omega)
    obtain ⟨t2, t3, t4, t5, n2, e⟩ := row_loop cs (row ++ cellP c) sc (.val (.int c)) s3' s4' s5' (fun m z => by cases z) n3 n4 n5 (by simp only [List.length_append]; omega)
    refine ⟨t2, t3, t4, t5, n2, ?_⟩
    rw [List.map_cons]
    unfold forL
    rw [show stT (.name 2) (.int c) [.val sc, .own (.lst (row.map .int)), s2, s3, s4, s5] = _ from st]
    dsimp only
    rw [e1]
    dsimp only
    rw [e, List.append_assoc]
    rfl
theorem cut63 (ns : List Int) : DI.cutD (ns.map D.int) none (some 63) = (ns.take 63).map D.int := by
  unfold DI.cutD
  rw [show (63 : Int) = ((63 : Nat) : Int) from rfl, HT.sIx_nat, HT.sIx_none]
  rw [List.drop_zero, Nat.sub_zero, List.map_take]
  by_cases h : 63 ≤ (ns.map D.int).length
  · rw [Nat.min_eq_left h]
  · rw [Nat.min_eq_right (by omega), List.take_length, List.take_of_length_le (by omega)]
theorem numbers_is (ns : List Int) : F__law_numbers [.val (.fls (ns.map .int))] = some (.ret (.new (.lst ((numP ns).map .int))) []) := by
  unfold F__law_numbers
  rw [show c__law_numbers = seqS (asgS 1 (lstV (DI.ret []))) (seqS (forF (itemsF (frzD (slcV (slotC 0) noPart (part (frzD (DI.ret (.val (.int 63)))))))) (.name 2) bdCell)
    (seqS (ifS (cmpB .Eq (frzD (call1C lenD (slotC 1))) (coD (frzD (DI.ret (.val (.int 0)))))) (seqS (appS 1 (frzD (DI.ret (.val (.int 0))))) nextS) nextS) (seqS (retN 1) nextS))) from rfl]
  obtain ⟨s2, s3, s4, s5, n2, e⟩ := row_loop (ns.take 63) [] (.fls (ns.map .int)) .no .no .no .no (fun m z => by cases z) (fun m z => by cases z) (fun m z => by cases z) (fun m z => by cases z) (by
    have : (ns.take 63).length ≤ 63 := List.length_take_le _ _
    simp only [List.length_nil]
    omega)
  rw [List.nil_append, List.map_nil, List.map_take] at e
  by_cases h : rowP (ns.take 63) = []
  · have hn : numP ns = [0] := if_pos h
    rw [hn]
    rw [h] at e
    simp [slcD, cut63, itemsD, e, Option.bind]
  · have hn : numP ns = rowP (ns.take 63) := if_neg h
    rw [hn]
    have hz : (rowP (ns.take 63)).length ≠ 0 := fun z => h (List.length_eq_zero_iff.mp z)
    simp [slcD, cut63, itemsD, e, h]
end
section
theorem ix1 (x : D) : L2.atI [x] 0 = some x := rfl
theorem ixN1 : ixN 1 0 = some 0 := rfl
theorem take_is {xs : List Int} {s l : Int} (h0 : 0 ≤ s) (hl : 0 < l) (hn : xs ≠ []) :
    F__law_take [.val (.lst (xs.map .int)), .ref (.lst [.int s]), .val (.int l)] = some (.ret (.val (.int (drawP xs s l))) [(1, .lst [.int (s + 1)])]) := by
  unfold F__law_take
  unfold c__law_take
  have e := draw_is (xs := xs) h0 hl hn
  simp [ix1, ixN1, e]
end
end Lb
set_option maxRecDepth 100000
set_option maxHeartbeats 4000000
namespace Lb
open PySem PySem.Spec PyProof.Rows L2 DI
/-! ### words -/
theorem ok_recall : PyData.strOk ("recall" : Str) = true := by decide +kernel
theorem ok_note : PyData.strOk ("note" : Str) = true := by decide +kernel
theorem ok_count : PyData.strOk ("count" : Str) = true := by decide +kernel
theorem ok_add : PyData.strOk ("add" : Str) = true := by decide +kernel
theorem ok_send : PyData.strOk ("send" : Str) = true := by decide +kernel
theorem ok_wait : PyData.strOk ("wait" : Str) = true := by decide +kernel
theorem ok_end : PyData.strOk ("end" : Str) = true := by decide +kernel
theorem ok_go : PyData.strOk ("go" : Str) = true := by decide +kernel
theorem ok_if : PyData.strOk ("if" : Str) = true := by decide +kernel
theorem ok_done : PyData.strOk ("done" : Str) = true := by decide +kernel
theorem ok_ok : PyData.strOk ("ok" : Str) = true := by decide +kernel
theorem ok_told : PyData.strOk ("told" : Str) = true := by decide +kernel
theorem ok_once : PyData.strOk ("once" : Str) = true := by decide +kernel
@[simp] theorem eqw_recall_recall : eqD (.str ("recall" : Str)) (.str ("recall" : Str)) = some true := by rw [eqD_str ok_recall ok_recall]; decide
@[simp] theorem eqw_recall_note : eqD (.str ("recall" : Str)) (.str ("note" : Str)) = some false := by rw [eqD_str ok_recall ok_note]; decide
@[simp] theorem eqw_recall_count : eqD (.str ("recall" : Str)) (.str ("count" : Str)) = some false := by rw [eqD_str ok_recall ok_count]; decide
@[simp] theorem eqw_recall_add : eqD (.str ("recall" : Str)) (.str ("add" : Str)) = some false := by rw [eqD_str ok_recall ok_add]; decide
@[simp] theorem eqw_recall_send : eqD (.str ("recall" : Str)) (.str ("send" : Str)) = some false := by rw [eqD_str ok_recall ok_send]; decide
@[simp] theorem eqw_recall_wait : eqD (.str ("recall" : Str)) (.str ("wait" : Str)) = some false := by rw [eqD_str ok_recall ok_wait]; decide
@[simp] theorem eqw_recall_end : eqD (.str ("recall" : Str)) (.str ("end" : Str)) = some false := by rw [eqD_str ok_recall ok_end]; decide
@[simp] theorem eqw_recall_go : eqD (.str ("recall" : Str)) (.str ("go" : Str)) = some false := by rw [eqD_str ok_recall ok_go]; decide
@[simp] theorem eqw_recall_if : eqD (.str ("recall" : Str)) (.str ("if" : Str)) = some false := by rw [eqD_str ok_recall ok_if]; decide
@[simp] theorem eqw_recall_done : eqD (.str ("recall" : Str)) (.str ("done" : Str)) = some false := by rw [eqD_str ok_recall ok_done]; decide
@[simp] theorem eqw_recall_ok : eqD (.str ("recall" : Str)) (.str ("ok" : Str)) = some false := by rw [eqD_str ok_recall ok_ok]; decide
@[simp] theorem eqw_recall_told : eqD (.str ("recall" : Str)) (.str ("told" : Str)) = some false := by rw [eqD_str ok_recall ok_told]; decide
@[simp] theorem eqw_recall_once : eqD (.str ("recall" : Str)) (.str ("once" : Str)) = some false := by rw [eqD_str ok_recall ok_once]; decide
@[simp] theorem eqw_note_recall : eqD (.str ("note" : Str)) (.str ("recall" : Str)) = some false := by rw [eqD_str ok_note ok_recall]; decide
@[simp] theorem eqw_note_note : eqD (.str ("note" : Str)) (.str ("note" : Str)) = some true := by rw [eqD_str ok_note ok_note]; decide
@[simp] theorem eqw_note_count : eqD (.str ("note" : Str)) (.str ("count" : Str)) = some false := by rw [eqD_str ok_note ok_count]; decide
@[simp] theorem eqw_note_add : eqD (.str ("note" : Str)) (.str ("add" : Str)) = some false := by rw [eqD_str ok_note ok_add]; decide
@[simp] theorem eqw_note_send : eqD (.str ("note" : Str)) (.str ("send" : Str)) = some false := by rw [eqD_str ok_note ok_send]; decide
@[simp] theorem eqw_note_wait : eqD (.str ("note" : Str)) (.str ("wait" : Str)) = some false := by rw [eqD_str ok_note ok_wait]; decide
@[simp] theorem eqw_note_end : eqD (.str ("note" : Str)) (.str ("end" : Str)) = some false := by rw [eqD_str ok_note ok_end]; decide
@[simp] theorem eqw_note_go : eqD (.str ("note" : Str)) (.str ("go" : Str)) = some false := by rw [eqD_str ok_note ok_go]; decide
@[simp] theorem eqw_note_if : eqD (.str ("note" : Str)) (.str ("if" : Str)) = some false := by rw [eqD_str ok_note ok_if]; decide
@[simp] theorem eqw_note_done : eqD (.str ("note" : Str)) (.str ("done" : Str)) = some false := by rw [eqD_str ok_note ok_done]; decide
@[simp] theorem eqw_note_ok : eqD (.str ("note" : Str)) (.str ("ok" : Str)) = some false := by rw [eqD_str ok_note ok_ok]; decide
@[simp] theorem eqw_note_told : eqD (.str ("note" : Str)) (.str ("told" : Str)) = some false := by rw [eqD_str ok_note ok_told]; decide
@[simp] theorem eqw_note_once : eqD (.str ("note" : Str)) (.str ("once" : Str)) = some false := by rw [eqD_str ok_note ok_once]; decide
@[simp] theorem eqw_count_recall : eqD (.str ("count" : Str)) (.str ("recall" : Str)) = some false := by rw [eqD_str ok_count ok_recall]; decide
@[simp] theorem eqw_count_note : eqD (.str ("count" : Str)) (.str ("note" : Str)) = some false := by rw [eqD_str ok_count ok_note]; decide
@[simp] theorem eqw_count_count : eqD (.str ("count" : Str)) (.str ("count" : Str)) = some true := by rw [eqD_str ok_count ok_count]; decide
@[simp] theorem eqw_count_add : eqD (.str ("count" : Str)) (.str ("add" : Str)) = some false := by rw [eqD_str ok_count ok_add]; decide
@[simp] theorem eqw_count_send : eqD (.str ("count" : Str)) (.str ("send" : Str)) = some false := by rw [eqD_str ok_count ok_send]; decide
@[simp] theorem eqw_count_wait : eqD (.str ("count" : Str)) (.str ("wait" : Str)) = some false := by rw [eqD_str ok_count ok_wait]; decide
@[simp] theorem eqw_count_end : eqD (.str ("count" : Str)) (.str ("end" : Str)) = some false := by rw [eqD_str ok_count ok_end]; decide
@[simp] theorem eqw_count_go : eqD (.str ("count" : Str)) (.str ("go" : Str)) = some false := by rw [eqD_str ok_count ok_go]; decide
@[simp] theorem eqw_count_if : eqD (.str ("count" : Str)) (.str ("if" : Str)) = some false := by rw [eqD_str ok_count ok_if]; decide
@[simp] theorem eqw_count_done : eqD (.str ("count" : Str)) (.str ("done" : Str)) = some false := by rw [eqD_str ok_count ok_done]; decide
@[simp] theorem eqw_count_ok : eqD (.str ("count" : Str)) (.str ("ok" : Str)) = some false := by rw [eqD_str ok_count ok_ok]; decide
@[simp] theorem eqw_count_told : eqD (.str ("count" : Str)) (.str ("told" : Str)) = some false := by rw [eqD_str ok_count ok_told]; decide
@[simp] theorem eqw_count_once : eqD (.str ("count" : Str)) (.str ("once" : Str)) = some false := by rw [eqD_str ok_count ok_once]; decide
@[simp] theorem eqw_add_recall : eqD (.str ("add" : Str)) (.str ("recall" : Str)) = some false := by rw [eqD_str ok_add ok_recall]; decide
@[simp] theorem eqw_add_note : eqD (.str ("add" : Str)) (.str ("note" : Str)) = some false := by rw [eqD_str ok_add ok_note]; decide
@[simp] theorem eqw_add_count : eqD (.str ("add" : Str)) (.str ("count" : Str)) = some false := by rw [eqD_str ok_add ok_count]; decide
@[simp] theorem eqw_add_add : eqD (.str ("add" : Str)) (.str ("add" : Str)) = some true := by rw [eqD_str ok_add ok_add]; decide
@[simp] theorem eqw_add_send : eqD (.str ("add" : Str)) (.str ("send" : Str)) = some false := by rw [eqD_str ok_add ok_send]; decide
@[simp] theorem eqw_add_wait : eqD (.str ("add" : Str)) (.str ("wait" : Str)) = some false := by rw [eqD_str ok_add ok_wait]; decide
@[simp] theorem eqw_add_end : eqD (.str ("add" : Str)) (.str ("end" : Str)) = some false := by rw [eqD_str ok_add ok_end]; decide
@[simp] theorem eqw_add_go : eqD (.str ("add" : Str)) (.str ("go" : Str)) = some false := by rw [eqD_str ok_add ok_go]; decide
@[simp] theorem eqw_add_if : eqD (.str ("add" : Str)) (.str ("if" : Str)) = some false := by rw [eqD_str ok_add ok_if]; decide
@[simp] theorem eqw_add_done : eqD (.str ("add" : Str)) (.str ("done" : Str)) = some false := by rw [eqD_str ok_add ok_done]; decide
@[simp] theorem eqw_add_ok : eqD (.str ("add" : Str)) (.str ("ok" : Str)) = some false := by rw [eqD_str ok_add ok_ok]; decide
@[simp] theorem eqw_add_told : eqD (.str ("add" : Str)) (.str ("told" : Str)) = some false := by rw [eqD_str ok_add ok_told]; decide
@[simp] theorem eqw_add_once : eqD (.str ("add" : Str)) (.str ("once" : Str)) = some false := by rw [eqD_str ok_add ok_once]; decide
@[simp] theorem eqw_send_recall : eqD (.str ("send" : Str)) (.str ("recall" : Str)) = some false := by rw [eqD_str ok_send ok_recall]; decide
@[simp] theorem eqw_send_note : eqD (.str ("send" : Str)) (.str ("note" : Str)) = some false := by rw [eqD_str ok_send ok_note]; decide
@[simp] theorem eqw_send_count : eqD (.str ("send" : Str)) (.str ("count" : Str)) = some false := by rw [eqD_str ok_send ok_count]; decide
@[simp] theorem eqw_send_add : eqD (.str ("send" : Str)) (.str ("add" : Str)) = some false := by rw [eqD_str ok_send ok_add]; decide
@[simp] theorem eqw_send_send : eqD (.str ("send" : Str)) (.str ("send" : Str)) = some true := by rw [eqD_str ok_send ok_send]; decide
@[simp] theorem eqw_send_wait : eqD (.str ("send" : Str)) (.str ("wait" : Str)) = some false := by rw [eqD_str ok_send ok_wait]; decide
@[simp] theorem eqw_send_end : eqD (.str ("send" : Str)) (.str ("end" : Str)) = some false := by rw [eqD_str ok_send ok_end]; decide
@[simp] theorem eqw_send_go : eqD (.str ("send" : Str)) (.str ("go" : Str)) = some false := by rw [eqD_str ok_send ok_go]; decide
@[simp] theorem eqw_send_if : eqD (.str ("send" : Str)) (.str ("if" : Str)) = some false := by rw [eqD_str ok_send ok_if]; decide
@[simp] theorem eqw_send_done : eqD (.str ("send" : Str)) (.str ("done" : Str)) = some false := by rw [eqD_str ok_send ok_done]; decide
@[simp] theorem eqw_send_ok : eqD (.str ("send" : Str)) (.str ("ok" : Str)) = some false := by rw [eqD_str ok_send ok_ok]; decide
@[simp] theorem eqw_send_told : eqD (.str ("send" : Str)) (.str ("told" : Str)) = some false := by rw [eqD_str ok_send ok_told]; decide
@[simp] theorem eqw_send_once : eqD (.str ("send" : Str)) (.str ("once" : Str)) = some false := by rw [eqD_str ok_send ok_once]; decide
@[simp] theorem eqw_wait_recall : eqD (.str ("wait" : Str)) (.str ("recall" : Str)) = some false := by rw [eqD_str ok_wait ok_recall]; decide
@[simp] theorem eqw_wait_note : eqD (.str ("wait" : Str)) (.str ("note" : Str)) = some false := by rw [eqD_str ok_wait ok_note]; decide
@[simp] theorem eqw_wait_count : eqD (.str ("wait" : Str)) (.str ("count" : Str)) = some false := by rw [eqD_str ok_wait ok_count]; decide
@[simp] theorem eqw_wait_add : eqD (.str ("wait" : Str)) (.str ("add" : Str)) = some false := by rw [eqD_str ok_wait ok_add]; decide
@[simp] theorem eqw_wait_send : eqD (.str ("wait" : Str)) (.str ("send" : Str)) = some false := by rw [eqD_str ok_wait ok_send]; decide
@[simp] theorem eqw_wait_wait : eqD (.str ("wait" : Str)) (.str ("wait" : Str)) = some true := by rw [eqD_str ok_wait ok_wait]; decide
@[simp] theorem eqw_wait_end : eqD (.str ("wait" : Str)) (.str ("end" : Str)) = some false := by rw [eqD_str ok_wait ok_end]; decide
@[simp] theorem eqw_wait_go : eqD (.str ("wait" : Str)) (.str ("go" : Str)) = some false := by rw [eqD_str ok_wait ok_go]; decide
@[simp] theorem eqw_wait_if : eqD (.str ("wait" : Str)) (.str ("if" : Str)) = some false := by rw [eqD_str ok_wait ok_if]; decide
@[simp] theorem eqw_wait_done : eqD (.str ("wait" : Str)) (.str ("done" : Str)) = some false := by rw [eqD_str ok_wait ok_done]; decide
@[simp] theorem eqw_wait_ok : eqD (.str ("wait" : Str)) (.str ("ok" : Str)) = some false := by rw [eqD_str ok_wait ok_ok]; decide
@[simp] theorem eqw_wait_told : eqD (.str ("wait" : Str)) (.str ("told" : Str)) = some false := by rw [eqD_str ok_wait ok_told]; decide
@[simp] theorem eqw_wait_once : eqD (.str ("wait" : Str)) (.str ("once" : Str)) = some false := by rw [eqD_str ok_wait ok_once]; decide
@[simp] theorem eqw_end_recall : eqD (.str ("end" : Str)) (.str ("recall" : Str)) = some false := by rw [eqD_str ok_end ok_recall]; decide
@[simp] theorem eqw_end_note : eqD (.str ("end" : Str)) (.str ("note" : Str)) = some false := by rw [eqD_str ok_end ok_note]; decide
@[simp] theorem eqw_end_count : eqD (.str ("end" : Str)) (.str ("count" : Str)) = some false := by rw [eqD_str ok_end ok_count]; decide
@[simp] theorem eqw_end_add : eqD (.str ("end" : Str)) (.str ("add" : Str)) = some false := by rw [eqD_str ok_end ok_add]; decide
@[simp] theorem eqw_end_send : eqD (.str ("end" : Str)) (.str ("send" : Str)) = some false := by rw [eqD_str ok_end ok_send]; decide
@[simp] theorem eqw_end_wait : eqD (.str ("end" : Str)) (.str ("wait" : Str)) = some false := by rw [eqD_str ok_end ok_wait]; decide
@[simp] theorem eqw_end_end : eqD (.str ("end" : Str)) (.str ("end" : Str)) = some true := by rw [eqD_str ok_end ok_end]; decide
@[simp] theorem eqw_end_go : eqD (.str ("end" : Str)) (.str ("go" : Str)) = some false := by rw [eqD_str ok_end ok_go]; decide
@[simp] theorem eqw_end_if : eqD (.str ("end" : Str)) (.str ("if" : Str)) = some false := by rw [eqD_str ok_end ok_if]; decide
@[simp] theorem eqw_end_done : eqD (.str ("end" : Str)) (.str ("done" : Str)) = some false := by rw [eqD_str ok_end ok_done]; decide
@[simp] theorem eqw_end_ok : eqD (.str ("end" : Str)) (.str ("ok" : Str)) = some false := by rw [eqD_str ok_end ok_ok]; decide
@[simp] theorem eqw_end_told : eqD (.str ("end" : Str)) (.str ("told" : Str)) = some false := by rw [eqD_str ok_end ok_told]; decide
@[simp] theorem eqw_end_once : eqD (.str ("end" : Str)) (.str ("once" : Str)) = some false := by rw [eqD_str ok_end ok_once]; decide
@[simp] theorem eqw_go_recall : eqD (.str ("go" : Str)) (.str ("recall" : Str)) = some false := by rw [eqD_str ok_go ok_recall]; decide
@[simp] theorem eqw_go_note : eqD (.str ("go" : Str)) (.str ("note" : Str)) = some false := by rw [eqD_str ok_go ok_note]; decide
@[simp] theorem eqw_go_count : eqD (.str ("go" : Str)) (.str ("count" : Str)) = some false := by rw [eqD_str ok_go ok_count]; decide
@[simp] theorem eqw_go_add : eqD (.str ("go" : Str)) (.str ("add" : Str)) = some false := by rw [eqD_str ok_go ok_add]; decide
@[simp] theorem eqw_go_send : eqD (.str ("go" : Str)) (.str ("send" : Str)) = some false := by rw [eqD_str ok_go ok_send]; decide
@[simp] theorem eqw_go_wait : eqD (.str ("go" : Str)) (.str ("wait" : Str)) = some false := by rw [eqD_str ok_go ok_wait]; decide
@[simp] theorem eqw_go_end : eqD (.str ("go" : Str)) (.str ("end" : Str)) = some false := by rw [eqD_str ok_go ok_end]; decide
@[simp] theorem eqw_go_go : eqD (.str ("go" : Str)) (.str ("go" : Str)) = some true := by rw [eqD_str ok_go ok_go]; decide
@[simp] theorem eqw_go_if : eqD (.str ("go" : Str)) (.str ("if" : Str)) = some false := by rw [eqD_str ok_go ok_if]; decide
@[simp] theorem eqw_go_done : eqD (.str ("go" : Str)) (.str ("done" : Str)) = some false := by rw [eqD_str ok_go ok_done]; decide
@[simp] theorem eqw_go_ok : eqD (.str ("go" : Str)) (.str ("ok" : Str)) = some false := by rw [eqD_str ok_go ok_ok]; decide
@[simp] theorem eqw_go_told : eqD (.str ("go" : Str)) (.str ("told" : Str)) = some false := by rw [eqD_str ok_go ok_told]; decide
@[simp] theorem eqw_go_once : eqD (.str ("go" : Str)) (.str ("once" : Str)) = some false := by rw [eqD_str ok_go ok_once]; decide
@[simp] theorem eqw_if_recall : eqD (.str ("if" : Str)) (.str ("recall" : Str)) = some false := by rw [eqD_str ok_if ok_recall]; decide
@[simp] theorem eqw_if_note : eqD (.str ("if" : Str)) (.str ("note" : Str)) = some false := by rw [eqD_str ok_if ok_note]; decide
@[simp] theorem eqw_if_count : eqD (.str ("if" : Str)) (.str ("count" : Str)) = some false := by rw [eqD_str ok_if ok_count]; decide
@[simp] theorem eqw_if_add : eqD (.str ("if" : Str)) (.str ("add" : Str)) = some false := by rw [eqD_str ok_if ok_add]; decide
@[simp] theorem eqw_if_send : eqD (.str ("if" : Str)) (.str ("send" : Str)) = some false := by rw [eqD_str ok_if ok_send]; decide
@[simp] theorem eqw_if_wait : eqD (.str ("if" : Str)) (.str ("wait" : Str)) = some false := by rw [eqD_str ok_if ok_wait]; decide
@[simp] theorem eqw_if_end : eqD (.str ("if" : Str)) (.str ("end" : Str)) = some false := by rw [eqD_str ok_if ok_end]; decide
@[simp] theorem eqw_if_go : eqD (.str ("if" : Str)) (.str ("go" : Str)) = some false := by rw [eqD_str ok_if ok_go]; decide
@[simp] theorem eqw_if_if : eqD (.str ("if" : Str)) (.str ("if" : Str)) = some true := by rw [eqD_str ok_if ok_if]; decide
@[simp] theorem eqw_if_done : eqD (.str ("if" : Str)) (.str ("done" : Str)) = some false := by rw [eqD_str ok_if ok_done]; decide
@[simp] theorem eqw_if_ok : eqD (.str ("if" : Str)) (.str ("ok" : Str)) = some false := by rw [eqD_str ok_if ok_ok]; decide
@[simp] theorem eqw_if_told : eqD (.str ("if" : Str)) (.str ("told" : Str)) = some false := by rw [eqD_str ok_if ok_told]; decide
@[simp] theorem eqw_if_once : eqD (.str ("if" : Str)) (.str ("once" : Str)) = some false := by rw [eqD_str ok_if ok_once]; decide
@[simp] theorem eqw_done_recall : eqD (.str ("done" : Str)) (.str ("recall" : Str)) = some false := by rw [eqD_str ok_done ok_recall]; decide
@[simp] theorem eqw_done_note : eqD (.str ("done" : Str)) (.str ("note" : Str)) = some false := by rw [eqD_str ok_done ok_note]; decide
@[simp] theorem eqw_done_count : eqD (.str ("done" : Str)) (.str ("count" : Str)) = some false := by rw [eqD_str ok_done ok_count]; decide
@[simp] theorem eqw_done_add : eqD (.str ("done" : Str)) (.str ("add" : Str)) = some false := by rw [eqD_str ok_done ok_add]; decide
@[simp] theorem eqw_done_send : eqD (.str ("done" : Str)) (.str ("send" : Str)) = some false := by rw [eqD_str ok_done ok_send]; decide
@[simp] theorem eqw_done_wait : eqD (.str ("done" : Str)) (.str ("wait" : Str)) = some false := by rw [eqD_str ok_done ok_wait]; decide
@[simp] theorem eqw_done_end : eqD (.str ("done" : Str)) (.str ("end" : Str)) = some false := by rw [eqD_str ok_done ok_end]; decide
@[simp] theorem eqw_done_go : eqD (.str ("done" : Str)) (.str ("go" : Str)) = some false := by rw [eqD_str ok_done ok_go]; decide
@[simp] theorem eqw_done_if : eqD (.str ("done" : Str)) (.str ("if" : Str)) = some false := by rw [eqD_str ok_done ok_if]; decide
@[simp] theorem eqw_done_done : eqD (.str ("done" : Str)) (.str ("done" : Str)) = some true := by rw [eqD_str ok_done ok_done]; decide
@[simp] theorem eqw_done_ok : eqD (.str ("done" : Str)) (.str ("ok" : Str)) = some false := by rw [eqD_str ok_done ok_ok]; decide
@[simp] theorem eqw_done_told : eqD (.str ("done" : Str)) (.str ("told" : Str)) = some false := by rw [eqD_str ok_done ok_told]; decide
@[simp] theorem eqw_done_once : eqD (.str ("done" : Str)) (.str ("once" : Str)) = some false := by rw [eqD_str ok_done ok_once]; decide
@[simp] theorem eqw_ok_recall : eqD (.str ("ok" : Str)) (.str ("recall" : Str)) = some false := by rw [eqD_str ok_ok ok_recall]; decide
@[simp] theorem eqw_ok_note : eqD (.str ("ok" : Str)) (.str ("note" : Str)) = some false := by rw [eqD_str ok_ok ok_note]; decide
@[simp] theorem eqw_ok_count : eqD (.str ("ok" : Str)) (.str ("count" : Str)) = some false := by rw [eqD_str ok_ok ok_count]; decide
@[simp] theorem eqw_ok_add : eqD (.str ("ok" : Str)) (.str ("add" : Str)) = some false := by rw [eqD_str ok_ok ok_add]; decide
@[simp] theorem eqw_ok_send : eqD (.str ("ok" : Str)) (.str ("send" : Str)) = some false := by rw [eqD_str ok_ok ok_send]; decide
@[simp] theorem eqw_ok_wait : eqD (.str ("ok" : Str)) (.str ("wait" : Str)) = some false := by rw [eqD_str ok_ok ok_wait]; decide
@[simp] theorem eqw_ok_end : eqD (.str ("ok" : Str)) (.str ("end" : Str)) = some false := by rw [eqD_str ok_ok ok_end]; decide
@[simp] theorem eqw_ok_go : eqD (.str ("ok" : Str)) (.str ("go" : Str)) = some false := by rw [eqD_str ok_ok ok_go]; decide
@[simp] theorem eqw_ok_if : eqD (.str ("ok" : Str)) (.str ("if" : Str)) = some false := by rw [eqD_str ok_ok ok_if]; decide
@[simp] theorem eqw_ok_done : eqD (.str ("ok" : Str)) (.str ("done" : Str)) = some false := by rw [eqD_str ok_ok ok_done]; decide
@[simp] theorem eqw_ok_ok : eqD (.str ("ok" : Str)) (.str ("ok" : Str)) = some true := by rw [eqD_str ok_ok ok_ok]; decide
@[simp] theorem eqw_ok_told : eqD (.str ("ok" : Str)) (.str ("told" : Str)) = some false := by rw [eqD_str ok_ok ok_told]; decide
@[simp] theorem eqw_ok_once : eqD (.str ("ok" : Str)) (.str ("once" : Str)) = some false := by rw [eqD_str ok_ok ok_once]; decide
@[simp] theorem eqw_told_recall : eqD (.str ("told" : Str)) (.str ("recall" : Str)) = some false := by rw [eqD_str ok_told ok_recall]; decide
@[simp] theorem eqw_told_note : eqD (.str ("told" : Str)) (.str ("note" : Str)) = some false := by rw [eqD_str ok_told ok_note]; decide
@[simp] theorem eqw_told_count : eqD (.str ("told" : Str)) (.str ("count" : Str)) = some false := by rw [eqD_str ok_told ok_count]; decide
@[simp] theorem eqw_told_add : eqD (.str ("told" : Str)) (.str ("add" : Str)) = some false := by rw [eqD_str ok_told ok_add]; decide
@[simp] theorem eqw_told_send : eqD (.str ("told" : Str)) (.str ("send" : Str)) = some false := by rw [eqD_str ok_told ok_send]; decide
@[simp] theorem eqw_told_wait : eqD (.str ("told" : Str)) (.str ("wait" : Str)) = some false := by rw [eqD_str ok_told ok_wait]; decide
@[simp] theorem eqw_told_end : eqD (.str ("told" : Str)) (.str ("end" : Str)) = some false := by rw [eqD_str ok_told ok_end]; decide
@[simp] theorem eqw_told_go : eqD (.str ("told" : Str)) (.str ("go" : Str)) = some false := by rw [eqD_str ok_told ok_go]; decide
@[simp] theorem eqw_told_if : eqD (.str ("told" : Str)) (.str ("if" : Str)) = some false := by rw [eqD_str ok_told ok_if]; decide
@[simp] theorem eqw_told_done : eqD (.str ("told" : Str)) (.str ("done" : Str)) = some false := by rw [eqD_str ok_told ok_done]; decide
@[simp] theorem eqw_told_ok : eqD (.str ("told" : Str)) (.str ("ok" : Str)) = some false := by rw [eqD_str ok_told ok_ok]; decide
@[simp] theorem eqw_told_told : eqD (.str ("told" : Str)) (.str ("told" : Str)) = some true := by rw [eqD_str ok_told ok_told]; decide
@[simp] theorem eqw_told_once : eqD (.str ("told" : Str)) (.str ("once" : Str)) = some false := by rw [eqD_str ok_told ok_once]; decide
@[simp] theorem eqw_once_recall : eqD (.str ("once" : Str)) (.str ("recall" : Str)) = some false := by rw [eqD_str ok_once ok_recall]; decide
@[simp] theorem eqw_once_note : eqD (.str ("once" : Str)) (.str ("note" : Str)) = some false := by rw [eqD_str ok_once ok_note]; decide
@[simp] theorem eqw_once_count : eqD (.str ("once" : Str)) (.str ("count" : Str)) = some false := by rw [eqD_str ok_once ok_count]; decide
@[simp] theorem eqw_once_add : eqD (.str ("once" : Str)) (.str ("add" : Str)) = some false := by rw [eqD_str ok_once ok_add]; decide
@[simp] theorem eqw_once_send : eqD (.str ("once" : Str)) (.str ("send" : Str)) = some false := by rw [eqD_str ok_once ok_send]; decide
@[simp] theorem eqw_once_wait : eqD (.str ("once" : Str)) (.str ("wait" : Str)) = some false := by rw [eqD_str ok_once ok_wait]; decide
@[simp] theorem eqw_once_end : eqD (.str ("once" : Str)) (.str ("end" : Str)) = some false := by rw [eqD_str ok_once ok_end]; decide
@[simp] theorem eqw_once_go : eqD (.str ("once" : Str)) (.str ("go" : Str)) = some false := by rw [eqD_str ok_once ok_go]; decide
@[simp] theorem eqw_once_if : eqD (.str ("once" : Str)) (.str ("if" : Str)) = some false := by rw [eqD_str ok_once ok_if]; decide
@[simp] theorem eqw_once_done : eqD (.str ("once" : Str)) (.str ("done" : Str)) = some false := by rw [eqD_str ok_once ok_done]; decide
@[simp] theorem eqw_once_ok : eqD (.str ("once" : Str)) (.str ("ok" : Str)) = some false := by rw [eqD_str ok_once ok_ok]; decide
@[simp] theorem eqw_once_told : eqD (.str ("once" : Str)) (.str ("told" : Str)) = some false := by rw [eqD_str ok_once ok_told]; decide
@[simp] theorem eqw_once_once : eqD (.str ("once" : Str)) (.str ("once" : Str)) = some true := by rw [eqD_str ok_once ok_once]; decide
/-! ### places -/
theorem atI_at {ds : List D} {k : Nat} {d : D} (h : ds[k]? = some d) : L2.atI ds (k : Int) = some d := by
  have hl : k < ds.length := by
    rw [List.getElem?_eq_some_iff] at h
    exact h.1
  have e : ixN ds.length (k : Int) = some k := by
    unfold ixN
    rw [if_pos (Int.natCast_nonneg k), if_pos (by omega)]
    simp
  unfold L2.atI
  rw [e]
  exact h
@[simp] theorem at_0 {a : D} {r : List D} : L2.atI (a :: r) 0 = some a := atI_at (k := 0) rfl
@[simp] theorem at_1 {a b : D} {r : List D} : L2.atI (a :: b :: r) 1 = some b := atI_at (k := 1) rfl
@[simp] theorem at_2 {a b c : D} {r : List D} : L2.atI (a :: b :: c :: r) 2 = some c := atI_at (k := 2) rfl
@[simp] theorem at_3 {a b c d : D} {r : List D} : L2.atI (a :: b :: c :: d :: r) 3 = some d := atI_at (k := 3) rfl
@[simp] theorem at_4 {a b c d e : D} {r : List D} : L2.atI (a :: b :: c :: d :: e :: r) 4 = some e := atI_at (k := 4) rfl
@[simp] theorem at_5 {a b c d e f : D} {r : List D} : L2.atI (a :: b :: c :: d :: e :: f :: r) 5 = some f := atI_at (k := 5) rfl
@[simp] theorem at_6 {a b c d e f g : D} {r : List D} : L2.atI (a :: b :: c :: d :: e :: f :: g :: r) 6 = some g := atI_at (k := 6) rfl
@[simp] theorem at_7 {a b c d e f g h : D} {r : List D} : L2.atI (a :: b :: c :: d :: e :: f :: g :: h :: r) 7 = some h := atI_at (k := 7) rfl
@[simp] theorem at_8 {a b c d e f g h i : D} {r : List D} : L2.atI (a :: b :: c :: d :: e :: f :: g :: h :: i :: r) 8 = some i := atI_at (k := 8) rfl
@[simp] theorem at_9 {a b c d e f g h i j : D} {r : List D} : L2.atI (a :: b :: c :: d :: e :: f :: g :: h :: i :: j :: r) 9 = some j := atI_at (k := 9) rfl
@[simp] theorem at_10 {a b c d e f g h i j k : D} {r : List D} : L2.atI (a :: b :: c :: d :: e :: f :: g :: h :: i :: j :: k :: r) 10 = some k := atI_at (k := 10) rfl
@[simp] theorem at_11 {a b c d e f g h i j k l : D} {r : List D} : L2.atI (a :: b :: c :: d :: e :: f :: g :: h :: i :: j :: k :: l :: r) 11 = some l := atI_at (k := 11) rfl
@[simp] theorem at_12 {a b c d e f g h i j k l m : D} {r : List D} : L2.atI (a :: b :: c :: d :: e :: f :: g :: h :: i :: j :: k :: l :: m :: r) 12 = some m := atI_at (k := 12) rfl
@[simp] theorem at_13 {a b c d e f g h i j k l m n : D} {r : List D} : L2.atI (a :: b :: c :: d :: e :: f :: g :: h :: i :: j :: k :: l :: m :: n :: r) 13 = some n := atI_at (k := 13) rfl
@[simp] theorem at_14 {a b c d e f g h i j k l m n o : D} {r : List D} : L2.atI (a :: b :: c :: d :: e :: f :: g :: h :: i :: j :: k :: l :: m :: n :: o :: r) 14 = some o := atI_at (k := 14) rfl
@[simp] theorem at_15 {a b c d e f g h i j k l m n o p : D} {r : List D} : L2.atI (a :: b :: c :: d :: e :: f :: g :: h :: i :: j :: k :: l :: m :: n :: o :: p :: r) 15 = some p := atI_at (k := 15) rfl
@[simp] theorem at_16 {a b c d e f g h i j k l m n o p q : D} {r : List D} : L2.atI (a :: b :: c :: d :: e :: f :: g :: h :: i :: j :: k :: l :: m :: n :: o :: p :: q :: r) 16 = some q := atI_at (k := 16) rfl
end Lb
set_option maxRecDepth 100000
set_option maxHeartbeats 4000000
namespace Lb
open PySem PySem.Spec PyProof.Rows L2 DI
/-- the row of numbers, the place in it -/
def rowD (xs : List Int) : D := .lst (xs.map .int)
def sp (s : Nat) : M := .lst [.int (s : Int)]
def tk (xs : List Int) (s : Nat) (l : Int) : Int := drawP xs s l
theorem tk_nn {xs : List Int} {s : Nat} {l : Int} (h : 0 < l) : 0 ≤ tk xs s l := by
  unfold tk drawP
  split <;> exact Int.emod_nonneg _ (by omega)
theorem tk_lt {xs : List Int} {s : Nat} {l : Int} (h : 0 < l) : tk xs s l < l := by
  unfold tk drawP
  split <;> exact Int.emod_lt_of_pos _ h
section
variable {xs : List Int} {s : Nat} {l : Int}
theorem take_sp (hn : xs ≠ []) (hl : 0 < l) : F__law_take [.val (rowD xs), .ref (sp s), .val (.int l)] = some (.ret (.val (.int (tk xs s l))) [(1, sp (s + 1))]) := by
  have e := take_is (xs := xs) (s := (s : Int)) (l := l) (by omega) hl hn
  unfold rowD sp tk
  rw [e]
  rfl
theorem printer_is (hn : xs ≠ []) : F__law_printer [.val (rowD xs), .ref (sp s)] = some (.ret (.val (.tup [.bl (decide (tk xs s 2 = 0)), .bl (decide (tk xs (s + 1) 3 = 0)), .bl (decide (0 < tk xs (s + 1 + 1) 3))])) [(1, sp (s + 1 + 1 + 1))]) := by
  unfold F__law_printer c__law_printer
  simp [take_sp hn]
end
/-! ### plain data of a small depth -/
mutual
def sh : Nat → D → Bool
  | _, .non => true
  | _, .bl _ => true
  | _, .int _ => true
  | _, .str s => PyData.strOk s
  | n + 1, .lst ds => shA n ds
  | n + 1, .tup ds => shA n ds
  | _, _ => false
def shA : Nat → List D → Bool
  | _, [] => true
  | n, d :: ds => sh n d && shA n ds
end
mutual
theorem sh_ok : ∀ (n : Nat) (d : D), sh n d = true → ∃ p, toPy d = some p ∧ p.canLay0 = true ∧ p.depth ≤ n
  | n, .non, _ => ⟨.none, rfl, rfl, Nat.zero_le _⟩
  | n, .bl b, _ => ⟨.bool b, rfl, rfl, Nat.zero_le _⟩
  | n, .int b, _ => ⟨.int b, rfl, rfl, Nat.zero_le _⟩
  | n, .str s, h => ⟨.str s, rfl, by unfold sh at h; rw [PyData.canLay0]; exact h, by rw [PyData.depth]; omega⟩
  | n + 1, .lst ds, h => by
    rw [sh] at h
    obtain ⟨ps, e, a, b⟩ := shA_ok n ds h
    refine ⟨.list ps, ?_, ?_, ?_⟩
    · rw [toPy, e]; rfl
    · rw [PyData.canLay0]; exact a
    · rw [PyData.depth]; omega
  | n + 1, .tup ds, h => by
    rw [sh] at h
    obtain ⟨ps, e, a, b⟩ := shA_ok n ds h
    refine ⟨.tuple ps, ?_, ?_, ?_⟩
    · rw [toPy, e]; rfl
    · rw [PyData.canLay0]; exact a
    · rw [PyData.depth]; omega
  | 0, .lst ds, h => by simp [sh] at h
  | 0, .tup ds, h => by simp [sh] at h
  | 0, .fls ds, h => by simp [sh] at h
  | n + 1, .fls ds, h => by simp [sh] at h
  | 0, .obj c ds, h => by simp [sh] at h
  | n + 1, .obj c ds, h => by simp [sh] at h
theorem shA_ok : ∀ (n : Nat) (ds : List D), shA n ds = true → ∃ ps, toPyA ds = some ps ∧ PyData.canLayAll0 ps = true ∧ PyData.depthAll ps ≤ n
  | n, [], _ => ⟨[], rfl, rfl, Nat.zero_le _⟩
  | n, d :: ds, h => by
    rw [shA, Bool.and_eq_true] at h
    obtain ⟨p, e, a, b⟩ := sh_ok n d h.1
    obtain ⟨ps, e2, a2, b2⟩ := shA_ok n ds h.2
    refine ⟨p :: ps, ?_, ?_, ?_⟩
    · rw [toPyA, e, e2]
    · rw [PyData.canLayAll0, a, a2]; rfl
    · rw [PyData.depthAll]; omega
end
theorem okD_sh {d : D} (n : Nat) (h : sh n d = true) (hn : n ≤ 64) : okD d = true := by
  obtain ⟨p, e, a, b⟩ := sh_ok n d h
  unfold okD
  rw [e]
  show SeqAt.shaped p = true
  unfold SeqAt.shaped
  rw [a]
  simp; omega
theorem shA_map {α : Type} (f : α → D) (n : Nat) (h : ∀ a, sh n (f a) = true) : ∀ l : List α, shA n (l.map f) = true
  | [] => rfl
  | a :: l => by rw [List.map_cons, shA, h a, shA_map f n h l]; rfl
/-! ### lines -/
inductive Ln where
  | recall | note | count | add | send | wait | fin
  | go (t : Int)
  | ifd (t : Int)
  | ifk (t : Int)
  deriving DecidableEq
def enc : Ln → D
  | .recall => .tup [.str "recall"]
  | .note => .tup [.str "note"]
  | .count => .tup [.str "count"]
  | .add => .tup [.str "add"]
  | .send => .tup [.str "send"]
  | .wait => .tup [.str "wait"]
  | .fin => .tup [.str "end"]
  | .go t => .tup [.str "go", .int t]
  | .ifd t => .tup [.str "if", .str "done", .int t]
  | .ifk t => .tup [.str "if", .str "ok", .int t]
def Ln.ok (n : Int) (c : Bool) : Ln → Prop
  | .count => c = true
  | .go t => 0 ≤ t ∧ t < n
  | .ifd t => 0 ≤ t ∧ t < n
  | .ifk t => 0 ≤ t ∧ t < n
  | _ => True
def Ln.last : Ln → Bool
  | .fin => true
  | .go _ => true
  | _ => false
theorem fin10 {t : Int} (h0 : 0 ≤ t) (h : t < 10) : t = 0 ∨ t = 1 ∨ t = 2 ∨ t = 3 ∨ t = 4 ∨ t = 5 ∨ t = 6 ∨ t = 7 ∨ t = 8 ∨ t = 9 := by omega
theorem sh_enc (l : Ln) : sh 1 (enc l) = true := by
  cases l <;> simp only [enc, sh, shA, Bool.and_true] <;> first | exact ok_recall | exact ok_note | exact ok_count | exact ok_add | exact ok_send | exact ok_wait | exact ok_end | exact ok_go | (rw [ok_if, ok_done]; rfl) | (rw [ok_if, ok_ok]; rfl)
def isC : Ln → Bool
  | .count => true
  | _ => false
theorem eqv_count (l : Ln) : eqvD (enc l) (.tup [.str "count"]) = isC l := by
  cases l <;> rfl
theorem inD_tup {x : D} {ds : List D} : inD x (.tup ds) = if okD x && okD (.tup ds) then some (ds.any fun z => eqvD z x) else none := rfl
theorem inD_lst {x : D} {ds : List D} : inD x (.lst ds) = if okD x && okD (.lst ds) then some (ds.any fun z => eqvD z x) else none := rfl
theorem in_count (ls : List Ln) : inD (.tup [.str "count"]) (.tup (ls.map enc)) = some (ls.any isC) ∧ inD (.tup [.str "count"]) (.lst (ls.map enc)) = some (ls.any isC) := by
  have h1 : okD (.tup [.str "count"]) = true := okD_sh 1 (sh_enc .count) (by omega)
  have h2 : okD (.tup (ls.map enc)) = true := okD_sh 2 (shA_map enc 1 sh_enc ls) (by omega)
  have h3 : okD (.lst (ls.map enc)) = true := okD_sh 2 (shA_map enc 1 sh_enc ls) (by omega)
  have e : ((ls.map enc).any fun z => eqvD z (.tup [.str "count"])) = ls.any isC := by
    rw [List.any_map]
    exact congrArg (fun f => ls.any f) (funext fun l => eqv_count l)
  constructor
  · rw [inD_tup, h1, h2, e]; rfl
  · rw [inD_lst, h1, h3, e]; rfl
end Lb
set_option maxRecDepth 100000
set_option maxHeartbeats 4000000
namespace Lb
open PySem PySem.Spec PyProof.Rows L2 DI
/-! ### what helps when a run is read off -/
def NrO (o : Option Sl) : Prop := ∀ m, o ≠ some (.ref m)
section
variable {s : Sl} {d : D} {m : M} {k : Nat} {r : RV} {ρ : Rho}
@[simp] theorem nro_some : NrO (some s) ↔ Nr s := ⟨fun h m e => h m (congrArg some e), fun h m e => h m (Option.some.inj e)⟩
@[simp] theorem nro_none : NrO none ↔ True := ⟨fun _ => trivial, fun _ m e => by cases e⟩
@[simp] theorem nr_val : Nr (.val d) ↔ True := ⟨fun _ => trivial, fun _ m e => by cases e⟩
@[simp] theorem nr_own : Nr (.own m) ↔ True := ⟨fun _ => trivial, fun _ m e => by cases e⟩
@[simp] theorem nr_no : Nr .no ↔ True := ⟨fun _ => trivial, fun _ m e => by cases e⟩
@[simp] theorem st_r (h : NrO ρ[k]?) : storeR k r ρ = some (ρ.set k (match r with | .val d => .val d | .new m => .own m)) := by
  unfold storeR
  split
  · rename_i e; exact absurd e (h _)
  · rfl
@[simp] theorem st_v (h : NrO ρ[k]?) : storeV k d ρ = some (ρ.set k (.val d)) := by
  unfold storeV
  split
  · rename_i e; exact absurd e (h _)
  · rfl
end
/-- a loop whose turns go on -/
theorem forL_inv {bd : SDen} {t : Tg} (P : Rho → Prop) : ∀ {ds : List D} {ρ : Rho}, (∀ d ∈ ds, ∀ ρ, P ρ → ∃ ρ1 ρ', stT t d ρ = some ρ1 ∧ (bd ρ1 = some (.next ρ') ∨ bd ρ1 = some (.cont ρ')) ∧ P ρ') → P ρ → ∃ ρ', forL bd t ds ρ = some (.next ρ') ∧ P ρ'
  | [], ρ, h, p => ⟨ρ, rfl, p⟩
  | d :: ds, ρ, h, p => by
    obtain ⟨ρ1, ρ', e1, e2, p'⟩ := h d (by simp) ρ p
    obtain ⟨ρ2, e3, p2⟩ := forL_inv P (ds := ds) (fun d hd => h d (List.mem_cons_of_mem _ hd)) p'
    refine ⟨ρ2, ?_, p2⟩
    unfold forL
    rw [e1]
    rcases e2 with e2 | e2 <;> (dsimp only; rw [e2]; exact e3)
/-- a loop whose turns go on, or that is left -/
theorem forL_brk {bd : SDen} {t : Tg} (P Q : Rho → Prop) : ∀ {ds : List D} {ρ : Rho}, (∀ d ∈ ds, ∀ ρ, P ρ → ∃ ρ1 ρ', stT t d ρ = some ρ1 ∧ ((bd ρ1 = some (.next ρ') ∧ P ρ') ∨ (bd ρ1 = some (.brk ρ') ∧ Q ρ'))) → P ρ → ∃ ρ', forL bd t ds ρ = some (.next ρ') ∧ (P ρ' ∨ Q ρ')
  | [], ρ, h, p => ⟨ρ, rfl, .inl p⟩
  | d :: ds, ρ, h, p => by
    obtain ⟨ρ1, ρ', e1, e2⟩ := h d (by simp) ρ p
    rcases e2 with ⟨e2, p'⟩ | ⟨e2, q⟩
    · obtain ⟨ρ2, e3, p2⟩ := forL_brk P Q (ds := ds) (fun d hd => h d (List.mem_cons_of_mem _ hd)) p'
      refine ⟨ρ2, ?_, p2⟩
      unfold forL
      rw [e1]
      dsimp only
      rw [e2]
      exact e3
    · refine ⟨ρ', ?_, .inr q⟩
      unfold forL
      rw [e1]
      dsimp only
      rw [e2]
/-- a loop with so many turns -/
theorem forL_cnt {bd : SDen} {t : Tg} (P : Nat → Rho → Prop) (h : ∀ n d ρ, P (n + 1) ρ → ∃ ρ1 ρ', stT t d ρ = some ρ1 ∧ (bd ρ1 = some (.next ρ') ∨ bd ρ1 = some (.cont ρ')) ∧ P n ρ') : ∀ {ds : List D} {ρ : Rho}, P ds.length ρ → ∃ ρ', forL bd t ds ρ = some (.next ρ') ∧ P 0 ρ'
  | [], ρ, p => ⟨ρ, rfl, p⟩
  | d :: ds, ρ, p => by
    obtain ⟨ρ1, ρ', e1, e2, p'⟩ := h ds.length d ρ p
    obtain ⟨ρ2, e3, p2⟩ := forL_cnt P h p'
    refine ⟨ρ2, ?_, p2⟩
    unfold forL
    rw [e1]
    rcases e2 with e2 | e2 <;> (dsimp only; rw [e2]; exact e3)
/-- a loop with so many turns, or that is left -/
theorem forL_cntb {bd : SDen} {t : Tg} (P : Nat → Rho → Prop) (Q : Rho → Prop) (h : ∀ n d ρ, P (n + 1) ρ → ∃ ρ1 ρ', stT t d ρ = some ρ1 ∧ ((bd ρ1 = some (.next ρ') ∧ P n ρ') ∨ (bd ρ1 = some (.brk ρ') ∧ Q ρ'))) : ∀ {ds : List D} {ρ : Rho}, P ds.length ρ → ∃ ρ', forL bd t ds ρ = some (.next ρ') ∧ (P 0 ρ' ∨ Q ρ')
  | [], ρ, p => ⟨ρ, rfl, .inl p⟩
  | d :: ds, ρ, p => by
    obtain ⟨ρ1, ρ', e1, e2⟩ := h ds.length d ρ p
    rcases e2 with ⟨e2, p'⟩ | ⟨e2, q⟩
    · obtain ⟨ρ2, e3, p2⟩ := forL_cntb P Q h p'
      refine ⟨ρ2, ?_, p2⟩
      unfold forL
      rw [e1]
      dsimp only
      rw [e2]
      exact e3
    · refine ⟨ρ', ?_, .inr q⟩
      unfold forL
      rw [e1]
      dsimp only
      rw [e2]
/-- a comprehension without a condition -/
theorem lcT_cnt {elt : Den D} {t : Tg} {ks : List Nat} (P : Nat → List D → Rho → Prop) (h : ∀ n d acc ρ, P (n + 1) acc ρ → ∃ ρ1 y ρ3, stT t d (inn none 0 ρ) = some ρ1 ∧ elt ρ1 = some (.ok y ρ3) ∧ acc.length < 100000 ∧ P n (acc ++ [y]) (wipeR (outn none 0 ρ ρ3) ks)) : ∀ {ds acc : List D} {ρ : Rho}, P ds.length acc ρ → ∃ ds' ρ', lcT elt (ret true) t ks acc ds ρ = some (ds', ρ') ∧ P 0 ds' ρ'
  | [], acc, ρ, p => ⟨acc, ρ, rfl, p⟩
  | d :: ds, acc, ρ, p => by
    obtain ⟨ρ1, y, ρ3, e1, e2, hl, p'⟩ := h ds.length d acc ρ p
    obtain ⟨ds', ρ', e3, p2⟩ := lcT_cnt P h p'
    refine ⟨ds', ρ', ?_, p2⟩
    unfold lcT
    rw [e1]
    dsimp only
    rw [show (ret true : Den Bool) ρ1 = some (.ok true ρ1) from rfl]
    dsimp only
    rw [e2]
    dsimp only
    rw [if_pos hl]
    exact e3
/-- the same, item by item -/
theorem lcT_map {elt : Den D} {t : Tg} {ks : List Nat} {ρ : Rho} (g : D → D) : ∀ {ds acc : List D}, (∀ d ∈ ds, ∃ ρ1 ρ3, stT t d (inn none 0 ρ) = some ρ1 ∧ elt ρ1 = some (.ok (g d) ρ3) ∧ wipeR (outn none 0 ρ ρ3) ks = ρ) → acc.length + ds.length ≤ 99999 → lcT elt (ret true) t ks acc ds ρ = some (acc ++ ds.map g, ρ)
  | [], acc, h, hl => by simp [lcT]
  | d :: ds, acc, h, hl => by
    obtain ⟨ρ1, ρ3, e1, e2, e3⟩ := h d (by simp)
    have ih := lcT_map g (ds := ds) (acc := acc ++ [g d]) (fun d hd => h d (List.mem_cons_of_mem _ hd)) (by simp at hl ⊢; omega)
    unfold lcT
    rw [e1]
    dsimp only
    rw [show (ret true : Den Bool) ρ1 = some (.ok true ρ1) from rfl]
    dsimp only
    rw [e2]
    dsimp only
    rw [if_pos (by simp at hl; omega), e3, ih]
    simp
section
variable {k : Nat} {s s2 : Sl} {ρ ρ2 : Rho} {m m2 : M} {d : D} {ks : List Nat}
@[simp] theorem inn_nil : inn none k [] = [] := rfl
@[simp] theorem inn_cons : inn none k (s :: ρ) = innS s :: inn none (k + 1) ρ := rfl
@[simp] theorem inn_v : innS (.val d) = .val d := rfl
@[simp] theorem inn_o : innS (.own m) = .ref m := rfl
@[simp] theorem inn_r : innS (.ref m) = .ref m := rfl
@[simp] theorem inn_n : innS .no = .no := rfl
@[simp] theorem outn_nil : outn none k [] ρ2 = [] := rfl
@[simp] theorem outn_cons : outn none k (s :: ρ) (s2 :: ρ2) = outS s s2 :: outn none (k + 1) ρ ρ2 := rfl
@[simp] theorem out_v : outS (.val d) s = .val d := rfl
@[simp] theorem out_o : outS (.own m) (.ref m2) = .own m2 := rfl
@[simp] theorem out_r : outS (.ref m) (.ref m2) = .ref m2 := rfl
@[simp] theorem out_n : outS .no s = .no := by cases s <;> rfl
@[simp] theorem ipl_v : isPl (some (.val d)) = true := rfl
@[simp] theorem ipl_n : isPl (some .no) = true := rfl
@[simp] theorem bak_0 : backR ρ2 [] ρ = ρ := rfl
@[simp] theorem bak_1 : backR ρ2 (k :: ks) ρ = backR ρ2 ks (ρ.set k ((ρ2[k]?).getD .no)) := rfl
@[simp] theorem ev_asgT {t : Tg} {y : Den D} : asgT t y ρ = bS y (fun d ρ => (stT t d ρ).map .next) ρ := rfl
@[simp] theorem wip_0 : wipeR ρ [] = ρ := rfl
@[simp] theorem wip_1 : wipeR ρ (k :: ks) = (wipeR ρ ks).set k .no := rfl
end
theorem seq_next {a b : SDen} {ρ ρ' : Rho} (h : a ρ = some (.next ρ')) : seqS a b ρ = b ρ' := by
  show (match a ρ with | some (.next ρ') => b ρ' | o => o) = _
  rw [h]
/-- a loop over a range: the bound stays closed -/
theorem forF_rng {x : Den D} {tg : Tg} {bd : SDen} {ρ ρ' : Rho} {j : Int} (h : x ρ = some (.ok (.int j) ρ')) (rok : rngOk j = true) : forF (rngF1 x) tg bd ρ = forL bd tg (rngL 0 j.toNat) ρ' := by
  simp [h, rok]
theorem seq_nil {a : SDen} {ρ ρ' : Rho} (h : a ρ = some (.next ρ')) : seqS a nextS ρ = some (.next ρ') := seq_next h
theorem seq_ret {a b : SDen} {ρ ρ' : Rho} {r : RV} (h : a ρ = some (.ret r ρ')) : seqS a b ρ = some (.ret r ρ') := by
  show (match a ρ with | some (.next ρ') => b ρ' | o => o) = _
  rw [h]
theorem seq_exc {a b : SDen} {ρ ρ' : Rho} {c : Str} {d : D} (h : a ρ = some (.exc c d ρ')) : seqS a b ρ = some (.exc c d ρ') := by
  show (match a ρ with | some (.next ρ') => b ρ' | o => o) = _
  rw [h]
theorem seq_brk {a b : SDen} {ρ ρ' : Rho} (h : a ρ = some (.brk ρ')) : seqS a b ρ = some (.brk ρ') := by
  show (match a ρ with | some (.next ρ') => b ρ' | o => o) = _
  rw [h]
theorem ixN_in {n : Nat} {i : Int} (h0 : 0 ≤ i) (h1 : i < n) : ixN n i = some i.toNat := by
  unfold ixN
  rw [if_pos h0, if_pos h1]
theorem cut_take {ds : List D} {a : Int} (h0 : 0 ≤ a) (h1 : a ≤ ds.length) : DI.cutD ds none (some a) = ds.take a.toNat := by
  unfold DI.cutD
  rw [show a = ((a.toNat : Nat) : Int) by omega, HT.sIx_nat, HT.sIx_none, List.drop_zero, Nat.sub_zero]
  simp only [Int.toNat_natCast]
  rw [Nat.min_eq_left (by omega)]
theorem cut_drop {ds : List D} {a : Int} (h0 : 0 ≤ a) (h1 : a ≤ ds.length) : DI.cutD ds (some a) none = ds.drop a.toNat := by
  unfold DI.cutD
  rw [show a = ((a.toNat : Nat) : Int) by omega, HT.sIx_nat, HT.sIx_none]
  simp only [Int.toNat_natCast]
  rw [Nat.min_eq_left (by omega)]
  exact List.take_of_length_le (by rw [List.length_drop]; omega)
theorem atI_in {ds : List D} {i : Int} {d : D} (h0 : 0 ≤ i) (h : ds[i.toNat]? = some d) : L2.atI ds i = some d := by
  have e := atI_at h
  rw [show ((i.toNat : Nat) : Int) = i by omega] at e
  exact e
end Lb
set_option maxRecDepth 100000
set_option maxHeartbeats 4000000
namespace Lb
open PySem PySem.Spec PyProof.Rows L2 DI
section
variable {xs : List Int} {s : Nat} {n : Int} {c : Bool}
def bit2 (t : Int) : D := if t = 0 then .str "done" else .str "ok"
theorem bit2_at {t : Int} (h0 : 0 ≤ t) (h : t < 2) : L2.atI [.str ("done" : Str), .str ("ok" : Str)] t = some (bit2 t) := by
  have : t = 0 ∨ t = 1 := by omega
  rcases this with rfl | rfl <;> rfl
def lineP (xs : List Int) (s : Nat) (n : Int) (c : Bool) : Ln × Nat :=
  match (tk xs s (if c then 10 else 9)).toNat with
  | 0 => (.recall, s + 1)
  | 1 => (.note, s + 1)
  | 2 => (.add, s + 1)
  | 3 => (.send, s + 1)
  | 4 => (.wait, s + 1)
  | 5 => (.fin, s + 1)
  | 6 => (.go (tk xs (s + 1) n), s + 1 + 1)
  | 7 => (if tk xs (s + 1) 2 = 0 then .ifd (tk xs (s + 1 + 1) n) else .ifk (tk xs (s + 1 + 1) n), s + 1 + 1 + 1)
  | 8 => (if tk xs (s + 1) 2 = 0 then .ifd (tk xs (s + 1 + 1) n) else .ifk (tk xs (s + 1 + 1) n), s + 1 + 1 + 1)
  | _ => (.count, s + 1)
theorem line_is (hn : xs ≠ []) (h : 0 < n) : F__law_line [.val (rowD xs), .ref (sp s), .val (.int n), .val (.bl c)] = some (.ret (.val (enc (lineP xs s n c).1)) [(1, sp (lineP xs s n c).2)]) := by
  have e10 : 0 < (if c then 10 else 9 : Int) := by cases c <;> decide
  have lt := tk_lt (xs := xs) (s := s) e10
  have nn := tk_nn (xs := xs) (s := s) e10
  have a2 := bit2_at (tk_nn (xs := xs) (s := s + 1) (l := 2) (by omega)) (tk_lt (by omega))
  unfold F__law_line c__law_line lineP
  have e : (F__law_take [.val (rowD xs), .ref (sp s), .val (.int (if c then 10 else 9))]) = some (.ret (.val (.int (tk xs s (if c then 10 else 9)))) [(1, sp (s + 1))]) := take_sp hn e10
  generalize hz : tk xs s (if c then 10 else 9) = z at *
  have hz10 : z < 10 := by cases c <;> simp at lt <;> omega
  cases c <;> simp only [Bool.false_eq_true, if_true, if_false] at e
  all_goals
    rcases fin10 nn hz10 with rfl | rfl | rfl | rfl | rfl | rfl | rfl | rfl | rfl | rfl <;> simp [e, enc, take_sp hn, h, a2]
  all_goals
    unfold bit2
    split <;> rfl
theorem okIf {p : Prop} [Decidable p] {t : Int} (h : 0 ≤ t ∧ t < n) : (if p then Ln.ifd t else Ln.ifk t).ok n c := by split <;> exact h
theorem lineP_ok (h : 0 < n) : (lineP xs s n c).1.ok n c := by
  have t1 := fun s => tk_nn (xs := xs) (s := s) h
  have t2 := fun s => tk_lt (xs := xs) (s := s) h
  have e10 : 0 < (if c then 10 else 9 : Int) := by cases c <;> decide
  have lt := tk_lt (xs := xs) (s := s) e10
  have nn := tk_nn (xs := xs) (s := s) e10
  unfold lineP
  generalize tk xs s (if c then 10 else 9) = z at *
  have hz10 : z < 10 := by cases c <;> simp at lt <;> omega
  have tt := fun s => And.intro (t1 s) (t2 s)
  rcases fin10 nn hz10 with rfl | rfl | rfl | rfl | rfl | rfl | rfl | rfl | rfl | rfl
  · exact trivial
  · exact trivial
  · exact trivial
  · exact trivial
  · exact trivial
  · exact trivial
  · exact tt _
  · exact okIf (tt _)
  · exact okIf (tt _)
  · cases c
    · simp at lt
    · exact rfl
end
/-! ### lines moved -/
def mv (a k t : Int) : Int := if a ≤ t then t + k else t
def shL (a k : Int) : Ln → Ln
  | .go t => .go (mv a k t)
  | .ifd t => .ifd (mv a k t)
  | .ifk t => .ifk (mv a k t)
  | l => l
def bdSh : SDen := (seqS (ifS (cmpB .Eq (frzD (ixV (slotC 4) (frzD (ret (.val (.int 0)))))) (coD (frzD (ret (.val (.str ("go" : Str)))))))
    (seqS (asgS 4 (tupV (consA (frzD (ret (.val (.str ("go" : Str))))) (consA (frzD (ifV (cmpB .GtE (frzD (ixV (slotC 4) (frzD (ret (.val (.int 1)))))) (slotC 1)) (binV .Add (coD (frzD (ixV (slotC 4) (frzD (ret (.val (.int 1))))))) (slotC 2)) (ixV (slotC 4) (frzD (ret (.val (.int 1))))))) (ret []))))) nextS)
    nextS) (seqS (ifS (cmpB .Eq (frzD (ixV (slotC 4) (frzD (ret (.val (.int 0)))))) (coD (frzD (ret (.val (.str ("if" : Str)))))))
    (seqS (asgS 4 (tupV (consA (frzD (ret (.val (.str ("if" : Str))))) (consA (frzD (ixV (slotC 4) (frzD (ret (.val (.int 1)))))) (consA (frzD (ifV (cmpB .GtE (frzD (ixV (slotC 4) (frzD (ret (.val (.int 2)))))) (slotC 1)) (binV .Add (coD (frzD (ixV (slotC 4) (frzD (ret (.val (.int 2))))))) (slotC 2)) (ixV (slotC 4) (frzD (ret (.val (.int 2))))))) (ret [])))))) nextS)
    nextS) (seqS (appS 3 (frzD (slotV 4))) nextS)))
theorem sh_turn {l : Ln} {a k : Int} {sc : D} {acc : List D} (h : acc.length < 100000) :
    bdSh [.val sc, .val (.int a), .val (.int k), .own (.lst acc), .val (enc l)] = some (.next [.val sc, .val (.int a), .val (.int k), .own (.lst (acc ++ [enc (shL a k l)])), .val (enc (shL a k l))]) := by
  cases l <;> simp [bdSh, enc, shL, h, mv]
  case go t => by_cases ht : a ≤ t <;> simp [ht, h]
  case ifd t => by_cases ht : a ≤ t <;> simp [ht, h]
  case ifk t => by_cases ht : a ≤ t <;> simp [ht, h]
theorem sh_loop {a k : Int} {sc : D} : ∀ (ls : List Ln) (acc : List D) (s4 : Sl), Nr s4 → acc.length + ls.length ≤ 99999 →
    ∃ s4', Nr s4' ∧ forL bdSh (.name 4) (ls.map enc) [.val sc, .val (.int a), .val (.int k), .own (.lst acc), s4] = some (.next [.val sc, .val (.int a), .val (.int k), .own (.lst (acc ++ (ls.map (shL a k)).map enc)), s4'])
  | [], acc, s4, h4, hl => ⟨s4, h4, by simp [forL]⟩
  | l :: ls, acc, s4, h4, hl => by
    have st : storeV 4 (enc l) [.val sc, .val (.int a), .val (.int k), .own (.lst acc), s4] = some [.val sc, .val (.int a), .val (.int k), .own (.lst acc), .val (enc l)] := by
      unfold storeV
      cases s4 with
      | ref m => exact absurd rfl (h4 m)
      | _ => rfl
    obtain ⟨s4', n4, e⟩ := sh_loop ls (acc ++ [enc (shL a k l)]) (.val (enc (shL a k l))) (fun m z => by cases z) (by simp at hl ⊢; omega)
    refine ⟨s4', n4, ?_⟩
    rw [List.map_cons]
    unfold forL
    rw [show stT (.name 4) (enc l) [.val sc, .val (.int a), .val (.int k), .own (.lst acc), s4] = _ from st]
    dsimp only
    rw [sh_turn (by simp at hl; omega)]
    dsimp only
    rw [e]
    simp
theorem shift_is {ls : List Ln} {a k : Int} (h : ls.length ≤ 1000) : F__law_shift [.val (.lst (ls.map enc)), .val (.int a), .val (.int k)] = some (.ret (.new (.lst ((ls.map (shL a k)).map enc))) []) := by
  obtain ⟨s4', n4, e⟩ := sh_loop (a := a) (k := k) (sc := .lst (ls.map enc)) ls [] .no (fun m z => by cases z) (by simp; omega)
  unfold F__law_shift
  rw [show c__law_shift = seqS (asgS 3 (lstV (ret []))) (seqS (forF (itemsF (frzD (slotV 0))) (.name 4) bdSh) (seqS (retN 3) nextS)) from rfl]
  simp only [List.nil_append] at e
  simp [e]
end Lb
set_option maxRecDepth 100000
set_option maxHeartbeats 4000000
namespace Lb
open PySem PySem.Spec PyProof.Rows L2 DI
def sPlan_0 : SDen := (asgS 3 (lstV (consA (frzD (tupV (consA (frzD (tupV (consA (frzD (ret (.val (.str ("count" : Str))))) (ret [])))) (consA (frzD (tupV (consA (frzD (ret (.val (.str ("if" : Str))))) (consA (frzD (ret (.val (.str ("done" : Str))))) (consA (frzD (ret (.val (.int 6)))) (ret [])))))) (consA (frzD (tupV (consA (frzD (ret (.val (.str ("add" : Str))))) (ret [])))) (consA (frzD (tupV (consA (frzD (ret (.val (.str ("send" : Str))))) (ret [])))) (consA (frzD (tupV (consA (frzD (ret (.val (.str ("wait" : Str))))) (ret [])))) (consA (frzD (tupV (consA (frzD (ret (.val (.str ("go" : Str))))) (consA (frzD (ret (.val (.int 0)))) (ret []))))) (consA (frzD (tupV (consA (frzD (ret (.val (.str ("end" : Str))))) (ret [])))) (ret [])))))))))) (ret []))))
def sPlan_1 : SDen := (appS 3 (frzD (tupV (consA (frzD (tupV (consA (frzD (ret (.val (.str ("recall" : Str))))) (ret [])))) (consA (frzD (tupV (consA (frzD (ret (.val (.str ("if" : Str))))) (consA (frzD (ret (.val (.str ("done" : Str))))) (consA (frzD (ret (.val (.int 8)))) (ret [])))))) (consA (frzD (tupV (consA (frzD (ret (.val (.str ("add" : Str))))) (ret [])))) (consA (frzD (tupV (consA (frzD (ret (.val (.str ("send" : Str))))) (ret [])))) (consA (frzD (tupV (consA (frzD (ret (.val (.str ("wait" : Str))))) (ret [])))) (consA (frzD (tupV (consA (frzD (ret (.val (.str ("if" : Str))))) (consA (frzD (ret (.val (.str ("ok" : Str))))) (consA (frzD (ret (.val (.int 7)))) (ret [])))))) (consA (frzD (tupV (consA (frzD (ret (.val (.str ("go" : Str))))) (consA (frzD (ret (.val (.int 3)))) (ret []))))) (consA (frzD (tupV (consA (frzD (ret (.val (.str ("note" : Str))))) (ret [])))) (consA (frzD (tupV (consA (frzD (ret (.val (.str ("end" : Str))))) (ret [])))) (ret [])))))))))))))
def sPlan_2 : SDen := (appS 3 (frzD (tupV (consA (frzD (tupV (consA (frzD (ret (.val (.str ("recall" : Str))))) (ret [])))) (consA (frzD (tupV (consA (frzD (ret (.val (.str ("if" : Str))))) (consA (frzD (ret (.val (.str ("done" : Str))))) (consA (frzD (ret (.val (.int 9)))) (ret [])))))) (consA (frzD (tupV (consA (frzD (ret (.val (.str ("add" : Str))))) (ret [])))) (consA (frzD (tupV (consA (frzD (ret (.val (.str ("send" : Str))))) (ret [])))) (consA (frzD (tupV (consA (frzD (ret (.val (.str ("wait" : Str))))) (ret [])))) (consA (frzD (tupV (consA (frzD (ret (.val (.str ("if" : Str))))) (consA (frzD (ret (.val (.str ("ok" : Str))))) (consA (frzD (ret (.val (.int 7)))) (ret [])))))) (consA (frzD (tupV (consA (frzD (ret (.val (.str ("go" : Str))))) (consA (frzD (ret (.val (.int 0)))) (ret []))))) (consA (frzD (tupV (consA (frzD (ret (.val (.str ("note" : Str))))) (ret [])))) (consA (frzD (tupV (consA (frzD (ret (.val (.str ("go" : Str))))) (consA (frzD (ret (.val (.int 0)))) (ret []))))) (consA (frzD (tupV (consA (frzD (ret (.val (.str ("end" : Str))))) (ret [])))) (ret []))))))))))))))
def sPlan_3 : SDen := (appS 3 (frzD (tupV (consA (frzD (tupV (consA (frzD (ret (.val (.str ("recall" : Str))))) (ret [])))) (consA (frzD (tupV (consA (frzD (ret (.val (.str ("if" : Str))))) (consA (frzD (ret (.val (.str ("done" : Str))))) (consA (frzD (ret (.val (.int 7)))) (ret [])))))) (consA (frzD (tupV (consA (frzD (ret (.val (.str ("add" : Str))))) (ret [])))) (consA (frzD (tupV (consA (frzD (ret (.val (.str ("note" : Str))))) (ret [])))) (consA (frzD (tupV (consA (frzD (ret (.val (.str ("send" : Str))))) (ret [])))) (consA (frzD (tupV (consA (frzD (ret (.val (.str ("wait" : Str))))) (ret [])))) (consA (frzD (tupV (consA (frzD (ret (.val (.str ("go" : Str))))) (consA (frzD (ret (.val (.int 0)))) (ret []))))) (consA (frzD (tupV (consA (frzD (ret (.val (.str ("end" : Str))))) (ret [])))) (ret []))))))))))))
def sPlan_4 : SDen := (appS 3 (frzD (tupV (consA (frzD (tupV (consA (frzD (ret (.val (.str ("recall" : Str))))) (ret [])))) (consA (frzD (tupV (consA (frzD (ret (.val (.str ("add" : Str))))) (ret [])))) (consA (frzD (tupV (consA (frzD (ret (.val (.str ("send" : Str))))) (ret [])))) (consA (frzD (tupV (consA (frzD (ret (.val (.str ("wait" : Str))))) (ret [])))) (consA (frzD (tupV (consA (frzD (ret (.val (.str ("go" : Str))))) (consA (frzD (ret (.val (.int 0)))) (ret []))))) (consA (frzD (tupV (consA (frzD (ret (.val (.str ("end" : Str))))) (ret [])))) (ret []))))))))))
def sPlan_5 : SDen := (appS 3 (frzD (tupV (consA (frzD (tupV (consA (frzD (ret (.val (.str ("recall" : Str))))) (ret [])))) (consA (frzD (tupV (consA (frzD (ret (.val (.str ("if" : Str))))) (consA (frzD (ret (.val (.str ("done" : Str))))) (consA (frzD (ret (.val (.int 7)))) (ret [])))))) (consA (frzD (tupV (consA (frzD (ret (.val (.str ("add" : Str))))) (ret [])))) (consA (frzD (tupV (consA (frzD (ret (.val (.str ("send" : Str))))) (ret [])))) (consA (frzD (tupV (consA (frzD (ret (.val (.str ("wait" : Str))))) (ret [])))) (consA (frzD (tupV (consA (frzD (ret (.val (.str ("note" : Str))))) (ret [])))) (consA (frzD (tupV (consA (frzD (ret (.val (.str ("go" : Str))))) (consA (frzD (ret (.val (.int 1)))) (ret []))))) (consA (frzD (tupV (consA (frzD (ret (.val (.str ("end" : Str))))) (ret [])))) (ret []))))))))))))
def sPlan_6a_0 : SDen := (retS (tupV (consA (frzD (tupV (consA (frzD (ret (.val (.str ("count" : Str))))) (ret [])))) (consA (frzD (tupV (consA (frzD (ret (.val (.str ("if" : Str))))) (consA (frzD (ret (.val (.str ("ok" : Str))))) (consA (frzD (ret (.val (.int 3)))) (ret [])))))) (consA (frzD (tupV (consA (frzD (ret (.val (.str ("note" : Str))))) (ret [])))) (consA (frzD (tupV (consA (frzD (ret (.val (.str ("if" : Str))))) (consA (frzD (ret (.val (.str ("done" : Str))))) (consA (frzD (ret (.val (.int 8)))) (ret [])))))) (consA (frzD (tupV (consA (frzD (ret (.val (.str ("add" : Str))))) (ret [])))) (consA (frzD (tupV (consA (frzD (ret (.val (.str ("send" : Str))))) (ret [])))) (consA (frzD (tupV (consA (frzD (ret (.val (.str ("wait" : Str))))) (ret [])))) (consA (frzD (tupV (consA (frzD (ret (.val (.str ("go" : Str))))) (consA (frzD (ixV (coD (frzD (lstV (consA (frzD (ret (.val (.int 0)))) (consA (frzD (ret (.val (.int 0)))) (consA (frzD (ret (.val (.int 3)))) (ret []))))))) (frzD (bnd (consC (coD (frzD (slotV 0))) (consC (slotC 1) (consC (coD (frzD (ret (.val (.int 3))))) nilC))) (runFn 3 F__law_take))))) (ret []))))) (consA (frzD (tupV (consA (frzD (ret (.val (.str ("end" : Str))))) (ret [])))) (ret []))))))))))))
def qPlan_6a : SDen := (seqS sPlan_6a_0 nextS)
def sPlan_6 : SDen := (ifS (andB [(truC (slotC 2)), (cmpB .Eq (frzD (bnd (consC (coD (frzD (slotV 0))) (consC (slotC 1) (consC (coD (frzD (ret (.val (.int 12))))) nilC))) (runFn 3 F__law_take))) (coD (frzD (ret (.val (.int 0))))))]) qPlan_6a nextS)
def sPlan_7 : SDen := (asgS 4 (bnd (consC (coD (frzD (slotV 0))) (consC (slotC 1) (consC (coD (frzD (ret (.val (.int 4))))) nilC))) (runFn 3 F__law_take)))
def sPlan_8a_0 : SDen := (asgS 7 (binV .Add (coD (frzD (ret (.val (.int 1))))) (coD (frzD (bnd (consC (coD (frzD (slotV 0))) (consC (slotC 1) (consC (coD (frzD (ret (.val (.int 16))))) nilC))) (runFn 3 F__law_take))))))
def sPlan_8a_1 : SDen := (asgS 5 (lcF (rngF1 (frzD (slotV 7))) (frzD (bnd (consC (coD (frzD (slotV 0))) (consC (slotC 1) (consC (coD (frzD (slotV 7))) (consC (coD (frzD (slotV 2))) nilC)))) (runFn 4 F__law_line))) (ret true) (.name 6) [6]))
def sPlan_8a_2 : SDen := (setIxS (frzD (ifV (cmpB .Gt (frzD (bnd (consC (coD (frzD (slotV 0))) (consC (slotC 1) (consC (coD (frzD (ret (.val (.int 3))))) nilC))) (runFn 3 F__law_take))) (coD (frzD (ret (.val (.int 0)))))) (tupV (consA (frzD (ret (.val (.str ("end" : Str))))) (ret []))) (tupV (consA (frzD (ret (.val (.str ("go" : Str))))) (consA (frzD (bnd (consC (coD (frzD (slotV 0))) (consC (slotC 1) (consC (coD (frzD (slotV 7))) nilC))) (runFn 3 F__law_take))) (ret [])))))) 5 (frzD (binV .Sub (slotC 7) (coD (frzD (ret (.val (.int 1))))))))
def sPlan_8a_3 : SDen := (retS (call1C tupleD (slotC 5)))
def qPlan_8a : SDen := (seqS sPlan_8a_0 (seqS sPlan_8a_1 (seqS sPlan_8a_2 (seqS sPlan_8a_3 nextS))))
def sPlan_8 : SDen := (ifS (cmpB .Eq (frzD (slotV 4)) (coD (frzD (ret (.val (.int 0)))))) qPlan_8a nextS)
def sPlan_9 : SDen := (asgS 5 (call1C listD (coD (frzD (ixV (slotC 3) (frzD (bnd (consC (coD (frzD (slotV 0))) (consC (slotC 1) (consC (coD (frzD (ret (.val (.int 6))))) nilC))) (runFn 3 F__law_take))))))))
def sPlan_10a_0 : SDen := (asgS 5 (call1C listD (coD (frzD (ixV (slotC 3) (frzD (ret (.val (.int 2)))))))))
def qPlan_10a : SDen := (seqS sPlan_10a_0 nextS)
def sPlan_10 : SDen := (ifS (andB [(notB (truC (slotC 2))), (cmpB .In (frzD (tupV (consA (frzD (ret (.val (.str ("count" : Str))))) (ret [])))) (slotC 5))]) qPlan_10a nextS)
def sPlan_11f_0 : SDen := (asgS 8 (bnd (consC (coD (frzD (slotV 0))) (consC (slotC 1) (consC (coD (frzD (binV .Sub (coD (frzD (call1C lenD (slotC 5)))) (coD (frzD (ret (.val (.int 1)))))))) nilC))) (runFn 3 F__law_take)))
def sPlan_11f_1 : SDen := (asgS 9 (bnd (consC (coD (frzD (slotV 0))) (consC (slotC 1) (consC (coD (frzD (ret (.val (.int 3))))) nilC))) (runFn 3 F__law_take)))
def sPlan_11f_2a_0 : SDen := (setIxS (frzD (bnd (consC (coD (frzD (slotV 0))) (consC (slotC 1) (consC (coD (frzD (call1C lenD (slotC 5)))) (consC (coD (frzD (slotV 2))) nilC)))) (runFn 4 F__law_line))) 5 (frzD (slotV 8)))
def qPlan_11f_2a : SDen := (seqS sPlan_11f_2a_0 nextS)
def sPlan_11f_2b_0a_0 : SDen := (asgS 5 (bnd (consC (coD (frzD (slotV 5))) (consC (coD (frzD (slotV 8))) (consC (coD (frzD (ret (.val (.int 1))))) nilC))) (runFn 3 F__law_shift)))
def sPlan_11f_2b_0a_1 : SDen := (asgS 5 (binV .Add (coD (frzD (binV .Add (coD (frzD (slcV (slotC 5) noPart (part (frzD (slotV 8)))))) (coD (frzD (lstV (consA (frzD (bnd (consC (coD (frzD (slotV 0))) (consC (slotC 1) (consC (coD (frzD (binV .Add (coD (frzD (call1C lenD (slotC 5)))) (coD (frzD (ret (.val (.int 1)))))))) (consC (coD (frzD (slotV 2))) nilC)))) (runFn 4 F__law_line))) (ret [])))))))) (coD (frzD (slcV (slotC 5) (part (frzD (slotV 8))) noPart)))))
def qPlan_11f_2b_0a : SDen := (seqS sPlan_11f_2b_0a_0 (seqS sPlan_11f_2b_0a_1 nextS))
def sPlan_11f_2b_0b_0a_0 : SDen := (asgS 5 (bnd (consC (coD (frzD (binV .Add (coD (frzD (slcV (slotC 5) noPart (part (frzD (slotV 8)))))) (coD (frzD (slcV (slotC 5) (part (frzD (binV .Add (slotC 8) (coD (frzD (ret (.val (.int 1)))))))) noPart)))))) (consC (coD (frzD (binV .Add (slotC 8) (coD (frzD (ret (.val (.int 1)))))))) (consC (coD (frzD (negV (frzD (ret (.val (.int 1))))))) nilC))) (runFn 3 F__law_shift)))
def qPlan_11f_2b_0b_0a : SDen := (seqS sPlan_11f_2b_0b_0a_0 nextS)
def sPlan_11f_2b_0b_0 : SDen := (ifS (cmpB .Gt (frzD (call1C lenD (slotC 5))) (coD (frzD (ret (.val (.int 3)))))) qPlan_11f_2b_0b_0a nextS)
def qPlan_11f_2b_0b : SDen := (seqS sPlan_11f_2b_0b_0 nextS)
def sPlan_11f_2b_0 : SDen := (ifS (andB [(cmpB .Eq (frzD (slotV 9)) (coD (frzD (ret (.val (.int 1)))))), (cmpB .Lt (frzD (call1C lenD (slotC 5))) (coD (frzD (ret (.val (.int 15))))))]) qPlan_11f_2b_0a qPlan_11f_2b_0b)
def qPlan_11f_2b : SDen := (seqS sPlan_11f_2b_0 nextS)
def sPlan_11f_2 : SDen := (ifS (cmpB .Eq (frzD (slotV 9)) (coD (frzD (ret (.val (.int 0)))))) qPlan_11f_2a qPlan_11f_2b)
def qPlan_11f : SDen := (seqS sPlan_11f_0 (seqS sPlan_11f_1 (seqS sPlan_11f_2 nextS)))
def sPlan_11 : SDen := (forF (rngF1 (frzD (ixV (coD (frzD (lstV (consA (frzD (ret (.val (.int 0)))) (consA (frzD (ret (.val (.int 0)))) (consA (frzD (ret (.val (.int 1)))) (consA (frzD (ret (.val (.int 2)))) (ret [])))))))) (frzD (bnd (consC (coD (frzD (slotV 0))) (consC (slotC 1) (consC (coD (frzD (ret (.val (.int 4))))) nilC))) (runFn 3 F__law_take)))))) (.name 6) qPlan_11f)
def sPlan_12a_0f_0 : SDen := (asgS 8 (bnd (consC (coD (frzD (slotV 0))) (consC (slotC 1) (consC (coD (frzD (binV .Sub (coD (frzD (call1C lenD (slotC 5)))) (coD (frzD (ret (.val (.int 1)))))))) nilC))) (runFn 3 F__law_take)))
def sPlan_12a_0f_1 : SDen := (asgS 5 (bnd (consC (coD (frzD (slotV 5))) (consC (coD (frzD (slotV 8))) (consC (coD (frzD (ret (.val (.int 1))))) nilC))) (runFn 3 F__law_shift)))
def sPlan_12a_0f_2 : SDen := (asgS 5 (binV .Add (coD (frzD (binV .Add (coD (frzD (slcV (slotC 5) noPart (part (frzD (slotV 8)))))) (coD (frzD (lstV (consA (frzD (ixV (coD (frzD (lstV (consA (frzD (tupV (consA (frzD (ret (.val (.str ("recall" : Str))))) (ret [])))) (consA (frzD (tupV (consA (frzD (ret (.val (.str ("note" : Str))))) (ret [])))) (consA (frzD (tupV (consA (frzD (ret (.val (.str ("wait" : Str))))) (ret [])))) (consA (frzD (tupV (consA (frzD (ret (.val (.str ("go" : Str))))) (consA (frzD (binV .Add (slotC 8) (coD (frzD (ret (.val (.int 1))))))) (ret []))))) (consA (frzD (tupV (consA (frzD (ret (.val (.str ("if" : Str))))) (consA (frzD (ret (.val (.str ("ok" : Str))))) (consA (frzD (binV .Add (slotC 8) (coD (frzD (ret (.val (.int 1))))))) (ret [])))))) (ret []))))))))) (frzD (bnd (consC (coD (frzD (slotV 0))) (consC (slotC 1) (consC (coD (frzD (ret (.val (.int 5))))) nilC))) (runFn 3 F__law_take))))) (ret [])))))))) (coD (frzD (slcV (slotC 5) (part (frzD (slotV 8))) noPart)))))
def qPlan_12a_0f : SDen := (seqS sPlan_12a_0f_0 (seqS sPlan_12a_0f_1 (seqS sPlan_12a_0f_2 nextS)))
def sPlan_12a_0 : SDen := (forF (rngF1 (frzD (binV .Sub (coD (frzD (binV .Add (coD (frzD (ret (.val (.int 13))))) (coD (frzD (bnd (consC (coD (frzD (slotV 0))) (consC (slotC 1) (consC (coD (frzD (ret (.val (.int 4))))) nilC))) (runFn 3 F__law_take))))))) (coD (frzD (call1C lenD (slotC 5))))))) (.name 6) qPlan_12a_0f)
def qPlan_12a : SDen := (seqS sPlan_12a_0 nextS)
def sPlan_12 : SDen := (ifS (cmpB .Eq (frzD (bnd (consC (coD (frzD (slotV 0))) (consC (slotC 1) (consC (coD (frzD (ret (.val (.int 4))))) nilC))) (runFn 3 F__law_take))) (coD (frzD (ret (.val (.int 0)))))) qPlan_12a nextS)
def sPlan_13 : SDen := (retS (call1C tupleD (slotC 5)))
def qPlan : SDen := (seqS sPlan_0 (seqS sPlan_1 (seqS sPlan_2 (seqS sPlan_3 (seqS sPlan_4 (seqS sPlan_5 (seqS sPlan_6 (seqS sPlan_7 (seqS sPlan_8 (seqS sPlan_9 (seqS sPlan_10 (seqS sPlan_11 (seqS sPlan_12 (seqS sPlan_13 nextS))))))))))))))
theorem c__law_plan_cut : c__law_plan = qPlan := rfl
/-! ### plans -/
def KN : List (List Ln) := [[.count, .ifd 6, .add, .send, .wait, .go 0, .fin],
  [.recall, .ifd 8, .add, .send, .wait, .ifk 7, .go 3, .note, .fin],
  [.recall, .ifd 9, .add, .send, .wait, .ifk 7, .go 0, .note, .go 0, .fin],
  [.recall, .ifd 7, .add, .note, .send, .wait, .go 0, .fin],
  [.recall, .add, .send, .wait, .go 0, .fin],
  [.recall, .ifd 7, .add, .send, .wait, .note, .go 1, .fin]]
def tupL (ls : List Ln) : D := .tup (ls.map enc)
def KND : List D := KN.map tupL
/-- a plan that keeps the rules -/
structure Gd (c : Bool) (ls : List Ln) : Prop where
  ok : ∀ l ∈ ls, l.ok ls.length c
  lo : 1 ≤ ls.length
  hi : ls.length ≤ 16
  last : ∃ l, ls[ls.length - 1]? = some l ∧ l.last = true
def okN (n : Int) (c : Bool) : Ln → Bool
  | .count => c
  | .go t => decide (0 ≤ t) && decide (t < n)
  | .ifd t => decide (0 ≤ t) && decide (t < n)
  | .ifk t => decide (0 ≤ t) && decide (t < n)
  | _ => true
theorem okN_ok {n : Int} {c : Bool} {l : Ln} (h : okN n c l = true) : l.ok n c := by
  cases l <;> simp [okN] at h <;> simp [Ln.ok, h]
def gdB (c : Bool) (ls : List Ln) : Bool := ls.all (okN ls.length c) && (decide (3 ≤ ls.length) && (decide (ls.length ≤ 15) && match ls[ls.length - 1]? with
  | some l => l.last
  | none => false))
theorem gdB_ok {c : Bool} {ls : List Ln} (h : gdB c ls = true) : Gd c ls ∧ 3 ≤ ls.length ∧ ls.length ≤ 15 := by
  unfold gdB at h
  simp only [Bool.and_eq_true, decide_eq_true_eq, List.all_eq_true] at h
  obtain ⟨h1, h2, h3, h4⟩ := h
  refine ⟨⟨fun l hl => okN_ok (h1 l hl), by omega, by omega, ?_⟩, h2, h3⟩
  split at h4
  · rename_i l e; exact ⟨l, e, h4⟩
  · cases h4
/-- in the midst of the making -/
structure Gm (c : Bool) (ls : List Ln) : Prop where
  g : Gd c ls
  lo : 3 ≤ ls.length
theorem Gm.set {c : Bool} {ls : List Ln} {a : Nat} {l : Ln} (h : Gm c ls) (ha : a < ls.length - 1) (hl : l.ok ls.length c) : Gm c (ls.set a l) := by
  have h3 := h.lo
  refine ⟨⟨fun x hx => ?_, by simp; omega, by simpa using h.g.hi, ?_⟩, by simpa using h3⟩
  · rw [List.length_set]
    rcases List.mem_or_eq_of_mem_set hx with h1 | rfl
    · exact h.g.ok x h1
    · exact hl
  · obtain ⟨l', e, r⟩ := h.g.last
    refine ⟨l', ?_, r⟩
    rw [List.length_set, List.getElem?_set_ne (by omega)]
    exact e
theorem mv_up {n a t : Int} (h : 0 ≤ t ∧ t < n) : 0 ≤ mv a 1 t ∧ mv a 1 t < n + 1 := by unfold mv; split <;> omega
theorem mv_dn {n a t : Int} (h : 0 ≤ t ∧ t < n) (ha : 0 ≤ a) (hn : a < n - 1) : 0 ≤ mv (a + 1) (-1) t ∧ mv (a + 1) (-1) t < n - 1 := by unfold mv; split <;> omega
theorem shL_up {n a : Int} {c : Bool} {l : Ln} (h : l.ok n c) : (shL a 1 l).ok (n + 1) c := by
  cases l <;> first | exact mv_up h | exact h
theorem shL_dn {n a : Int} {c : Bool} {l : Ln} (h : l.ok n c) (ha : 0 ≤ a) (hn : a < n - 1) : (shL (a + 1) (-1) l).ok (n - 1) c := by
  cases l <;> first | exact mv_dn h ha hn | exact h
theorem shL_last {a k : Int} {l : Ln} : (shL a k l).last = l.last := by cases l <;> rfl
theorem Gm.ins {c : Bool} {ls : List Ln} {a : Nat} {l : Ln} (h : Gm c ls) (hi : ls.length < 16) (ha : a < ls.length - 1) (hl : l.ok (ls.length + 1) c) : Gm c ((ls.map (shL a 1)).take a ++ l :: (ls.map (shL a 1)).drop a) := by
  have h3 := h.lo
  have hlen : ((ls.map (shL a 1)).take a ++ l :: (ls.map (shL a 1)).drop a).length = ls.length + 1 := by simp; omega
  refine ⟨⟨fun x hx => ?_, by omega, by omega, ?_⟩, by omega⟩
  · rw [hlen]
    rw [List.mem_append, List.mem_cons] at hx
    have old : ∀ y ∈ ls.map (shL a 1), y.ok (ls.length + 1) c := fun y hy => by
      obtain ⟨z, hz, rfl⟩ := List.mem_map.mp hy
      exact shL_up (h.g.ok z hz)
    rcases hx with hx | rfl | hx
    · exact old x (List.mem_of_mem_take hx)
    · exact hl
    · exact old x (List.mem_of_mem_drop hx)
  · obtain ⟨l', e, r⟩ := h.g.last
    refine ⟨shL a 1 l', ?_, by rw [shL_last]; exact r⟩
    rw [hlen, List.getElem?_append_right (by simp; omega)]
    have : ls.length + 1 - 1 - ((ls.map (shL a 1)).take a).length = (ls.length - 1 - a) + 1 := by simp; omega
    rw [this, List.getElem?_cons_succ, List.getElem?_drop, show a + (ls.length - 1 - a) = ls.length - 1 by omega, List.getElem?_map, e]
    rfl
theorem Gm.del {c : Bool} {ls : List Ln} {a : Nat} (h : Gm c ls) (h4 : 3 < ls.length) (ha : a < ls.length - 1) : Gm c ((ls.take a ++ ls.drop (a + 1)).map (shL (a + 1) (-1))) := by
  have hlen : ((ls.take a ++ ls.drop (a + 1)).map (shL (a + 1) (-1))).length = ls.length - 1 := by simp; omega
  have hi := h.g.hi
  refine ⟨⟨fun x hx => ?_, by omega, by omega, ?_⟩, by omega⟩
  · obtain ⟨z, hz, rfl⟩ := List.mem_map.mp hx
    have hm : z ∈ ls := by
      rw [List.mem_append] at hz
      rcases hz with hz | hz
      · exact List.mem_of_mem_take hz
      · exact List.mem_of_mem_drop hz
    have q := shL_dn (a := (a : Int)) (h.g.ok z hm) (by omega) (by omega)
    rw [hlen]
    rw [show ((ls.length - 1 : Nat) : Int) = (ls.length : Int) - 1 by omega]
    exact q
  · obtain ⟨l', e, r⟩ := h.g.last
    refine ⟨shL (a + 1) (-1) l', ?_, by rw [shL_last]; exact r⟩
    rw [hlen, List.getElem?_map, List.getElem?_append_right (by simp; omega)]
    have : ls.length - 1 - 1 - (ls.take a).length = ls.length - 2 - a := by simp; omega
    rw [this, List.getElem?_drop, show a + 1 + (ls.length - 2 - a) = ls.length - 1 by omega, e]
    rfl
end Lb
set_option maxRecDepth 100000
set_option maxHeartbeats 4000000
namespace Lb
open PySem PySem.Spec PyProof.Rows L2 DI
section
variable {xs : List Int} {s : Nat} {c : Bool} {ls : List Ln} {st kn d4 d5 d6 s3 s4 s5 s6 s7 s8 s9 : Sl} {a w : Int} {cD : D}
theorem len_enc : ((ls.map enc).length : Int) = ls.length := by simp
theorem t11_0 (hn : xs ≠ []) (h : 1 < ls.length) (h8 : Nr s8) : sPlan_11f_0 [.val (rowD xs), .ref (sp s), .val cD, s3, s4, .own (.lst (ls.map enc)), s6, s7, s8, s9] = some (.next [.val (rowD xs), .ref (sp (s + 1)), .val cD, s3, s4, .own (.lst (ls.map enc)), s6, s7, .val (.int (tk xs s ((ls.length : Int) - 1))), s9]) := by
  have e := take_sp (xs := xs) (s := s) (l := (ls.length : Int) - 1) hn (by omega)
  simp [-DI.ev_storeR, -DI.ev_storeV, -List.map_map, -List.length_take, -List.length_drop, -List.map_take, -List.map_drop, -Int.toNat_sub', DI.andB, DI.orB, DI.andV, DI.orV, DI.isBl, DI.notV, DI.negV, DI.chainB, DI.slcD, DI.tupleD, DI.listD, sPlan_11f_0, e, h8]
theorem t11_1 (hn : xs ≠ []) (h9 : Nr s9) : sPlan_11f_1 [.val (rowD xs), .ref (sp s), .val cD, s3, s4, s5, s6, s7, s8, s9] = some (.next [.val (rowD xs), .ref (sp (s + 1)), .val cD, s3, s4, s5, s6, s7, s8, .val (.int (tk xs s 3))]) := by
  simp [-DI.ev_storeR, -DI.ev_storeV, -List.map_map, -List.length_take, -List.length_drop, -List.map_take, -List.map_drop, -Int.toNat_sub', DI.andB, DI.orB, DI.andV, DI.orV, DI.isBl, DI.notV, DI.negV, DI.chainB, DI.slcD, DI.tupleD, DI.listD, sPlan_11f_1, take_sp hn, h9]
theorem nat_of {a : Int} (h : 0 ≤ a) : ∃ k : Nat, a = k := ⟨a.toNat, by omega⟩
theorem t11_b0 (h : ls.length ≤ 1000) : sPlan_11f_2b_0a_0 [.val (rowD xs), .ref (sp s), .val cD, s3, s4, .own (.lst (ls.map enc)), s6, s7, .val (.int a), s9] = some (.next [.val (rowD xs), .ref (sp s), .val cD, s3, s4, .own (.lst ((ls.map (shL a 1)).map enc)), s6, s7, .val (.int a), s9]) := by
  have e1 := shift_is (ls := ls) (a := a) (k := 1) h
  simp [-DI.ev_storeR, -DI.ev_storeV, -List.map_map, -List.length_take, -List.length_drop, -List.map_take, -List.map_drop, -Int.toNat_sub', DI.andB, DI.orB, DI.andV, DI.orV, DI.isBl, DI.notV, DI.negV, DI.chainB, DI.slcD, DI.tupleD, DI.listD, sPlan_11f_2b_0a_0, e1]
theorem t11_b1 {k : Nat} (hn : xs ≠ []) (hk : k ≤ ls.length) (hi : ls.length ≤ 1000) : sPlan_11f_2b_0a_1 [.val (rowD xs), .ref (sp s), .val (.bl c), s3, s4, .own (.lst (ls.map enc)), s6, s7, .val (.int (k : Int)), s9] = some (.next [.val (rowD xs), .ref (sp (lineP xs s ((ls.length : Int) + 1) c).2), .val (.bl c), s3, s4, .own (.lst ((ls.take k ++ (lineP xs s ((ls.length : Int) + 1) c).1 :: ls.drop k).map enc)), s6, s7, .val (.int (k : Int)), s9]) := by
  have e2 := line_is (xs := xs) (s := s) (n := (ls.length : Int) + 1) (c := c) hn (by omega)
  have c1 : DI.cutD (ls.map enc) none (some (k : Int)) = (ls.take k).map enc := by
    rw [cut_take (by omega) (by simp; omega)]
    simp
  have c2 : DI.cutD (ls.map enc) (some (k : Int)) none = (ls.drop k).map enc := by
    rw [cut_drop (by omega) (by simp; omega)]
    simp
  have z1 : (ls.take k).length ≤ 99999 := by simp; omega
  have z2 : (ls.take k).length + 1 + (ls.drop k).length ≤ 100000 := by simp; omega
  simp [-DI.ev_storeR, -DI.ev_storeV, -List.map_map, -List.length_take, -List.length_drop, -List.map_take, -List.map_drop, -Int.toNat_sub', DI.andB, DI.orB, DI.andV, DI.orV, DI.isBl, DI.notV, DI.negV, DI.chainB, DI.slcD, DI.tupleD, DI.listD, sPlan_11f_2b_0a_1, e2, c1, c2, z1, z2]
theorem t11_c {k : Nat} (hk : k < ls.length) (hi : ls.length ≤ 1000) : sPlan_11f_2b_0b_0a_0 [.val (rowD xs), .ref (sp s), .val cD, s3, s4, .own (.lst (ls.map enc)), s6, s7, .val (.int (k : Int)), s9] = some (.next [.val (rowD xs), .ref (sp s), .val cD, s3, s4, .own (.lst (((ls.take k ++ ls.drop (k + 1)).map (shL ((k : Int) + 1) (-1))).map enc)), s6, s7, .val (.int (k : Int)), s9]) := by
  have c1 : DI.cutD (ls.map enc) none (some (k : Int)) = (ls.take k).map enc := by
    rw [cut_take (by omega) (by simp; omega)]
    simp
  have c2 : DI.cutD (ls.map enc) (some ((k : Int) + 1)) none = (ls.drop (k + 1)).map enc := by
    rw [cut_drop (by omega) (by simp; omega)]
    simp
  have z1 : (ls.take k).length + (ls.drop (k + 1)).length ≤ 100000 := by simp; omega
  have e1 := shift_is (ls := ls.take k ++ ls.drop (k + 1)) (a := (k : Int) + 1) (k := -1) (by simp; omega)
  rw [List.map_append] at e1
  simp [-DI.ev_storeR, -DI.ev_storeV, -List.map_map, -List.length_take, -List.length_drop, -List.map_take, -List.map_drop, -Int.toNat_sub', DI.andB, DI.orB, DI.andV, DI.orV, DI.isBl, DI.notV, DI.negV, DI.chainB, DI.slcD, DI.tupleD, DI.listD, -List.map_append, sPlan_11f_2b_0b_0a_0, c1, c2, z1, negV, e1]
theorem t11_2 (hn : xs ≠ []) (g : Gm c ls) (hi : ls.length ≤ 15) (h0 : 0 ≤ a) (ha : a < (ls.length : Int) - 1) : ∃ s' ls', sPlan_11f_2 [.val (rowD xs), .ref (sp s), .val (.bl c), s3, s4, .own (.lst (ls.map enc)), s6, s7, .val (.int a), .val (.int w)] = some (.next [.val (rowD xs), .ref (sp s'), .val (.bl c), s3, s4, .own (.lst (ls'.map enc)), s6, s7, .val (.int a), .val (.int w)]) ∧ Gm c ls' ∧ ls'.length ≤ 15 := by
  obtain ⟨k, rfl⟩ := nat_of h0
  have ix : ixN (ls.map enc).length (k : Int) = some k := by
    rw [ixN_in (by omega) (by simp; omega)]
    simp
  have hlen := g.lo
  by_cases w0 : w = 0
  · refine ⟨(lineP xs s ls.length c).2, ls.set k (lineP xs s ls.length c).1, ?_, g.set (by omega) (lineP_ok (by omega)), by simpa using hi⟩
    have e := line_is (xs := xs) (s := s) (n := (ls.length : Int)) (c := c) hn (by omega)
    simp only [List.length_map] at ix
    simp [-DI.ev_storeR, -DI.ev_storeV, -List.map_map, -List.length_take, -List.length_drop, -List.map_take, -List.map_drop, -Int.toNat_sub', DI.andB, DI.orB, DI.andV, DI.orV, DI.isBl, DI.notV, DI.negV, DI.chainB, DI.slcD, DI.tupleD, DI.listD, sPlan_11f_2, qPlan_11f_2a, sPlan_11f_2a_0, w0, e, ix, List.map_set]
  · by_cases w1 : w = 1 ∧ ls.length < 15
    · obtain ⟨rfl, w2⟩ := w1
      refine ⟨(lineP xs s ((ls.length : Int) + 1) c).2, _, ?_, g.ins (a := k) (l := (lineP xs s ((ls.length : Int) + 1) c).1) (by omega) (by omega) (lineP_ok (by omega)), by simp; omega⟩
      · have w2' : (ls.length : Int) < 15 := by omega
        have b1 := t11_b1 (xs := xs) (s := s) (c := c) (ls := ls.map (shL k 1)) (s3 := s3) (s4 := s4) (s6 := s6) (s7 := s7) (s9 := .val (.int 1)) (k := k) hn (by simp; omega) (by simp; omega)
        rw [List.length_map] at b1
        have q := show qPlan_11f_2b_0a [.val (rowD xs), .ref (sp s), .val (.bl c), s3, s4, .own (.lst (ls.map enc)), s6, s7, .val (.int (k : Int)), .val (.int 1)] = some (.next _) from (seq_next (t11_b0 (by omega))).trans (seq_nil b1)
        simp [-DI.ev_storeR, -DI.ev_storeV, -List.map_map, -List.length_take, -List.length_drop, -List.map_take, -List.map_drop, -Int.toNat_sub', DI.andB, DI.orB, DI.andV, DI.orV, DI.isBl, DI.notV, DI.negV, DI.chainB, DI.slcD, DI.tupleD, DI.listD, sPlan_11f_2, qPlan_11f_2b, sPlan_11f_2b_0, w2', q]
    · have w3 : ¬ (w = 1 ∧ (ls.length : Int) < 15) := fun z => w1 ⟨z.1, by omega⟩
      by_cases h4 : 3 < ls.length
      · refine ⟨s, _, ?_, g.del (a := k) h4 (by omega), by simp; omega⟩
        have h4' : 3 < (ls.length : Int) := by omega
        have q := show qPlan_11f_2b_0b_0a [.val (rowD xs), .ref (sp s), .val (.bl c), s3, s4, .own (.lst (ls.map enc)), s6, s7, .val (.int (k : Int)), .val (.int w)] = some (.next _) from seq_nil (t11_c (by omega) (by omega))
        by_cases z : w = 1
        · have z2 : ¬ (ls.length : Int) < 15 := fun y => w3 ⟨z, y⟩
          subst z
          simp [-DI.ev_storeR, -DI.ev_storeV, -List.map_map, -List.length_take, -List.length_drop, -List.map_take, -List.map_drop, -Int.toNat_sub', DI.andB, DI.orB, DI.andV, DI.orV, DI.isBl, DI.notV, DI.negV, DI.chainB, DI.slcD, DI.tupleD, DI.listD, sPlan_11f_2, qPlan_11f_2b, sPlan_11f_2b_0, qPlan_11f_2b_0b, sPlan_11f_2b_0b_0, z2, h4', q]
        · simp [-DI.ev_storeR, -DI.ev_storeV, -List.map_map, -List.length_take, -List.length_drop, -List.map_take, -List.map_drop, -Int.toNat_sub', DI.andB, DI.orB, DI.andV, DI.orV, DI.isBl, DI.notV, DI.negV, DI.chainB, DI.slcD, DI.tupleD, DI.listD, sPlan_11f_2, qPlan_11f_2b, sPlan_11f_2b_0, qPlan_11f_2b_0b, sPlan_11f_2b_0b_0, w0, z, h4', q]
      · refine ⟨s, ls, ?_, g, hi⟩
        have h4' : ¬ 3 < (ls.length : Int) := by omega
        by_cases z : w = 1
        · have z2 : ¬ (ls.length : Int) < 15 := fun y => w3 ⟨z, y⟩
          subst z
          simp [-DI.ev_storeR, -DI.ev_storeV, -List.map_map, -List.length_take, -List.length_drop, -List.map_take, -List.map_drop, -Int.toNat_sub', DI.andB, DI.orB, DI.andV, DI.orV, DI.isBl, DI.notV, DI.negV, DI.chainB, DI.slcD, DI.tupleD, DI.listD, sPlan_11f_2, qPlan_11f_2b, sPlan_11f_2b_0, qPlan_11f_2b_0b, sPlan_11f_2b_0b_0, z2, h4']
        · simp [-DI.ev_storeR, -DI.ev_storeV, -List.map_map, -List.length_take, -List.length_drop, -List.map_take, -List.map_drop, -Int.toNat_sub', DI.andB, DI.orB, DI.andV, DI.orV, DI.isBl, DI.notV, DI.negV, DI.chainB, DI.slcD, DI.tupleD, DI.listD, sPlan_11f_2, qPlan_11f_2b, sPlan_11f_2b_0, qPlan_11f_2b_0b, sPlan_11f_2b_0b_0, w0, z, h4']
end
end Lb
set_option maxRecDepth 100000
set_option maxHeartbeats 4000000
namespace Lb
open PySem PySem.Spec PyProof.Rows L2 DI
section
variable {xs : List Int} {s : Nat} {c : Bool} {ls : List Ln} {s3 s4 s5 s6 s7 s8 s9 : Sl} {a w : Int} {cD : D}
def P11 (xs : List Int) (c : Bool) (s4 : Sl) (ρ : Rho) : Prop := ∃ s ls s6 s8 s9, ρ = [.val (rowD xs), .ref (sp s), .val (.bl c), .own (.lst KND), s4, .own (.lst (ls.map enc)), s6, .no, s8, s9] ∧ Nr s6 ∧ Nr s8 ∧ Nr s9 ∧ Gm c ls ∧ ls.length ≤ 15
theorem t11 (hn : xs ≠ []) (d : D) (ρ : Rho) (p : P11 xs c s4 ρ) : ∃ ρ1 ρ', stT (.name 6) d ρ = some ρ1 ∧ (qPlan_11f ρ1 = some (.next ρ') ∨ qPlan_11f ρ1 = some (.cont ρ')) ∧ P11 xs c s4 ρ' := by
  obtain ⟨s, ls, s6, s8, s9, rfl, h6, h8, h9, g, hi⟩ := p
  have lo := g.lo
  have q := t11_2 (xs := xs) (s := s + 1 + 1) (c := c) (ls := ls) (s3 := .own (.lst KND)) (s4 := s4) (s6 := .val d) (s7 := .no) (w := tk xs (s + 1) 3) hn g hi (tk_nn (xs := xs) (s := s) (l := (ls.length : Int) - 1) (by omega)) (tk_lt (by omega))
  obtain ⟨s', ls', e, g', hi'⟩ := q
  refine ⟨_, _, st_v (k := 6) (by simpa using h6), .inl ?_, s', ls', .val d, .val (.int (tk xs s ((ls.length : Int) - 1))), .val (.int (tk xs (s + 1) 3)), rfl, by simp, by simp, by simp, g', hi'⟩
  · show qPlan_11f [.val (rowD xs), .ref (sp s), .val (.bl c), .own (.lst KND), s4, .own (.lst (ls.map enc)), .val d, .no, s8, s9] = _
    unfold qPlan_11f
    rw [seq_next (t11_0 hn (by omega) h8), seq_next (t11_1 hn h9), seq_next e]
    rfl
theorem turns {t : Int} (h0 : 0 ≤ t) (h : t < 4) : ∃ j : Int, L2.atI [D.int 0, .int 0, .int 1, .int 2] t = some (.int j) ∧ 0 ≤ j ∧ j ≤ 2 := by
  have : t = 0 ∨ t = 1 ∨ t = 2 ∨ t = 3 := by omega
  rcases this with rfl | rfl | rfl | rfl
  · exact ⟨0, rfl, by omega, by omega⟩
  · exact ⟨0, rfl, by omega, by omega⟩
  · exact ⟨1, rfl, by omega, by omega⟩
  · exact ⟨2, rfl, by omega, by omega⟩
theorem run11 (hn : xs ≠ []) (g : Gm c ls) (hi : ls.length ≤ 15) (h6 : Nr s6) (h8 : Nr s8) (h9 : Nr s9) : ∃ ρ', sPlan_11 [.val (rowD xs), .ref (sp s), .val (.bl c), .own (.lst KND), s4, .own (.lst (ls.map enc)), s6, .no, s8, s9] = some (.next ρ') ∧ P11 xs c s4 ρ' := by
  obtain ⟨j, ej, j0, j2⟩ := turns (tk_nn (xs := xs) (s := s) (l := 4) (by omega)) (tk_lt (by omega))
  obtain ⟨ρ', e, p⟩ := forL_inv (P11 xs c s4) (bd := qPlan_11f) (t := .name 6) (ds := rngL 0 j.toNat) (fun d _ ρ p => t11 hn d ρ p) (ρ := [.val (rowD xs), .ref (sp (s + 1)), .val (.bl c), .own (.lst KND), s4, .own (.lst (ls.map enc)), s6, .no, s8, s9]) ⟨_, ls, s6, s8, s9, rfl, h6, h8, h9, g, hi⟩
  refine ⟨ρ', ?_, p⟩
  have rok : rngOk j = true := by unfold rngOk; simp; omega
  simp [-DI.ev_storeR, -DI.ev_storeV, -List.map_map, -List.length_take, -List.length_drop, -List.map_take, -List.map_drop, -Int.toNat_sub', DI.andB, DI.orB, DI.andV, DI.orV, DI.isBl, DI.notV, DI.negV, DI.chainB, DI.slcD, DI.tupleD, DI.listD, sPlan_11, take_sp hn, ej, rok, e]
/-! ### piling up -/
def l5 (a t : Int) : Ln := match t.toNat with
  | 0 => .recall
  | 1 => .note
  | 2 => .wait
  | 3 => .go (a + 1)
  | _ => .ifk (a + 1)
theorem l5_at {a t : Int} (h0 : 0 ≤ t) (h : t < 5) : L2.atI [D.tup [.str ("recall" : Str)], .tup [.str ("note" : Str)], .tup [.str ("wait" : Str)], .tup [.str ("go" : Str), .int (a + 1)], .tup [.str ("if" : Str), .str ("ok" : Str), .int (a + 1)]] t = some (enc (l5 a t)) := by
  have : t = 0 ∨ t = 1 ∨ t = 2 ∨ t = 3 ∨ t = 4 := by omega
  rcases this with rfl | rfl | rfl | rfl | rfl <;> rfl
theorem l5_ok {a t : Int} {n : Int} (h0 : 0 ≤ a) (h : a + 1 < n) : (l5 a t).ok n c := by
  unfold l5
  split <;> first | exact trivial | exact ⟨by omega, h⟩
theorem t12_0 (hn : xs ≠ []) (h : 1 < ls.length) (h8 : Nr s8) : sPlan_12a_0f_0 [.val (rowD xs), .ref (sp s), .val cD, s3, s4, .own (.lst (ls.map enc)), s6, s7, s8, s9] = some (.next [.val (rowD xs), .ref (sp (s + 1)), .val cD, s3, s4, .own (.lst (ls.map enc)), s6, s7, .val (.int (tk xs s ((ls.length : Int) - 1))), s9]) := by
  have e := take_sp (xs := xs) (s := s) (l := (ls.length : Int) - 1) hn (by omega)
  simp [-DI.ev_storeR, -DI.ev_storeV, -List.map_map, -List.length_take, -List.length_drop, -List.map_take, -List.map_drop, -Int.toNat_sub', DI.andB, DI.orB, DI.andV, DI.orV, DI.isBl, DI.notV, DI.negV, DI.chainB, DI.slcD, DI.tupleD, DI.listD, sPlan_12a_0f_0, e, h8]
theorem t12_1 (h : ls.length ≤ 1000) : sPlan_12a_0f_1 [.val (rowD xs), .ref (sp s), .val cD, s3, s4, .own (.lst (ls.map enc)), s6, s7, .val (.int a), s9] = some (.next [.val (rowD xs), .ref (sp s), .val cD, s3, s4, .own (.lst ((ls.map (shL a 1)).map enc)), s6, s7, .val (.int a), s9]) := by
  have e1 := shift_is (ls := ls) (a := a) (k := 1) h
  simp [-DI.ev_storeR, -DI.ev_storeV, -List.map_map, -List.length_take, -List.length_drop, -List.map_take, -List.map_drop, -Int.toNat_sub', DI.andB, DI.orB, DI.andV, DI.orV, DI.isBl, DI.notV, DI.negV, DI.chainB, DI.slcD, DI.tupleD, DI.listD, sPlan_12a_0f_1, e1]
theorem t12_2 {k : Nat} (hn : xs ≠ []) (hk : k < ls.length) (hi : ls.length ≤ 1000) : sPlan_12a_0f_2 [.val (rowD xs), .ref (sp s), .val cD, s3, s4, .own (.lst (ls.map enc)), s6, s7, .val (.int (k : Int)), s9] = some (.next [.val (rowD xs), .ref (sp (s + 1)), .val cD, s3, s4, .own (.lst ((ls.take k ++ l5 k (tk xs s 5) :: ls.drop k).map enc)), s6, s7, .val (.int (k : Int)), s9]) := by
  have c1 : DI.cutD (ls.map enc) none (some (k : Int)) = (ls.take k).map enc := by
    rw [cut_take (by omega) (by simp; omega)]
    simp
  have c2 : DI.cutD (ls.map enc) (some (k : Int)) none = (ls.drop k).map enc := by
    rw [cut_drop (by omega) (by simp; omega)]
    simp
  have e := l5_at (a := (k : Int)) (tk_nn (xs := xs) (s := s) (l := 5) (by omega)) (tk_lt (by omega))
  have z1 : (ls.take k).length + 1 ≤ 100000 := by simp; omega
  have z2 : (ls.take k).length + 1 + (ls.drop k).length ≤ 100000 := by simp; omega
  simp [-DI.ev_storeR, -DI.ev_storeV, -List.map_map, -List.length_take, -List.length_drop, -List.map_take, -List.map_drop, -Int.toNat_sub', DI.andB, DI.orB, DI.andV, DI.orV, DI.isBl, DI.notV, DI.negV, DI.chainB, DI.slcD, DI.tupleD, DI.listD, sPlan_12a_0f_2, take_sp hn, e, c1, c2, slcD, z1, z2]
def P12 (xs : List Int) (c : Bool) (s4 : Sl) (n : Nat) (ρ : Rho) : Prop := ∃ s ls s6 s8 s9, ρ = [.val (rowD xs), .ref (sp s), .val (.bl c), .own (.lst KND), s4, .own (.lst (ls.map enc)), s6, .no, s8, s9] ∧ Nr s6 ∧ Nr s8 ∧ Gm c ls ∧ ls.length + n ≤ 16
theorem t12 (hn : xs ≠ []) (n : Nat) (d : D) (ρ : Rho) (p : P12 xs c s4 (n + 1) ρ) : ∃ ρ1 ρ', stT (.name 6) d ρ = some ρ1 ∧ (qPlan_12a_0f ρ1 = some (.next ρ') ∨ qPlan_12a_0f ρ1 = some (.cont ρ')) ∧ P12 xs c s4 n ρ' := by
  obtain ⟨s, ls, s6, s8, s9, rfl, h6, h8, g, hi⟩ := p
  have lo := g.lo
  have a0 := tk_nn (xs := xs) (s := s) (l := (ls.length : Int) - 1) (by omega)
  have a1 := tk_lt (xs := xs) (s := s) (l := (ls.length : Int) - 1) (by omega)
  obtain ⟨k, ek⟩ := nat_of a0
  rw [ek] at a1
  have hk : k < ls.length - 1 := by omega
  refine ⟨_, _, st_v (k := 6) (by simpa using h6), .inl ?_, s + 1 + 1, (ls.map (shL k 1)).take k ++ l5 k (tk xs (s + 1) 5) :: (ls.map (shL k 1)).drop k, .val d, .val (.int (k : Int)), s9, rfl, by simp, by simp, g.ins (by omega) hk (l5_ok (by omega) (by omega)), by simp; omega⟩
  show qPlan_12a_0f [.val (rowD xs), .ref (sp s), .val (.bl c), .own (.lst KND), s4, .own (.lst (ls.map enc)), .val d, .no, s8, s9] = _
  unfold qPlan_12a_0f
  rw [seq_next (t12_0 hn (by omega) h8), ek, seq_next (t12_1 (by omega)), seq_next (t12_2 hn (by simp; omega) (by simp; omega))]
  rfl
theorem run12 (hn : xs ≠ []) (g : Gm c ls) (hi : ls.length ≤ 15) (h6 : Nr s6) (h8 : Nr s8) : ∃ ρ', sPlan_12 [.val (rowD xs), .ref (sp s), .val (.bl c), .own (.lst KND), s4, .own (.lst (ls.map enc)), s6, .no, s8, s9] = some (.next ρ') ∧ P12 xs c s4 0 ρ' := by
  by_cases h : tk xs s 4 = 0
  · have t0 := tk_nn (xs := xs) (s := s + 1) (l := 4) (by omega)
    have t1 := tk_lt (xs := xs) (s := s + 1) (l := 4) (by omega)
    have lo := g.lo
    obtain ⟨ρ', e, p⟩ := forL_cnt (P12 xs c s4) (bd := qPlan_12a_0f) (t := .name 6) (t12 hn) (ds := rngL 0 (13 + tk xs (s + 1) 4 - (ls.length : Int)).toNat) (ρ := [.val (rowD xs), .ref (sp (s + 1 + 1)), .val (.bl c), .own (.lst KND), s4, .own (.lst (ls.map enc)), s6, .no, s8, s9]) ⟨_, ls, s6, s8, s9, rfl, h6, h8, g, by rw [rngL_len]; omega⟩
    refine ⟨ρ', ?_, p⟩
    have rok : rngOk (13 + tk xs (s + 1) 4 - (ls.length : Int)) = true := by unfold rngOk; simp; omega
    simp [-DI.ev_storeR, -DI.ev_storeV, -List.map_map, -List.length_take, -List.length_drop, -List.map_take, -List.map_drop, -Int.toNat_sub', DI.andB, DI.orB, DI.andV, DI.orV, DI.isBl, DI.notV, DI.negV, DI.chainB, DI.slcD, DI.tupleD, DI.listD, sPlan_12, qPlan_12a, sPlan_12a_0, take_sp hn, h, rok, e]
  · refine ⟨_, ?_, s + 1, ls, s6, s8, s9, rfl, h6, h8, g, by omega⟩
    simp [-DI.ev_storeR, -DI.ev_storeV, -List.map_map, -List.length_take, -List.length_drop, -List.map_take, -List.map_drop, -Int.toNat_sub', DI.andB, DI.orB, DI.andV, DI.orV, DI.isBl, DI.notV, DI.negV, DI.chainB, DI.slcD, DI.tupleD, DI.listD, sPlan_12, take_sp hn, h]
end
end Lb
set_option maxRecDepth 100000
set_option maxHeartbeats 4000000
namespace Lb
open PySem PySem.Spec PyProof.Rows L2 DI
section
variable {xs : List Int} {s : Nat} {c : Bool} {ls : List Ln} {s3 s4 s5 s6 s7 s8 s9 : Sl} {a w m : Int} {cD : D}
def P8 (xs : List Int) (c : Bool) (m : Int) (n : Nat) (acc : List D) (ρ : Rho) : Prop := ∃ (s : Nat) (ls : List Ln), ρ = [.val (rowD xs), .ref (sp s), .val (.bl c), .own (.lst KND), .val (.int 0), .no, .no, .val (.int m), .no, .no] ∧ acc = ls.map enc ∧ (∀ l ∈ ls, l.ok m c) ∧ (ls.length : Int) + n = m
theorem t8 (hn : xs ≠ []) (h1 : 1 ≤ m) (h16 : m ≤ 16) (n : Nat) (d : D) (acc : List D) (ρ : Rho) (p : P8 xs c m (n + 1) acc ρ) : ∃ ρ1 y ρ3, stT (.name 6) d (inn none 0 ρ) = some ρ1 ∧ (frzD (bnd (consC (coD (frzD (slotV 0))) (consC (slotC 1) (consC (coD (frzD (slotV 7))) (consC (coD (frzD (slotV 2))) nilC)))) (runFn 4 F__law_line))) ρ1 = some (.ok y ρ3) ∧ acc.length < 100000 ∧ P8 xs c m n (acc ++ [y]) (wipeR (outn none 0 ρ ρ3) [6]) := by
  obtain ⟨s, ls, rfl, rfl, ok, hl⟩ := p
  have e := line_is (xs := xs) (s := s) (n := m) (c := c) hn (by omega)
  refine ⟨[.val (rowD xs), .ref (sp s), .val (.bl c), .ref (.lst KND), .val (.int 0), .no, .val d, .val (.int m), .no, .no], enc (lineP xs s m c).1, [.val (rowD xs), .ref (sp (lineP xs s m c).2), .val (.bl c), .ref (.lst KND), .val (.int 0), .no, .val d, .val (.int m), .no, .no], rfl, ?_, by simp; omega, (lineP xs s m c).2, ls ++ [(lineP xs s m c).1], by simp, by simp, ?_, by simp; omega⟩
  · simp [e]
  · intro l hl
    rw [List.mem_append, List.mem_singleton] at hl
    rcases hl with hl | rfl
    · exact ok l hl
    · exact lineP_ok (by omega)
theorem run8 (hn : xs ≠ []) : ∃ s' ls, qPlan_8a [.val (rowD xs), .ref (sp s), .val (.bl c), .own (.lst KND), .val (.int 0), .no, .no, .no, .no, .no] = some (.ret (.val (tupL ls)) [.val (rowD xs), .ref (sp s'), .val (.bl c), .own (.lst KND), .val (.int 0), .own (.lst (ls.map enc)), .no, .val (.int (1 + tk xs s 16)), .no, .no]) ∧ Gd c ls := by
  have t0 := tk_nn (xs := xs) (s := s) (l := 16) (by omega)
  have t1 := tk_lt (xs := xs) (s := s) (l := 16) (by omega)
  generalize hm : 1 + tk xs s 16 = m at *
  have m1 : 1 ≤ m := by omega
  have m2 : m ≤ 16 := by omega
  obtain ⟨ds', ρ', e, s', ls, rfl, rfl, ok, hl⟩ := lcT_cnt (P8 xs c m) (t8 hn m1 m2) (ds := rngL 0 m.toNat) (acc := []) (ρ := [.val (rowD xs), .ref (sp (s + 1)), .val (.bl c), .own (.lst KND), .val (.int 0), .no, .no, .val (.int m), .no, .no]) ⟨s + 1, [], rfl, rfl, by simp, by rw [rngL_len]; simp; omega⟩
  have rok : rngOk m = true := by unfold rngOk; simp; omega
  have a0 : sPlan_8a_0 [.val (rowD xs), .ref (sp s), .val (.bl c), .own (.lst KND), .val (.int 0), .no, .no, .no, .no, .no] = some (.next [.val (rowD xs), .ref (sp (s + 1)), .val (.bl c), .own (.lst KND), .val (.int 0), .no, .no, .val (.int m), .no, .no]) := by
    simp [-DI.ev_storeR, -DI.ev_storeV, -List.map_map, -List.length_take, -List.length_drop, -List.map_take, -List.map_drop, -Int.toNat_sub', DI.andB, DI.orB, DI.andV, DI.orV, DI.isBl, DI.notV, DI.negV, DI.chainB, DI.slcD, DI.tupleD, DI.listD, sPlan_8a_0, take_sp hn, hm]
  have a1 : sPlan_8a_1 [.val (rowD xs), .ref (sp (s + 1)), .val (.bl c), .own (.lst KND), .val (.int 0), .no, .no, .val (.int m), .no, .no] = some (.next [.val (rowD xs), .ref (sp s'), .val (.bl c), .own (.lst KND), .val (.int 0), .own (.lst (ls.map enc)), .no, .val (.int m), .no, .no]) := by
    simp [-DI.ev_storeR, -DI.ev_storeV, -List.map_map, -List.length_take, -List.length_drop, -List.map_take, -List.map_drop, -Int.toNat_sub', DI.andB, DI.orB, DI.andV, DI.orV, DI.isBl, DI.notV, DI.negV, DI.chainB, DI.slcD, DI.tupleD, DI.listD, sPlan_8a_1, rok, e]
  have hlen : ls.length = m.toNat := by omega
  have ix : ixN ls.length (m - 1) = some (m.toNat - 1) := by
    rw [ixN_in (by omega) (by omega)]
    congr 1; omega
  have st : ∀ x : Ln, (ls.map enc).set (m.toNat - 1) (enc x) = (ls.set (m.toNat - 1) x).map enc := fun x => List.map_set.symm
  have gd : ∀ x : Ln, x.ok m c → x.last = true → Gd c (ls.set (m.toNat - 1) x) := fun x hx hl => by
    refine ⟨fun l h => ?_, by simp; omega, by simp; omega, x, ?_, hl⟩
    · rw [List.length_set, hlen, show ((m.toNat : Nat) : Int) = m by omega]
      rcases List.mem_or_eq_of_mem_set h with h1 | rfl
      · exact ok l h1
      · exact hx
    · rw [List.length_set, hlen, List.getElem?_set_self (by omega)]
  by_cases h3 : 0 < tk xs s' 3
  · refine ⟨s' + 1, ls.set (m.toNat - 1) .fin, ?_, gd .fin trivial rfl⟩
    unfold qPlan_8a
    rw [seq_next a0, seq_next a1]
    have q := st .fin
    unfold enc at q
    simp [-DI.ev_storeR, -DI.ev_storeV, -List.map_map, -List.length_take, -List.length_drop, -List.map_take, -List.map_drop, -Int.toNat_sub', DI.andB, DI.orB, DI.andV, DI.orV, DI.isBl, DI.notV, DI.negV, DI.chainB, DI.slcD, DI.tupleD, DI.listD, sPlan_8a_2, sPlan_8a_3, take_sp hn, h3, ix, tupleD, tupL, enc, List.map_set]
  · refine ⟨s' + 1 + 1, ls.set (m.toNat - 1) (.go (tk xs (s' + 1) m)), ?_, gd _ ⟨tk_nn (by omega), tk_lt (by omega)⟩ rfl⟩
    unfold qPlan_8a
    rw [seq_next a0, seq_next a1]
    have e2 := take_sp (xs := xs) (s := s' + 1) (l := m) hn (by omega)
    simp [-DI.ev_storeR, -DI.ev_storeV, -List.map_map, -List.length_take, -List.length_drop, -List.map_take, -List.map_drop, -Int.toNat_sub', DI.andB, DI.orB, DI.andV, DI.orV, DI.isBl, DI.notV, DI.negV, DI.chainB, DI.slcD, DI.tupleD, DI.listD, sPlan_8a_2, sPlan_8a_3, take_sp hn, h3, e2, ix, tupleD, tupL, enc, List.map_set]
/-! ### the whole plan -/
theorem k0 : sPlan_0 [.val (rowD xs), .ref (sp s), .val cD, .no, .no, .no, .no, .no, .no, .no] = some (.next [.val (rowD xs), .ref (sp s), .val cD, .own (.lst [tupL [.count, .ifd 6, .add, .send, .wait, .go 0, .fin]]), .no, .no, .no, .no, .no, .no]) := by
  simp [-DI.ev_storeR, -DI.ev_storeV, -List.map_map, -List.length_take, -List.length_drop, -List.map_take, -List.map_drop, -Int.toNat_sub', DI.andB, DI.orB, DI.andV, DI.orV, DI.isBl, DI.notV, DI.negV, DI.chainB, DI.slcD, DI.tupleD, DI.listD, sPlan_0, tupL, enc]
theorem k1 {acc : List D} (h : acc.length < 100) : sPlan_1 [.val (rowD xs), .ref (sp s), .val cD, .own (.lst acc), .no, .no, .no, .no, .no, .no] = some (.next [.val (rowD xs), .ref (sp s), .val cD, .own (.lst (acc ++ [tupL [.recall, .ifd 8, .add, .send, .wait, .ifk 7, .go 3, .note, .fin]])), .no, .no, .no, .no, .no, .no]) := by
  have h' : acc.length < 100000 := by omega
  simp [-DI.ev_storeR, -DI.ev_storeV, -List.map_map, -List.length_take, -List.length_drop, -List.map_take, -List.map_drop, -Int.toNat_sub', DI.andB, DI.orB, DI.andV, DI.orV, DI.isBl, DI.notV, DI.negV, DI.chainB, DI.slcD, DI.tupleD, DI.listD, sPlan_1, tupL, enc, h']
theorem k2 {acc : List D} (h : acc.length < 100) : sPlan_2 [.val (rowD xs), .ref (sp s), .val cD, .own (.lst acc), .no, .no, .no, .no, .no, .no] = some (.next [.val (rowD xs), .ref (sp s), .val cD, .own (.lst (acc ++ [tupL [.recall, .ifd 9, .add, .send, .wait, .ifk 7, .go 0, .note, .go 0, .fin]])), .no, .no, .no, .no, .no, .no]) := by
  have h' : acc.length < 100000 := by omega
  simp [-DI.ev_storeR, -DI.ev_storeV, -List.map_map, -List.length_take, -List.length_drop, -List.map_take, -List.map_drop, -Int.toNat_sub', DI.andB, DI.orB, DI.andV, DI.orV, DI.isBl, DI.notV, DI.negV, DI.chainB, DI.slcD, DI.tupleD, DI.listD, sPlan_2, tupL, enc, h']
theorem k3 {acc : List D} (h : acc.length < 100) : sPlan_3 [.val (rowD xs), .ref (sp s), .val cD, .own (.lst acc), .no, .no, .no, .no, .no, .no] = some (.next [.val (rowD xs), .ref (sp s), .val cD, .own (.lst (acc ++ [tupL [.recall, .ifd 7, .add, .note, .send, .wait, .go 0, .fin]])), .no, .no, .no, .no, .no, .no]) := by
  have h' : acc.length < 100000 := by omega
  simp [-DI.ev_storeR, -DI.ev_storeV, -List.map_map, -List.length_take, -List.length_drop, -List.map_take, -List.map_drop, -Int.toNat_sub', DI.andB, DI.orB, DI.andV, DI.orV, DI.isBl, DI.notV, DI.negV, DI.chainB, DI.slcD, DI.tupleD, DI.listD, sPlan_3, tupL, enc, h']
theorem k4 {acc : List D} (h : acc.length < 100) : sPlan_4 [.val (rowD xs), .ref (sp s), .val cD, .own (.lst acc), .no, .no, .no, .no, .no, .no] = some (.next [.val (rowD xs), .ref (sp s), .val cD, .own (.lst (acc ++ [tupL [.recall, .add, .send, .wait, .go 0, .fin]])), .no, .no, .no, .no, .no, .no]) := by
  have h' : acc.length < 100000 := by omega
  simp [-DI.ev_storeR, -DI.ev_storeV, -List.map_map, -List.length_take, -List.length_drop, -List.map_take, -List.map_drop, -Int.toNat_sub', DI.andB, DI.orB, DI.andV, DI.orV, DI.isBl, DI.notV, DI.negV, DI.chainB, DI.slcD, DI.tupleD, DI.listD, sPlan_4, tupL, enc, h']
theorem k5 {acc : List D} (h : acc.length < 100) : sPlan_5 [.val (rowD xs), .ref (sp s), .val cD, .own (.lst acc), .no, .no, .no, .no, .no, .no] = some (.next [.val (rowD xs), .ref (sp s), .val cD, .own (.lst (acc ++ [tupL [.recall, .ifd 7, .add, .send, .wait, .note, .go 1, .fin]])), .no, .no, .no, .no, .no, .no]) := by
  have h' : acc.length < 100000 := by omega
  simp [-DI.ev_storeR, -DI.ev_storeV, -List.map_map, -List.length_take, -List.length_drop, -List.map_take, -List.map_drop, -Int.toNat_sub', DI.andB, DI.orB, DI.andV, DI.orV, DI.isBl, DI.notV, DI.negV, DI.chainB, DI.slcD, DI.tupleD, DI.listD, sPlan_5, tupL, enc, h']
def sc3 (g : Int) : List Ln := [.count, .ifk 3, .note, .ifd 8, .add, .send, .wait, .go g, .fin]
theorem sc3_at {t : Int} (h0 : 0 ≤ t) (h : t < 3) : ∃ g, L2.atI [D.int 0, .int 0, .int 3] t = some (.int g) ∧ Gd true (sc3 g) := by
  have : t = 0 ∨ t = 1 ∨ t = 2 := by omega
  rcases this with rfl | rfl | rfl
  · exact ⟨0, rfl, (gdB_ok (by decide)).1⟩
  · exact ⟨0, rfl, (gdB_ok (by decide)).1⟩
  · exact ⟨3, rfl, (gdB_ok (by decide)).1⟩
theorem kn_at {t : Int} (h0 : 0 ≤ t) (h : t < 6) : ∃ ls ∈ KN, L2.atI KND t = some (tupL ls) ∧ (c = false → ls.any isC = true ∨ gdB false ls = true) ∧ gdB true ls = true := by
  have : t = 0 ∨ t = 1 ∨ t = 2 ∨ t = 3 ∨ t = 4 ∨ t = 5 := by omega
  rcases this with rfl | rfl | rfl | rfl | rfl | rfl
  · exact ⟨_, .head _, rfl, fun _ => .inl (by decide), by decide⟩
  · exact ⟨_, .tail _ (.head _), rfl, fun _ => .inr (by decide), by decide⟩
  · exact ⟨_, .tail _ (.tail _ (.head _)), rfl, fun _ => .inr (by decide), by decide⟩
  · exact ⟨_, .tail _ (.tail _ (.tail _ (.head _))), rfl, fun _ => .inr (by decide), by decide⟩
  · exact ⟨_, .tail _ (.tail _ (.tail _ (.tail _ (.head _)))), rfl, fun _ => .inr (by decide), by decide⟩
  · exact ⟨_, .tail _ (.tail _ (.tail _ (.tail _ (.tail _ (.head _))))), rfl, fun _ => .inr (by decide), by decide⟩
theorem Gm.of {ls : List Ln} (h : gdB c ls = true) : Gm c ls ∧ ls.length ≤ 15 := by
  obtain ⟨a, b, d⟩ := gdB_ok h
  exact ⟨⟨a, b⟩, d⟩
/-- from the choice of a known plan on -/
theorem fromKnown (hn : xs ≠ []) : ∃ s' ls ρ', (seqS sPlan_9 (seqS sPlan_10 (seqS sPlan_11 (seqS sPlan_12 (seqS sPlan_13 nextS))))) [.val (rowD xs), .ref (sp s), .val (.bl c), .own (.lst KND), .val (.int w), .no, .no, .no, .no, .no] = some (.ret (.val (tupL ls)) (.val (rowD xs) :: .ref (sp s') :: .val (.bl c) :: ρ')) ∧ Gd c ls := by
  obtain ⟨l0, hm, e0, hf, ht⟩ := kn_at (c := c) (tk_nn (xs := xs) (s := s) (l := 6) (by omega)) (tk_lt (by omega))
  have a9 : sPlan_9 [.val (rowD xs), .ref (sp s), .val (.bl c), .own (.lst KND), .val (.int w), .no, .no, .no, .no, .no] = some (.next [.val (rowD xs), .ref (sp (s + 1)), .val (.bl c), .own (.lst KND), .val (.int w), .own (.lst (l0.map enc)), .no, .no, .no, .no]) := by
    simp [-DI.ev_storeR, -DI.ev_storeV, -List.map_map, -List.length_take, -List.length_drop, -List.map_take, -List.map_drop, -Int.toNat_sub', DI.andB, DI.orB, DI.andV, DI.orV, DI.isBl, DI.notV, DI.negV, DI.chainB, DI.slcD, DI.tupleD, DI.listD, sPlan_9, take_sp hn, e0, listD, tupL]
  have a10 : ∃ l1, sPlan_10 [.val (rowD xs), .ref (sp (s + 1)), .val (.bl c), .own (.lst KND), .val (.int w), .own (.lst (l0.map enc)), .no, .no, .no, .no] = some (.next [.val (rowD xs), .ref (sp (s + 1)), .val (.bl c), .own (.lst KND), .val (.int w), .own (.lst (l1.map enc)), .no, .no, .no, .no]) ∧ gdB c l1 = true := by
    cases c with
    | true => exact ⟨l0, by simp [-DI.ev_storeR, -DI.ev_storeV, -List.map_map, -List.length_take, -List.length_drop, -List.map_take, -List.map_drop, -Int.toNat_sub', DI.andB, DI.orB, DI.andV, DI.orV, DI.isBl, DI.notV, DI.negV, DI.chainB, DI.slcD, DI.tupleD, DI.listD, sPlan_10, andB], ht⟩
    | false =>
      have i2 := (in_count l0).2
      by_cases hc : l0.any isC = true
      · refine ⟨[.recall, .ifd 9, .add, .send, .wait, .ifk 7, .go 0, .note, .go 0, .fin], ?_, by decide⟩
        rw [hc] at i2
        have e2 : L2.atI KND 2 = some (tupL [.recall, .ifd 9, .add, .send, .wait, .ifk 7, .go 0, .note, .go 0, .fin]) := rfl
        simp [-DI.ev_storeR, -DI.ev_storeV, -List.map_map, -List.length_take, -List.length_drop, -List.map_take, -List.map_drop, -Int.toNat_sub', DI.andB, DI.orB, DI.andV, DI.orV, DI.isBl, DI.notV, DI.negV, DI.chainB, DI.slcD, DI.tupleD, DI.listD, sPlan_10, qPlan_10a, sPlan_10a_0, i2, e2, listD, tupL]
      · refine ⟨l0, ?_, ?_⟩
        · rw [Bool.not_eq_true] at hc
          rw [hc] at i2
          simp [-DI.ev_storeR, -DI.ev_storeV, -List.map_map, -List.length_take, -List.length_drop, -List.map_take, -List.map_drop, -Int.toNat_sub', DI.andB, DI.orB, DI.andV, DI.orV, DI.isBl, DI.notV, DI.negV, DI.chainB, DI.slcD, DI.tupleD, DI.listD, sPlan_10, i2]
        · rcases hf rfl with z | z
          · exact absurd z hc
          · exact z
  obtain ⟨l1, e10, g1⟩ := a10
  obtain ⟨g1, h15⟩ := Gm.of g1
  obtain ⟨ρ1, e11, s2, l2, s6, s8, s9, rfl, h6, h8, h9, g2, h15'⟩ := run11 (s := s + 1) (s4 := .val (.int w)) (s6 := .no) (s8 := .no) (s9 := .no) hn g1 h15 (by simp) (by simp) (by simp)
  obtain ⟨ρ2, e12, s3, l3, s6', s8', s9', rfl, _, _, g3, _⟩ := run12 (s := s2) (s4 := .val (.int w)) (s9 := s9) hn g2 h15' h6 h8
  refine ⟨s3, l3, [.own (.lst KND), .val (.int w), .own (.lst (l3.map enc)), s6', .no, s8', s9'], ?_, g3.g⟩
  rw [seq_next a9, seq_next e10, seq_next e11, seq_next e12]
  simp [-DI.ev_storeR, -DI.ev_storeV, -List.map_map, -List.length_take, -List.length_drop, -List.map_take, -List.map_drop, -Int.toNat_sub', DI.andB, DI.orB, DI.andV, DI.orV, DI.isBl, DI.notV, DI.negV, DI.chainB, DI.slcD, DI.tupleD, DI.listD, sPlan_13, tupleD, tupL]
theorem plan_is (hn : xs ≠ []) : ∃ s' ls, F__law_plan [.val (rowD xs), .ref (sp s), .val (.bl c)] = some (.ret (.val (tupL ls)) [(1, sp s')]) ∧ Gd c ls := by
  have fin : ∀ (s' : Nat) (ls : List Ln) (ρ' : Rho), qPlan [.val (rowD xs), .ref (sp s), .val (.bl c), .no, .no, .no, .no, .no, .no, .no] = some (.ret (.val (tupL ls)) (.val (rowD xs) :: .ref (sp s') :: .val (.bl c) :: ρ')) → F__law_plan [.val (rowD xs), .ref (sp s), .val (.bl c)] = some (.ret (.val (tupL ls)) [(1, sp s')]) := fun s' ls ρ' e => by
    unfold F__law_plan
    rw [c__law_plan_cut]
    show (if 3 = 3 then match qPlan [.val (rowD xs), .ref (sp s), .val (.bl c), .no, .no, .no, .no, .no, .no, .no] with
      | some (.next ρ) => (outsAt 0 [.val (rowD xs), .ref (sp s), .val (.bl c)] ρ).map (Res.ret (.val .non))
      | some (.ret r ρ) => (outsAt 0 [.val (rowD xs), .ref (sp s), .val (.bl c)] ρ).map (Res.ret r)
      | some (.exc c' d ρ) => (outsAt 0 [.val (rowD xs), .ref (sp s), .val (.bl c)] ρ).map (Res.exc c' d)
      | _ => none else none) = _
    rw [e]
    rfl
  have kn : ∀ X : SDen, (seqS sPlan_0 (seqS sPlan_1 (seqS sPlan_2 (seqS sPlan_3 (seqS sPlan_4 (seqS sPlan_5 X)))))) [.val (rowD xs), .ref (sp s), .val (.bl c), .no, .no, .no, .no, .no, .no, .no] = X [.val (rowD xs), .ref (sp s), .val (.bl c), .own (.lst KND), .no, .no, .no, .no, .no, .no] := fun X => by
    rw [seq_next k0, seq_next (k1 (by decide)), seq_next (k2 (by decide)), seq_next (k3 (by decide)), seq_next (k4 (by decide)), seq_next (k5 (by decide))]
    rfl
  have mid : ∀ s1 : Nat, ∃ s' ls ρ', (seqS sPlan_7 (seqS sPlan_8 (seqS sPlan_9 (seqS sPlan_10 (seqS sPlan_11 (seqS sPlan_12 (seqS sPlan_13 nextS))))))) [.val (rowD xs), .ref (sp s1), .val (.bl c), .own (.lst KND), .no, .no, .no, .no, .no, .no] = some (.ret (.val (tupL ls)) (.val (rowD xs) :: .ref (sp s') :: .val (.bl c) :: ρ')) ∧ Gd c ls := fun s1 => by
    have a7 : sPlan_7 [.val (rowD xs), .ref (sp s1), .val (.bl c), .own (.lst KND), .no, .no, .no, .no, .no, .no] = some (.next [.val (rowD xs), .ref (sp (s1 + 1)), .val (.bl c), .own (.lst KND), .val (.int (tk xs s1 4)), .no, .no, .no, .no, .no]) := by
      simp [-DI.ev_storeR, -DI.ev_storeV, -List.map_map, -List.length_take, -List.length_drop, -List.map_take, -List.map_drop, -Int.toNat_sub', DI.andB, DI.orB, DI.andV, DI.orV, DI.isBl, DI.notV, DI.negV, DI.chainB, DI.slcD, DI.tupleD, DI.listD, sPlan_7, take_sp hn]
    rw [seq_next a7]
    by_cases h0 : tk xs s1 4 = 0
    · obtain ⟨s', ls, e, g⟩ := run8 (xs := xs) (s := s1 + 1) (c := c) hn
      have a8 : sPlan_8 [.val (rowD xs), .ref (sp (s1 + 1)), .val (.bl c), .own (.lst KND), .val (.int (tk xs s1 4)), .no, .no, .no, .no, .no] = qPlan_8a [.val (rowD xs), .ref (sp (s1 + 1)), .val (.bl c), .own (.lst KND), .val (.int 0), .no, .no, .no, .no, .no] := by
        simp [-DI.ev_storeR, -DI.ev_storeV, -List.map_map, -List.length_take, -List.length_drop, -List.map_take, -List.map_drop, -Int.toNat_sub', DI.andB, DI.orB, DI.andV, DI.orV, DI.isBl, DI.notV, DI.negV, DI.chainB, DI.slcD, DI.tupleD, DI.listD, sPlan_8, h0]
      exact ⟨s', ls, _, seq_ret (a8.trans e), g⟩
    · have a8 : sPlan_8 [.val (rowD xs), .ref (sp (s1 + 1)), .val (.bl c), .own (.lst KND), .val (.int (tk xs s1 4)), .no, .no, .no, .no, .no] = some (.next [.val (rowD xs), .ref (sp (s1 + 1)), .val (.bl c), .own (.lst KND), .val (.int (tk xs s1 4)), .no, .no, .no, .no, .no]) := by
        simp [-DI.ev_storeR, -DI.ev_storeV, -List.map_map, -List.length_take, -List.length_drop, -List.map_take, -List.map_drop, -Int.toNat_sub', DI.andB, DI.orB, DI.andV, DI.orV, DI.isBl, DI.notV, DI.negV, DI.chainB, DI.slcD, DI.tupleD, DI.listD, sPlan_8, h0]
      rw [seq_next a8]
      exact fromKnown hn
  by_cases hc : c = true ∧ tk xs s 12 = 0
  · obtain ⟨rfl, h12⟩ := hc
    obtain ⟨g, eg, gg⟩ := sc3_at (tk_nn (xs := xs) (s := s + 1) (l := 3) (by omega)) (tk_lt (by omega))
    refine ⟨s + 1 + 1, sc3 g, fin _ _ [.own (.lst KND), .no, .no, .no, .no, .no, .no] ?_, gg⟩
    · unfold qPlan
      rw [kn]
      simp [-DI.ev_storeR, -DI.ev_storeV, -List.map_map, -List.length_take, -List.length_drop, -List.map_take, -List.map_drop, -Int.toNat_sub', DI.andB, DI.orB, DI.andV, DI.orV, DI.isBl, DI.notV, DI.negV, DI.chainB, DI.slcD, DI.tupleD, DI.listD, sPlan_6, qPlan_6a, sPlan_6a_0, take_sp hn, h12, eg, tupL, sc3, enc]
  · have a6 : ∃ s1, sPlan_6 [.val (rowD xs), .ref (sp s), .val (.bl c), .own (.lst KND), .no, .no, .no, .no, .no, .no] = some (.next [.val (rowD xs), .ref (sp s1), .val (.bl c), .own (.lst KND), .no, .no, .no, .no, .no, .no]) := by
      cases c with
      | false => exact ⟨s, by simp [-DI.ev_storeR, -DI.ev_storeV, -List.map_map, -List.length_take, -List.length_drop, -List.map_take, -List.map_drop, -Int.toNat_sub', DI.andB, DI.orB, DI.andV, DI.orV, DI.isBl, DI.notV, DI.negV, DI.chainB, DI.slcD, DI.tupleD, DI.listD, sPlan_6]⟩
      | true =>
        have h12 : ¬ tk xs s 12 = 0 := fun z => hc ⟨rfl, z⟩
        exact ⟨s + 1, by simp [-DI.ev_storeR, -DI.ev_storeV, -List.map_map, -List.length_take, -List.length_drop, -List.map_take, -List.map_drop, -Int.toNat_sub', DI.andB, DI.orB, DI.andV, DI.orV, DI.isBl, DI.notV, DI.negV, DI.chainB, DI.slcD, DI.tupleD, DI.listD, sPlan_6, take_sp hn, h12]⟩
    obtain ⟨s1, e6⟩ := a6
    obtain ⟨s', ls, ρ', e, g⟩ := mid s1
    refine ⟨s', ls, fin _ _ ρ' ?_, g⟩
    unfold qPlan
    rw [kn, seq_next e6]
    exact e
end
end Lb
set_option maxRecDepth 100000
set_option maxHeartbeats 4000000
namespace Lb
open PySem PySem.Spec PyProof.Rows L2 DI
section
variable {xs : List Int} {s : Nat} {c r t : Bool} {ls : List Ln} {a w m : Int}
def caseD (c r t : Bool) (ls : List Ln) : D := .tup [.tup [.bl c, .bl r, .bl t], tupL ls]
def prD (c r t : Bool) : D := .obj "Printer" [("_counts", .bl c), ("_remembers", .bl r), ("_tells", .bl t)]
def plD (ls : List Ln) : D := .obj "Plan" [("_lines", tupL ls)]
theorem case_is (hn : xs ≠ []) : ∃ s' c r t ls, F__law_case [.val (rowD xs), .ref (sp s)] = some (.ret (.val (caseD c r t ls)) [(1, sp s')]) ∧ Gd c ls := by
  obtain ⟨s', ls, e, g⟩ := plan_is (xs := xs) (s := s + 1 + 1 + 1) (c := decide (tk xs s 2 = 0)) hn
  refine ⟨s', _, decide (tk xs (s + 1) 3 = 0), decide (0 < tk xs (s + 1 + 1) 3), ls, ?_, g⟩
  · unfold F__law_case c__law_case
    simp [-DI.ev_storeR, -DI.ev_storeV, -List.map_map, -List.length_take, -List.length_drop, -List.map_take, -List.map_drop, -Int.toNat_sub', DI.andB, DI.orB, DI.andV, DI.orV, DI.isBl, DI.notV, DI.negV, DI.chainB, DI.slcD, DI.tupleD, DI.listD, printer_is hn, e, caseD]
@[simp] theorem flag_is {b : Bool} : F_values_is_flag [.val (.bl b)] = some (.ret (.val (.bl true)) []) := by
  cases b <;> rfl
theorem prInit : F_Printer___init__ [.ref (.ins "Printer" []), .val (.bl c), .val (.bl r), .val (.bl t)] = some (.ret (.val .non) [(0, .ins "Printer" [("_counts", .bl c), ("_remembers", .bl r), ("_tells", .bl t)])]) := by
  unfold F_Printer___init__ c_Printer___init__
  simp
  rfl
theorem machine_is : F__law_machine [.val (caseD c r t ls)] = some (.ret (.val (prD c r t)) []) := by
  unfold F__law_machine c__law_machine
  simp [-DI.ev_storeR, -DI.ev_storeV, -List.map_map, -List.length_take, -List.length_drop, -List.map_take, -List.map_drop, -Int.toNat_sub', DI.andB, DI.orB, DI.andV, DI.orV, DI.isBl, DI.notV, DI.negV, DI.chainB, DI.slcD, DI.tupleD, DI.listD, caseD, prInit, shiftO, prD]
/-! ### plans made -/
@[simp] theorem seq_tup {ds : List D} : F_values_is_sequence [.val (.tup ds)] = some (.ret (.val (.bl true)) []) := rfl
@[simp] theorem seq_lst {ds : List D} : F_values_is_sequence [.val (.lst ds)] = some (.ret (.val (.bl true)) []) := rfl
theorem number_is {i lo hi : Int} : F_values_is_number [.val (.int i), .val (.int lo), .val (.int hi)] = some (.ret (.val (.bl (decide (lo ≤ i ∧ i ≤ hi)))) []) := by
  have e : F_values_is_integer [.val (.int i)] = some (.ret (.val (.bl true)) []) := rfl
  unfold F_values_is_number c_values_is_number
  by_cases h1 : lo ≤ i <;> by_cases h2 : i ≤ hi <;> simp [e, andV, isBl, chainB, h1, h2]
end
end Lb
set_option maxRecDepth 100000
set_option maxHeartbeats 4000000
namespace Lb
open PySem PySem.Spec PyProof.Rows L2 DI
section
variable {xs : List Int} {s : Nat} {c r t : Bool} {ls : List Ln} {l : Ln} {a w m n : Int}
theorem bare_recall : inD (.str ("recall" : Str)) con_BARE_WORDS = some true := by kernel_rfl
theorem bare_note : inD (.str ("note" : Str)) con_BARE_WORDS = some true := by kernel_rfl
theorem bare_count : inD (.str ("count" : Str)) con_BARE_WORDS = some true := by kernel_rfl
theorem bare_add : inD (.str ("add" : Str)) con_BARE_WORDS = some true := by kernel_rfl
theorem bare_send : inD (.str ("send" : Str)) con_BARE_WORDS = some true := by kernel_rfl
theorem bare_wait : inD (.str ("wait" : Str)) con_BARE_WORDS = some true := by kernel_rfl
theorem bare_end : inD (.str ("end" : Str)) con_BARE_WORDS = some true := by kernel_rfl
theorem tests_done : inD (.str ("done" : Str)) con_TESTS = some true := by kernel_rfl
theorem tests_ok : inD (.str ("ok" : Str)) con_TESTS = some true := by kernel_rfl
theorem last_end : inD (.str ("end" : Str)) con_LAST_WORDS = some true := by kernel_rfl
theorem last_go : inD (.str ("go" : Str)) con_LAST_WORDS = some true := by kernel_rfl
theorem line_ok (h : l.ok n c) : F_plans__is_line [.val (enc l), .val (.int n)] = some (.ret (.val (.bl true)) []) := by
  unfold F_plans__is_line c_plans__is_line
  cases l
  case recall => simp [-DI.ev_storeR, -DI.ev_storeV, -List.map_map, -List.length_take, -List.length_drop, -List.map_take, -List.map_drop, -Int.toNat_sub', DI.andB, DI.orB, DI.andV, DI.orV, DI.isBl, DI.notV, DI.negV, DI.chainB, DI.slcD, DI.tupleD, DI.listD, enc, bare_recall]
  case note => simp [-DI.ev_storeR, -DI.ev_storeV, -List.map_map, -List.length_take, -List.length_drop, -List.map_take, -List.map_drop, -Int.toNat_sub', DI.andB, DI.orB, DI.andV, DI.orV, DI.isBl, DI.notV, DI.negV, DI.chainB, DI.slcD, DI.tupleD, DI.listD, enc, bare_note]
  case count => simp [-DI.ev_storeR, -DI.ev_storeV, -List.map_map, -List.length_take, -List.length_drop, -List.map_take, -List.map_drop, -Int.toNat_sub', DI.andB, DI.orB, DI.andV, DI.orV, DI.isBl, DI.notV, DI.negV, DI.chainB, DI.slcD, DI.tupleD, DI.listD, enc, bare_count]
  case add => simp [-DI.ev_storeR, -DI.ev_storeV, -List.map_map, -List.length_take, -List.length_drop, -List.map_take, -List.map_drop, -Int.toNat_sub', DI.andB, DI.orB, DI.andV, DI.orV, DI.isBl, DI.notV, DI.negV, DI.chainB, DI.slcD, DI.tupleD, DI.listD, enc, bare_add]
  case send => simp [-DI.ev_storeR, -DI.ev_storeV, -List.map_map, -List.length_take, -List.length_drop, -List.map_take, -List.map_drop, -Int.toNat_sub', DI.andB, DI.orB, DI.andV, DI.orV, DI.isBl, DI.notV, DI.negV, DI.chainB, DI.slcD, DI.tupleD, DI.listD, enc, bare_send]
  case wait => simp [-DI.ev_storeR, -DI.ev_storeV, -List.map_map, -List.length_take, -List.length_drop, -List.map_take, -List.map_drop, -Int.toNat_sub', DI.andB, DI.orB, DI.andV, DI.orV, DI.isBl, DI.notV, DI.negV, DI.chainB, DI.slcD, DI.tupleD, DI.listD, enc, bare_wait]
  case fin => simp [-DI.ev_storeR, -DI.ev_storeV, -List.map_map, -List.length_take, -List.length_drop, -List.map_take, -List.map_drop, -Int.toNat_sub', DI.andB, DI.orB, DI.andV, DI.orV, DI.isBl, DI.notV, DI.negV, DI.chainB, DI.slcD, DI.tupleD, DI.listD, enc, bare_end]
  case go t =>
    have h' : 0 ≤ t ∧ t ≤ n - 1 := ⟨h.1, by have := h.2; omega⟩
    simp [-DI.ev_storeR, -DI.ev_storeV, -List.map_map, -List.length_take, -List.length_drop, -List.map_take, -List.map_drop, -Int.toNat_sub', DI.andB, DI.orB, DI.andV, DI.orV, DI.isBl, DI.notV, DI.negV, DI.chainB, DI.slcD, DI.tupleD, DI.listD, enc, number_is, h']
  case ifd t =>
    have h' : 0 ≤ t ∧ t ≤ n - 1 := ⟨h.1, by have := h.2; omega⟩
    simp [-DI.ev_storeR, -DI.ev_storeV, -List.map_map, -List.length_take, -List.length_drop, -List.map_take, -List.map_drop, -Int.toNat_sub', DI.andB, DI.orB, DI.andV, DI.orV, DI.isBl, DI.notV, DI.negV, DI.chainB, DI.slcD, DI.tupleD, DI.listD, enc, number_is, h', tests_done]
  case ifk t =>
    have h' : 0 ≤ t ∧ t ≤ n - 1 := ⟨h.1, by have := h.2; omega⟩
    simp [-DI.ev_storeR, -DI.ev_storeV, -List.map_map, -List.length_take, -List.length_drop, -List.map_take, -List.map_drop, -Int.toNat_sub', DI.andB, DI.orB, DI.andV, DI.orV, DI.isBl, DI.notV, DI.negV, DI.chainB, DI.slcD, DI.tupleD, DI.listD, enc, number_is, h', tests_ok]
theorem nr_pl {s : Sl} (h : isPl (some s) = true) : Nr s := by
  cases s <;> first | simp | simp [isPl] at h
theorem inn_pl {s : Sl} (h : isPl (some s) = true) : innS s = s := by
  cases s <;> first | rfl | simp [isPl] at h
theorem out_pl {s s2 : Sl} (h : isPl (some s) = true) : outS s s2 = s := by
  cases s <;> first | rfl | (cases s2 <;> rfl) | simp [isPl] at h
theorem mem_enumD {d : D} : ∀ {ds : List D} {k : Int}, d ∈ enumD k ds → ∃ i x, d = .tup [.int i, x] ∧ x ∈ ds
  | [], k, h => by simp at h
  | y :: ds, k, h => by
    rw [en_cons, List.mem_cons] at h
    rcases h with rfl | h
    · exact ⟨k, y, rfl, .head _⟩
    · obtain ⟨i, x, e, m⟩ := mem_enumD h
      exact ⟨i, x, e, .tail _ m⟩
def sPI_0a_0 : SDen := (raiseS ("BadValue" : Str) (frzD (ret (.val (.int 1)))))
def qPI_0a : SDen := (seqS sPI_0a_0 nextS)
def sPI_0 : SDen := (ifS (orB [(notB (truC (coD (frzD (bnd (consC (coD (frzD (slotV 1))) nilC) (runFn 1 F_values_is_sequence)))))), (notB (chainB .LtE .LtE (frzD (ret (.val (.int 1)))) (frzD (call1C lenD (slotC 1))) (frzD (ret (.val con_MOST_LINES)))))]) qPI_0a nextS)
def sPI_1f_0a_0 : SDen := (raiseS ("BadLine" : Str) (frzD (slotV 3)))
def qPI_1f_0a : SDen := (seqS sPI_1f_0a_0 nextS)
def sPI_1f_0 : SDen := (ifS (notB (truC (coD (frzD (bnd (consC (coD (frzD (slotV 4))) (consC (coD (frzD (call1C lenD (slotC 1)))) nilC)) (runFn 2 F_plans__is_line)))))) qPI_1f_0a nextS)
def qPI_1f : SDen := (seqS sPI_1f_0 nextS)
def sPI_1 : SDen := (forF (enumF 0 (frzD (slotV 1))) (.tup [(.name 3), (.name 4)]) qPI_1f)
def sPI_2 : SDen := (asgS 2 (binV .Sub (coD (frzD (call1C lenD (slotC 1)))) (coD (frzD (ret (.val (.int 1)))))))
def sPI_3a_0 : SDen := (raiseS ("BadLine" : Str) (frzD (slotV 2)))
def qPI_3a : SDen := (seqS sPI_3a_0 nextS)
def sPI_3 : SDen := (ifS (cmpB .NotIn (frzD (ixV (coD (frzD (ixV (slotC 1) (frzD (slotV 2))))) (frzD (ret (.val (.int 0)))))) (coD (frzD (ret (.val con_LAST_WORDS))))) qPI_3a nextS)
def sPI_4 : SDen := (setFS 0 ("_lines" : Str) (frzD (call1C tupleD (coD (frzD (lcF (itemsF (frzD (slotV 1))) (frzD (call1C tupleD (slotC 4))) (ret true) (.name 4) [4]))))))
def qPI : SDen := (seqS sPI_0 (seqS sPI_1 (seqS sPI_2 (seqS sPI_3 (seqS sPI_4 nextS)))))
theorem c_Plan___init___cut : c_Plan___init__ = qPI := rfl
def PPI (ls : List Ln) (ρ : Rho) : Prop := ∃ s3 s4, ρ = [.ref (.ins "Plan" []), .val (tupL ls), .no, s3, s4] ∧ isPl (some s3) = true ∧ isPl (some s4) = true
theorem pi_turn (g : Gd c ls) (d : D) (hd : d ∈ enumD 0 (ls.map enc)) (ρ : Rho) (p : PPI ls ρ) : ∃ ρ1 ρ', stT (.tup [.name 3, .name 4]) d ρ = some ρ1 ∧ (qPI_1f ρ1 = some (.next ρ') ∨ qPI_1f ρ1 = some (.cont ρ')) ∧ PPI ls ρ' := by
  obtain ⟨s3, s4, rfl, h3, h4⟩ := p
  obtain ⟨i, x, rfl, hx⟩ := mem_enumD hd
  obtain ⟨l, hl, rfl⟩ := List.mem_map.mp hx
  refine ⟨[.ref (.ins "Plan" []), .val (tupL ls), .no, .val (.int i), .val (enc l)], [.ref (.ins "Plan" []), .val (tupL ls), .no, .val (.int i), .val (enc l)], ?_, .inl ?_, _, _, rfl, by simp, by simp⟩
  · simp [-DI.ev_storeR, -DI.ev_storeV, -List.map_map, -List.length_take, -List.length_drop, -List.map_take, -List.map_drop, -Int.toNat_sub', DI.andB, DI.orB, DI.andV, DI.orV, DI.isBl, DI.notV, DI.negV, DI.chainB, DI.slcD, DI.tupleD, DI.listD, nr_pl h3, nr_pl h4]
  · have e := line_ok (g.ok l hl)
    simp [-DI.ev_storeR, -DI.ev_storeV, -List.map_map, -List.length_take, -List.length_drop, -List.map_take, -List.map_drop, -Int.toNat_sub', DI.andB, DI.orB, DI.andV, DI.orV, DI.isBl, DI.notV, DI.negV, DI.chainB, DI.slcD, DI.tupleD, DI.listD, qPI_1f, sPI_1f_0, tupL, e]
theorem planInit (g : Gd c ls) : F_Plan___init__ [.ref (.ins "Plan" []), .val (tupL ls)] = some (.ret (.val .non) [(0, .ins "Plan" [("_lines", tupL ls)])]) := by
  unfold F_Plan___init__
  rw [c_Plan___init___cut]
  have a0 : sPI_0 [.ref (.ins "Plan" []), .val (tupL ls), .no, .no, .no] = some (.next [.ref (.ins "Plan" []), .val (tupL ls), .no, .no, .no]) := by
    have h1 : 1 ≤ (ls.length : Int) := by have := g.lo; omega
    have h2 : (ls.length : Int) ≤ 16 := by have := g.hi; omega
    simp [-DI.ev_storeR, -DI.ev_storeV, -List.map_map, -List.length_take, -List.length_drop, -List.map_take, -List.map_drop, -Int.toNat_sub', DI.andB, DI.orB, DI.andV, DI.orV, DI.isBl, DI.notV, DI.negV, DI.chainB, DI.slcD, DI.tupleD, DI.listD, sPI_0, tupL, con_MOST_LINES, h1, h2]
  obtain ⟨ρ', e1, s3, s4, rfl, h3, h4⟩ := forL_inv (PPI ls) (pi_turn g) (ρ := [.ref (.ins "Plan" []), .val (tupL ls), .no, .no, .no]) ⟨_, _, rfl, by simp, by simp⟩
  have a1 : sPI_1 [.ref (.ins "Plan" []), .val (tupL ls), .no, .no, .no] = some (.next [.ref (.ins "Plan" []), .val (tupL ls), .no, s3, s4]) := by
    have i1 : itemsI (tupL ls) = some (ls.map enc) := rfl
    simp [-DI.ev_storeR, -DI.ev_storeV, -List.map_map, -List.length_take, -List.length_drop, -List.map_take, -List.map_drop, -Int.toNat_sub', DI.andB, DI.orB, DI.andV, DI.orV, DI.isBl, DI.notV, DI.negV, DI.chainB, DI.slcD, DI.tupleD, DI.listD, sPI_1, i1, e1]
  have a2 : sPI_2 [.ref (.ins "Plan" []), .val (tupL ls), .no, s3, s4] = some (.next [.ref (.ins "Plan" []), .val (tupL ls), .val (.int ((ls.length : Int) - 1)), s3, s4]) := by
    simp [-DI.ev_storeR, -DI.ev_storeV, -List.map_map, -List.length_take, -List.length_drop, -List.map_take, -List.map_drop, -Int.toNat_sub', DI.andB, DI.orB, DI.andV, DI.orV, DI.isBl, DI.notV, DI.negV, DI.chainB, DI.slcD, DI.tupleD, DI.listD, sPI_2, tupL]
  obtain ⟨z, hz, hl⟩ := g.last
  have lo := g.lo
  have az : L2.atI (ls.map enc) ((ls.length : Int) - 1) = some (enc z) := by
    refine atI_in (by omega) ?_
    rw [show ((ls.length : Int) - 1).toNat = ls.length - 1 by omega, List.getElem?_map, hz]
    rfl
  have a3 : sPI_3 [.ref (.ins "Plan" []), .val (tupL ls), .val (.int ((ls.length : Int) - 1)), s3, s4] = some (.next [.ref (.ins "Plan" []), .val (tupL ls), .val (.int ((ls.length : Int) - 1)), s3, s4]) := by
    cases z <;> simp [Ln.last] at hl
    · simp [-DI.ev_storeR, -DI.ev_storeV, -List.map_map, -List.length_take, -List.length_drop, -List.map_take, -List.map_drop, -Int.toNat_sub', DI.andB, DI.orB, DI.andV, DI.orV, DI.isBl, DI.notV, DI.negV, DI.chainB, DI.slcD, DI.tupleD, DI.listD, sPI_3, tupL, az, enc, last_end]
    · simp [-DI.ev_storeR, -DI.ev_storeV, -List.map_map, -List.length_take, -List.length_drop, -List.map_take, -List.map_drop, -Int.toNat_sub', DI.andB, DI.orB, DI.andV, DI.orV, DI.isBl, DI.notV, DI.negV, DI.chainB, DI.slcD, DI.tupleD, DI.listD, sPI_3, tupL, az, enc, last_go]
  have i1 : itemsI (tupL ls) = some (ls.map enc) := rfl
  have e4 := lcT_map (elt := frzD (call1C tupleD (slotC 4))) (t := .name 4) (ks := [4]) (ρ := [.ref (.ins "Plan" []), .val (tupL ls), .val (.int ((ls.length : Int) - 1)), s3, .no]) id (ds := ls.map enc) (acc := []) (fun d hd => by
    obtain ⟨l, _, rfl⟩ := List.mem_map.mp hd
    refine ⟨[.ref (.ins "Plan" []), .val (tupL ls), .val (.int ((ls.length : Int) - 1)), s3, .val (enc l)], [.ref (.ins "Plan" []), .val (tupL ls), .val (.int ((ls.length : Int) - 1)), s3, .val (enc l)], ?_, ?_, ?_⟩
    · simp [-DI.ev_storeR, -DI.ev_storeV, -List.map_map, -List.length_take, -List.length_drop, -List.map_take, -List.map_drop, -Int.toNat_sub', DI.andB, DI.orB, DI.andV, DI.orV, DI.isBl, DI.notV, DI.negV, DI.chainB, DI.slcD, DI.tupleD, DI.listD, inn_pl h3]
    · cases l <;> simp [-DI.ev_storeR, -DI.ev_storeV, -List.map_map, -List.length_take, -List.length_drop, -List.map_take, -List.map_drop, -Int.toNat_sub', DI.andB, DI.orB, DI.andV, DI.orV, DI.isBl, DI.notV, DI.negV, DI.chainB, DI.slcD, DI.tupleD, DI.listD, enc]
    · simp [-DI.ev_storeR, -DI.ev_storeV, -List.map_map, -List.length_take, -List.length_drop, -List.map_take, -List.map_drop, -Int.toNat_sub', DI.andB, DI.orB, DI.andV, DI.orV, DI.isBl, DI.notV, DI.negV, DI.chainB, DI.slcD, DI.tupleD, DI.listD, out_pl h3]) (by have := g.hi; simp; omega)
  rw [List.nil_append, List.map_id] at e4
  have a4 : sPI_4 [.ref (.ins "Plan" []), .val (tupL ls), .val (.int ((ls.length : Int) - 1)), s3, s4] = some (.next [.ref (.ins "Plan" [("_lines", tupL ls)]), .val (tupL ls), .val (.int ((ls.length : Int) - 1)), s3, s4]) := by
    simp [-DI.ev_storeR, -DI.ev_storeV, -List.map_map, -List.length_take, -List.length_drop, -List.map_take, -List.map_drop, -Int.toNat_sub', DI.andB, DI.orB, DI.andV, DI.orV, DI.isBl, DI.notV, DI.negV, DI.chainB, DI.slcD, DI.tupleD, DI.listD, sPI_4, i1, e4, h4, putD]
    rfl
  have q := show qPI [.ref (.ins "Plan" []), .val (tupL ls), .no, .no, .no] = some (.next _) from (seq_next (b := seqS sPI_1 (seqS sPI_2 (seqS sPI_3 (seqS sPI_4 nextS)))) a0).trans ((seq_next a1).trans ((seq_next a2).trans ((seq_next a3).trans (seq_nil a4))))
  simp [-DI.ev_storeR, -DI.ev_storeV, -List.map_map, -List.length_take, -List.length_drop, -List.map_take, -List.map_drop, -Int.toNat_sub', DI.andB, DI.orB, DI.andV, DI.orV, DI.isBl, DI.notV, DI.negV, DI.chainB, DI.slcD, DI.tupleD, DI.listD, q]
theorem made_is (g : Gd c ls) : F__law_made [.val (caseD c r t ls)] = some (.ret (.val (plD ls)) []) := by
  unfold F__law_made c__law_made
  simp [-DI.ev_storeR, -DI.ev_storeV, -List.map_map, -List.length_take, -List.length_drop, -List.map_take, -List.map_drop, -Int.toNat_sub', DI.andB, DI.orB, DI.andV, DI.orV, DI.isBl, DI.notV, DI.negV, DI.chainB, DI.slcD, DI.tupleD, DI.listD, caseD, planInit g, shiftO, plD]
end
end Lb
set_option maxRecDepth 100000
set_option maxHeartbeats 4000000
namespace Lb
open PySem PySem.Spec PyProof.Rows L2 DI
section
variable {xs : List Int} {s : Nat} {c r t : Bool} {ls : List Ln} {l : Ln} {a w m n : Int}
/-! ### the house -/
def hsD (r t : Bool) (ls : List Ln) : D := .obj "House" [("rows", tupL ls), ("piling", .bl (ls.any isC)), ("remembering", .bl r), ("telling", .bl t)]
@[simp] theorem lkh_rows {a b c d : D} : List.lookup ("rows" : Str) [(("rows" : Str), a), (("piling" : Str), b), (("remembering" : Str), c), (("telling" : Str), d)] = some a := rfl
@[simp] theorem lkh_piling {a b c d : D} : List.lookup ("piling" : Str) [(("rows" : Str), a), (("piling" : Str), b), (("remembering" : Str), c), (("telling" : Str), d)] = some b := rfl
@[simp] theorem lkh_remembering {a b c d : D} : List.lookup ("remembering" : Str) [(("rows" : Str), a), (("piling" : Str), b), (("remembering" : Str), c), (("telling" : Str), d)] = some c := rfl
@[simp] theorem lkh_telling {a b c d : D} : List.lookup ("telling" : Str) [(("rows" : Str), a), (("piling" : Str), b), (("remembering" : Str), c), (("telling" : Str), d)] = some d := rfl
theorem p_lines : P_lines "Plan" = some F_Plan_lines := rfl
theorem p_counts : P_counts "Printer" = some F_Printer_counts := rfl
theorem p_remembers : P_remembers "Printer" = some F_Printer_remembers := rfl
theorem p_tells : P_tells "Printer" = some F_Printer_tells := rfl
theorem get_lines : F_Plan_lines [.val (.obj "Plan" [("_lines", tupL ls)])] = some (.ret (.val (tupL ls)) []) := rfl
theorem get_counts : F_Printer_counts [.val (.obj "Printer" [("_counts", .bl c), ("_remembers", .bl r), ("_tells", .bl t)])] = some (.ret (.val (.bl c)) []) := rfl
theorem get_remembers : F_Printer_remembers [.val (.obj "Printer" [("_counts", .bl c), ("_remembers", .bl r), ("_tells", .bl t)])] = some (.ret (.val (.bl r)) []) := rfl
theorem get_tells : F_Printer_tells [.val (.obj "Printer" [("_counts", .bl c), ("_remembers", .bl r), ("_tells", .bl t)])] = some (.ret (.val (.bl t)) []) := rfl
theorem asks_is : F_plans_asks_count [.val (plD ls)] = some (.ret (.val (.bl (ls.any isC))) []) := by
  have i1 := (in_count ls).1
  unfold F_plans_asks_count c_plans_asks_count
  simp [-DI.ev_storeR, -DI.ev_storeV, -List.map_map, -List.length_take, -List.length_drop, -List.map_take, -List.map_drop, -Int.toNat_sub', DI.andB, DI.orB, DI.andV, DI.orV, DI.isBl, DI.notV, DI.negV, DI.chainB, DI.slcD, DI.tupleD, DI.listD, plD, p_lines, get_lines]
  simp [-DI.ev_storeR, -DI.ev_storeV, -List.map_map, -List.length_take, -List.length_drop, -List.map_take, -List.map_drop, -Int.toNat_sub', DI.andB, DI.orB, DI.andV, DI.orV, DI.isBl, DI.notV, DI.negV, DI.chainB, DI.slcD, DI.tupleD, DI.listD, tupL, i1]
theorem houseInit : F_House___init__ [.ref (.ins "House" []), .val (prD c r t), .val (plD ls)] = some (.ret (.val .non) [(0, .ins "House" [("rows", tupL ls), ("piling", .bl (ls.any isC)), ("remembering", .bl r), ("telling", .bl t)])]) := by
  have e := asks_is (ls := ls)
  unfold plD at e
  unfold F_House___init__ c_House___init__
  have n1 : ¬ (("rows" : Str) = "piling") := by decide
  have n2 : ¬ (("rows" : Str) = "remembering") := by decide
  have n3 : ¬ (("rows" : Str) = "telling") := by decide
  have n4 : ¬ (("piling" : Str) = "remembering") := by decide
  have n5 : ¬ (("piling" : Str) = "telling") := by decide
  have n6 : ¬ (("remembering" : Str) = "telling") := by decide
  simp [-DI.ev_storeR, -DI.ev_storeV, -List.map_map, -List.length_take, -List.length_drop, -List.map_take, -List.map_drop, -Int.toNat_sub', DI.andB, DI.orB, DI.andV, DI.orV, DI.isBl, DI.notV, DI.negV, DI.chainB, DI.slcD, DI.tupleD, DI.listD, plD, prD, p_lines, get_lines, p_remembers, get_remembers, p_tells, get_tells, e, putD, n1, n2, n3, n4, n5, n6]
theorem any_ok (g : Gd c ls) (h : ls.any isC = true) : c = true := by
  obtain ⟨l, hl, e⟩ := List.any_eq_true.mp h
  have o := g.ok l hl
  cases l <;> simp [isC] at e
  exact o
theorem fit_is (g : Gd c ls) : F_plans_check_fit [.val (prD c r t), .val (plD ls)] = some (.ret (.val .non) []) := by
  have e := asks_is (ls := ls)
  unfold plD at e
  unfold F_plans_check_fit c_plans_check_fit
  cases h : ls.any isC with
  | false =>
    rw [h] at e
    simp [-DI.ev_storeR, -DI.ev_storeV, -List.map_map, -List.length_take, -List.length_drop, -List.map_take, -List.map_drop, -Int.toNat_sub', DI.andB, DI.orB, DI.andV, DI.orV, DI.isBl, DI.notV, DI.negV, DI.chainB, DI.slcD, DI.tupleD, DI.listD, plD, prD, isOwn, e]
  | true =>
    rw [h] at e
    have := any_ok g h
    subst this
    simp [-DI.ev_storeR, -DI.ev_storeV, -List.map_map, -List.length_take, -List.length_drop, -List.map_take, -List.map_drop, -Int.toNat_sub', DI.andB, DI.orB, DI.andV, DI.orV, DI.isBl, DI.notV, DI.negV, DI.chainB, DI.slcD, DI.tupleD, DI.listD, plD, prD, isOwn, e, p_counts, get_counts]
theorem pages_is {p : Int} (h0 : 0 ≤ p) (h1 : p ≤ 1000000000) : F_moments__check_pages [.val (.int p)] = some (.ret (.val .non) []) := by
  unfold F_moments__check_pages c_moments__check_pages
  simp [-DI.ev_storeR, -DI.ev_storeV, -List.map_map, -List.length_take, -List.length_drop, -List.map_take, -List.map_drop, -Int.toNat_sub', DI.andB, DI.orB, DI.andV, DI.orV, DI.isBl, DI.notV, DI.negV, DI.chainB, DI.slcD, DI.tupleD, DI.listD, number_is, con_MOST_NUMBER, h0, h1]
/-! ### moments -/
inductive Wy where
  | non
  | told (b : Bool)
  | sheet (k : Int)
structure Mo where
  ln : Option Int
  at_ : Int
  ok : Bool
  nt : Int
  wy : Wy
  last : Int
  ly : Int
def wyD : Wy → D
  | .non => .non
  | .told b => .tup [.str "told", .bl b]
  | .sheet k => .int k
def lnD : Option Int → D
  | none => .non
  | some i => .int i
def moL (m : Mo) (w : D) : List D := [lnD m.ln, .int m.at_, .bl m.ok, .int m.nt, w, .int m.last, .int m.ly]
def moD (m : Mo) : D := .tup (moL m (wyD m.wy))
/-- how a way may be written -/
inductive WyR : Wy → D → Prop
  | as (w : Wy) : WyR w (wyD w)
  | lst (b : Bool) : WyR (.told b) (.lst [.str "told", .bl b])
inductive MoR (m : Mo) : D → Prop
  | tup {w : D} : WyR m.wy w → MoR m (.tup (moL m w))
  | lst {w : D} : WyR m.wy w → MoR m (.lst (moL m w))
theorem MoR.as (m : Mo) : MoR m (moD m) := .tup (.as _)
def lnAt (ls : List Ln) (i : Int) : Ln := (ls[i.toNat]?).getD .fin
theorem lnAt_at {i : Int} (h0 : 0 ≤ i) (h : i < ls.length) : L2.atI (ls.map enc) i = some (enc (lnAt ls i)) := by
  refine atI_in h0 ?_
  rw [List.getElem?_map, List.getElem?_eq_getElem (by omega)]
  unfold lnAt
  rw [List.getElem?_eq_getElem (by omega)]
  rfl
theorem lnAt_mem {i : Int} (h0 : 0 ≤ i) (h : i < ls.length) : lnAt ls i ∈ ls := by
  unfold lnAt
  rw [List.getElem?_eq_getElem (by omega)]
  exact List.getElem_mem _
def wd : Ln → Str
  | .recall => "recall"
  | .note => "note"
  | .count => "count"
  | .add => "add"
  | .send => "send"
  | .wait => "wait"
  | .fin => "end"
  | .go _ => "go"
  | .ifd _ => "if"
  | .ifk _ => "if"
def isSW : Ln → Bool
  | .send => true
  | .wait => true
  | _ => false
theorem wd_at : ixD (enc l) (.int 0) = some (.str (wd l)) := by cases l <;> rfl
theorem sw_tup : inD (.str (wd l)) (.tup [.str ("send" : Str), .str ("wait" : Str)]) = some (isSW l) := by cases l <;> kernel_rfl
theorem sw_lst : inD (.str (wd l)) (.lst [.str ("send" : Str), .str ("wait" : Str)]) = some (isSW l) := by cases l <;> kernel_rfl
def chs (ls : List Ln) (m : Mo) : List Int := match m.wy with
  | .sheet _ => match m.ln with
    | none => [1, 2]
    | some i => if isSW (lnAt ls i) then [1, 2, 3, 4] else [0, 1, 2, 3, 4]
  | _ => match m.ln with
    | none => []
    | some _ => [0, 5]
def okM (ls : List Ln) (m : Mo) : Prop := ∀ i, m.ln = some i → 0 ≤ i ∧ i < ls.length
@[simp] theorem sheet_i {k : Int} : F_steps_is_sheet [.val (.int k)] = some (.ret (.val (.bl true)) []) := rfl
@[simp] theorem sheet_n : F_steps_is_sheet [.val .non] = some (.ret (.val (.bl false)) []) := rfl
@[simp] theorem sheet_t {ds : List D} : F_steps_is_sheet [.val (.tup ds)] = some (.ret (.val (.bl false)) []) := rfl
@[simp] theorem sheet_l {ds : List D} : F_steps_is_sheet [.val (.lst ds)] = some (.ret (.val (.bl false)) []) := rfl
theorem open_is {mo : Mo} {d : D} (h : okM ls mo) (hd : MoR mo d) : F_steps_open_choices [.val (hsD r t ls), .val d] = some (.ret (.val (.tup ((chs ls mo).map .int))) []) := by
  obtain ⟨ln, at_, ok, nt, wy, last, ly⟩ := mo
  have main : ∀ w, WyR wy w → ∀ d, (d = .tup (moL ⟨ln, at_, ok, nt, wy, last, ly⟩ w) ∨ d = .lst (moL ⟨ln, at_, ok, nt, wy, last, ly⟩ w)) → F_steps_open_choices [.val (hsD r t ls), .val d] = some (.ret (.val (.tup ((chs ls ⟨ln, at_, ok, nt, wy, last, ly⟩).map .int))) []) := by
    intro w hw d hd
    unfold F_steps_open_choices c_steps_open_choices
    cases ln with
    | none =>
      cases hw with
      | lst b => rcases hd with rfl | rfl <;> simp [-DI.ev_storeR, -DI.ev_storeV, -List.map_map, -List.length_take, -List.length_drop, -List.map_take, -List.map_drop, -Int.toNat_sub', DI.andB, DI.orB, DI.andV, DI.orV, DI.isBl, DI.notV, DI.negV, DI.chainB, DI.slcD, DI.tupleD, DI.listD, moL, lnD, chs]
      | as =>
        cases wy <;> rcases hd with rfl | rfl <;> simp [-DI.ev_storeR, -DI.ev_storeV, -List.map_map, -List.length_take, -List.length_drop, -List.map_take, -List.map_drop, -Int.toNat_sub', DI.andB, DI.orB, DI.andV, DI.orV, DI.isBl, DI.notV, DI.negV, DI.chainB, DI.slcD, DI.tupleD, DI.listD, moL, lnD, chs, wyD, con_LIE, con_JAM]
    | some i =>
      obtain ⟨h0, h1⟩ := h i rfl
      have e := lnAt_at h0 h1
      cases hw with
      | lst b => rcases hd with rfl | rfl <;> simp [-DI.ev_storeR, -DI.ev_storeV, -List.map_map, -List.length_take, -List.length_drop, -List.map_take, -List.map_drop, -Int.toNat_sub', DI.andB, DI.orB, DI.andV, DI.orV, DI.isBl, DI.notV, DI.negV, DI.chainB, DI.slcD, DI.tupleD, DI.listD, moL, lnD, chs, con_GO_ON, con_CUT]
      | as =>
        cases wy with
        | non => rcases hd with rfl | rfl <;> simp [-DI.ev_storeR, -DI.ev_storeV, -List.map_map, -List.length_take, -List.length_drop, -List.map_take, -List.map_drop, -Int.toNat_sub', DI.andB, DI.orB, DI.andV, DI.orV, DI.isBl, DI.notV, DI.negV, DI.chainB, DI.slcD, DI.tupleD, DI.listD, moL, lnD, chs, wyD, con_GO_ON, con_CUT]
        | told b => rcases hd with rfl | rfl <;> simp [-DI.ev_storeR, -DI.ev_storeV, -List.map_map, -List.length_take, -List.length_drop, -List.map_take, -List.map_drop, -Int.toNat_sub', DI.andB, DI.orB, DI.andV, DI.orV, DI.isBl, DI.notV, DI.negV, DI.chainB, DI.slcD, DI.tupleD, DI.listD, moL, lnD, chs, wyD, con_GO_ON, con_CUT]
        | sheet k =>
          cases hs : isSW (lnAt ls i) <;> rcases hd with rfl | rfl <;> simp [-DI.ev_storeR, -DI.ev_storeV, -List.map_map, -List.length_take, -List.length_drop, -List.map_take, -List.map_drop, -Int.toNat_sub', DI.andB, DI.orB, DI.andV, DI.orV, DI.isBl, DI.notV, DI.negV, DI.chainB, DI.slcD, DI.tupleD, DI.listD, moL, lnD, chs, wyD, hsD, tupL, e, wd_at, sw_tup, hs, con_LIE, con_JAM, con_CUT_LYING, con_CUT_LOSING, con_GO_ON]
  cases hd with
  | tup hw => exact main _ hw _ (.inl rfl)
  | lst hw => exact main _ hw _ (.inr rfl)
@[simp] theorem num_i {k : Int} : F__law_numeric [.val (.int k)] = some (.ret (.val (.bl true)) []) := rfl
@[simp] theorem num_n : F__law_numeric [.val .non] = some (.ret (.val (.bl false)) []) := rfl
@[simp] theorem num_t {ds : List D} : F__law_numeric [.val (.tup ds)] = some (.ret (.val (.bl false)) []) := rfl
theorem goes_is {mo : Mo} (h : okM ls mo) : F__law_goes [.val (caseD c r t ls), .val (moD mo)] = some (.ret (.val (.bl (match mo.ln with
  | none => false
  | some i => match mo.wy with
    | .sheet _ => !isSW (lnAt ls i)
    | _ => true))) []) := by
  obtain ⟨ln, at_, ok, nt, wy, last, ly⟩ := mo
  unfold F__law_goes c__law_goes
  cases ln with
  | none => cases wy <;> simp [-DI.ev_storeR, -DI.ev_storeV, -List.map_map, -List.length_take, -List.length_drop, -List.map_take, -List.map_drop, -Int.toNat_sub', DI.andB, DI.orB, DI.andV, DI.orV, DI.isBl, DI.notV, DI.negV, DI.chainB, DI.slcD, DI.tupleD, DI.listD, moD, moL, lnD, wyD]
  | some i =>
    obtain ⟨h0, h1⟩ := h i rfl
    have e := lnAt_at h0 h1
    cases wy with
    | non => simp [-DI.ev_storeR, -DI.ev_storeV, -List.map_map, -List.length_take, -List.length_drop, -List.map_take, -List.map_drop, -Int.toNat_sub', DI.andB, DI.orB, DI.andV, DI.orV, DI.isBl, DI.notV, DI.negV, DI.chainB, DI.slcD, DI.tupleD, DI.listD, moD, moL, lnD, wyD, caseD]
    | told b => simp [-DI.ev_storeR, -DI.ev_storeV, -List.map_map, -List.length_take, -List.length_drop, -List.map_take, -List.map_drop, -Int.toNat_sub', DI.andB, DI.orB, DI.andV, DI.orV, DI.isBl, DI.notV, DI.negV, DI.chainB, DI.slcD, DI.tupleD, DI.listD, moD, moL, lnD, wyD, caseD]
    | sheet k => simp [-DI.ev_storeR, -DI.ev_storeV, -List.map_map, -List.length_take, -List.length_drop, -List.map_take, -List.map_drop, -Int.toNat_sub', DI.andB, DI.orB, DI.andV, DI.orV, DI.isBl, DI.notV, DI.negV, DI.chainB, DI.slcD, DI.tupleD, DI.listD, moD, moL, lnD, wyD, caseD, tupL, e, wd_at, sw_lst]
theorem lawch_is {mo : Mo} (h : okM ls mo) : F__law_choices [.val (caseD c r t ls), .val (moD mo)] = some (.ret (.new (.lst ((chs ls mo).map .int))) []) := by
  have e := goes_is (c := c) (r := r) (t := t) h
  obtain ⟨ln, at_, ok, nt, wy, last, ly⟩ := mo
  unfold F__law_choices c__law_choices
  cases ln with
  | none => cases wy <;> simp only [moD] at e <;> simp [-DI.ev_storeR, -DI.ev_storeV, -List.map_map, -List.length_take, -List.length_drop, -List.map_take, -List.map_drop, -Int.toNat_sub', DI.andB, DI.orB, DI.andV, DI.orV, DI.isBl, DI.notV, DI.negV, DI.chainB, DI.slcD, DI.tupleD, DI.listD, moD, e] <;> simp [-DI.ev_storeR, -DI.ev_storeV, -List.map_map, -List.length_take, -List.length_drop, -List.map_take, -List.map_drop, -Int.toNat_sub', DI.andB, DI.orB, DI.andV, DI.orV, DI.isBl, DI.notV, DI.negV, DI.chainB, DI.slcD, DI.tupleD, DI.listD, moL, lnD, wyD, chs]
  | some i =>
    cases wy with
    | non => simp only [moD] at e; simp [-DI.ev_storeR, -DI.ev_storeV, -List.map_map, -List.length_take, -List.length_drop, -List.map_take, -List.map_drop, -Int.toNat_sub', DI.andB, DI.orB, DI.andV, DI.orV, DI.isBl, DI.notV, DI.negV, DI.chainB, DI.slcD, DI.tupleD, DI.listD, moD, e]; simp [-DI.ev_storeR, -DI.ev_storeV, -List.map_map, -List.length_take, -List.length_drop, -List.map_take, -List.map_drop, -Int.toNat_sub', DI.andB, DI.orB, DI.andV, DI.orV, DI.isBl, DI.notV, DI.negV, DI.chainB, DI.slcD, DI.tupleD, DI.listD, moL, lnD, wyD, chs]
    | told b => simp only [moD] at e; simp [-DI.ev_storeR, -DI.ev_storeV, -List.map_map, -List.length_take, -List.length_drop, -List.map_take, -List.map_drop, -Int.toNat_sub', DI.andB, DI.orB, DI.andV, DI.orV, DI.isBl, DI.notV, DI.negV, DI.chainB, DI.slcD, DI.tupleD, DI.listD, moD, e]; simp [-DI.ev_storeR, -DI.ev_storeV, -List.map_map, -List.length_take, -List.length_drop, -List.map_take, -List.map_drop, -Int.toNat_sub', DI.andB, DI.orB, DI.andV, DI.orV, DI.isBl, DI.notV, DI.negV, DI.chainB, DI.slcD, DI.tupleD, DI.listD, moL, lnD, wyD, chs]
    | sheet k =>
      cases hs : isSW (lnAt ls i) <;> simp only [moD, hs] at e <;> simp [-DI.ev_storeR, -DI.ev_storeV, -List.map_map, -List.length_take, -List.length_drop, -List.map_take, -List.map_drop, -Int.toNat_sub', DI.andB, DI.orB, DI.andV, DI.orV, DI.isBl, DI.notV, DI.negV, DI.chainB, DI.slcD, DI.tupleD, DI.listD, moD, e] <;> simp [-DI.ev_storeR, -DI.ev_storeV, -List.map_map, -List.length_take, -List.length_drop, -List.map_take, -List.map_drop, -Int.toNat_sub', DI.andB, DI.orB, DI.andV, DI.orV, DI.isBl, DI.notV, DI.negV, DI.chainB, DI.slcD, DI.tupleD, DI.listD, moL, lnD, wyD, chs, hs]
end
end Lb
set_option maxRecDepth 100000
set_option maxHeartbeats 4000000
namespace Lb
open PySem PySem.Spec PyProof.Rows L2 DI
section
variable {xs : List Int} {s : Nat} {c r t : Bool} {ls : List Ln} {l : Ln} {a w n pg i : Int} {m : Mo}
def goOn (l : Ln) (pg i : Int) (m : Mo) : Mo := match l with
  | .recall => { m with ln := some (i + 1), at_ := m.nt }
  | .note => { m with ln := some (i + 1), nt := m.at_ }
  | .count => { m with ln := some (i + 1), at_ := m.ly }
  | .add => { m with ln := some (i + 1), at_ := m.at_ + 1 }
  | .send => { m with ln := some (i + 1), wy := .sheet m.at_ }
  | .wait => match m.wy with
    | .told b => { m with ln := some (i + 1), ok := b, wy := .non }
    | _ => { m with ln := some (i + 1) }
  | .fin => { m with ln := none }
  | .go t => { m with ln := some t }
  | .ifd t => { m with ln := some (if pg ≤ m.at_ then t else i + 1) }
  | .ifk t => { m with ln := some (if m.ok = true then t else i + 1) }
def lieM (r pil : Bool) (k : Int) (m : Mo) : Mo := if r = true ∧ k ≤ m.last then m else { m with last := if k > m.last then k else m.last, ly := if pil = true then m.ly + 1 else m.ly }
def cutM (m : Mo) : Mo := { ln := some 0, at_ := 0, ok := false, nt := m.nt, wy := .non, last := m.last, ly := m.ly }
def stp (ls : List Ln) (r t : Bool) (pg : Int) (m : Mo) (ch : Int) : Mo :=
  if ch = 0 then match m.ln with
    | some i => goOn (lnAt ls i) pg i m
    | none => m
  else if ch = 1 then match m.wy with
    | .sheet k => { lieM r (ls.any isC) k m with wy := .told true }
    | _ => m
  else if ch = 2 then { m with wy := .told (!t) }
  else if ch = 3 then match m.wy with
    | .sheet k => cutM (lieM r (ls.any isC) k m)
    | _ => m
  else cutM m
theorem lnD_some : lnD (some i) = .int i := rfl
theorem wyD_non : wyD .non = .non := rfl
theorem cut7a {a b c d e f g : D} : DI.cutD [a, b, c, d, e, f, g] none (some 4) = [a, b, c, d] := rfl
theorem cut7b {a b c d e f g : D} : DI.cutD [a, b, c, d, e, f, g] (some 5) none = [f, g] := rfl
/-! ### the law's own steps -/
theorem lawhouse_is (h0 : 0 ≤ i) (h1 : i < ls.length) (hi : m.ln = some i) : F__law_house [.val (caseD c r t ls), .val (.int pg), .val (moD m)] = some (.ret (.val (moD (goOn (lnAt ls i) pg i m))) []) := by
  have e := lnAt_at h0 h1
  obtain ⟨ln, at_, ok, nt, wy, last, ly⟩ := m
  cases hi
  generalize lnAt ls i = l at *
  unfold F__law_house c__law_house
  cases l
  case recall => simp [-DI.ev_storeR, -DI.ev_storeV, -List.map_map, -List.length_take, -List.length_drop, -List.map_take, -List.map_drop, -Int.toNat_sub', DI.andB, DI.orB, DI.andV, DI.orV, DI.isBl, DI.notV, DI.negV, DI.chainB, DI.slcD, DI.tupleD, DI.listD, moD, moL, lnD, caseD, tupL, e, enc, goOn]
  case note => simp [-DI.ev_storeR, -DI.ev_storeV, -List.map_map, -List.length_take, -List.length_drop, -List.map_take, -List.map_drop, -Int.toNat_sub', DI.andB, DI.orB, DI.andV, DI.orV, DI.isBl, DI.notV, DI.negV, DI.chainB, DI.slcD, DI.tupleD, DI.listD, moD, moL, lnD, caseD, tupL, e, enc, goOn]
  case count => simp [-DI.ev_storeR, -DI.ev_storeV, -List.map_map, -List.length_take, -List.length_drop, -List.map_take, -List.map_drop, -Int.toNat_sub', DI.andB, DI.orB, DI.andV, DI.orV, DI.isBl, DI.notV, DI.negV, DI.chainB, DI.slcD, DI.tupleD, DI.listD, moD, moL, lnD, caseD, tupL, e, enc, goOn]
  case add => simp [-DI.ev_storeR, -DI.ev_storeV, -List.map_map, -List.length_take, -List.length_drop, -List.map_take, -List.map_drop, -Int.toNat_sub', DI.andB, DI.orB, DI.andV, DI.orV, DI.isBl, DI.notV, DI.negV, DI.chainB, DI.slcD, DI.tupleD, DI.listD, moD, moL, lnD, caseD, tupL, e, enc, goOn]
  case send => simp [-DI.ev_storeR, -DI.ev_storeV, -List.map_map, -List.length_take, -List.length_drop, -List.map_take, -List.map_drop, -Int.toNat_sub', DI.andB, DI.orB, DI.andV, DI.orV, DI.isBl, DI.notV, DI.negV, DI.chainB, DI.slcD, DI.tupleD, DI.listD, moD, moL, lnD, caseD, tupL, e, enc, goOn, wyD]
  case wait => cases wy <;> simp [-DI.ev_storeR, -DI.ev_storeV, -List.map_map, -List.length_take, -List.length_drop, -List.map_take, -List.map_drop, -Int.toNat_sub', DI.andB, DI.orB, DI.andV, DI.orV, DI.isBl, DI.notV, DI.negV, DI.chainB, DI.slcD, DI.tupleD, DI.listD, moD, moL, lnD, caseD, tupL, e, enc, goOn, wyD]
  case fin => simp [-DI.ev_storeR, -DI.ev_storeV, -List.map_map, -List.length_take, -List.length_drop, -List.map_take, -List.map_drop, -Int.toNat_sub', DI.andB, DI.orB, DI.andV, DI.orV, DI.isBl, DI.notV, DI.negV, DI.chainB, DI.slcD, DI.tupleD, DI.listD, moD, moL, lnD, caseD, tupL, e, enc, goOn]
  case go t => simp [-DI.ev_storeR, -DI.ev_storeV, -List.map_map, -List.length_take, -List.length_drop, -List.map_take, -List.map_drop, -Int.toNat_sub', DI.andB, DI.orB, DI.andV, DI.orV, DI.isBl, DI.notV, DI.negV, DI.chainB, DI.slcD, DI.tupleD, DI.listD, moD, moL, lnD, caseD, tupL, e, enc, goOn]
  case ifd t => by_cases hp : pg ≤ at_ <;> simp [-DI.ev_storeR, -DI.ev_storeV, -List.map_map, -List.length_take, -List.length_drop, -List.map_take, -List.map_drop, -Int.toNat_sub', DI.andB, DI.orB, DI.andV, DI.orV, DI.isBl, DI.notV, DI.negV, DI.chainB, DI.slcD, DI.tupleD, DI.listD, moD, moL, lnD, caseD, tupL, e, enc, goOn, hp]
  case ifk t => cases ok <;> simp [-DI.ev_storeR, -DI.ev_storeV, -List.map_map, -List.length_take, -List.length_drop, -List.map_take, -List.map_drop, -Int.toNat_sub', DI.andB, DI.orB, DI.andV, DI.orV, DI.isBl, DI.notV, DI.negV, DI.chainB, DI.slcD, DI.tupleD, DI.listD, moD, moL, lnD, caseD, tupL, e, enc, goOn]
theorem lawlies_is {k : Int} (hk : m.wy = .sheet k) (hl : ls.any isC = false → m.ly = 0) : ∃ d, F__law_lies [.val (caseD c r t ls), .val (moD m)] = some (.ret (.val (.tup [moD { lieM r (ls.any isC) k m with wy := .told true }, d])) []) := by
  have ic := (in_count ls).1
  obtain ⟨ln, at_, ok, nt, wy, last, ly⟩ := m
  cases hk
  unfold F__law_lies c__law_lies
  cases hp : ls.any isC
  · have hl := hl hp
    simp only at hl
    subst hl
    rw [hp] at ic
    cases r
    · exact ⟨.int k, by simp [-DI.ev_storeR, -DI.ev_storeV, -List.map_map, -List.length_take, -List.length_drop, -List.map_take, -List.map_drop, -Int.toNat_sub', DI.andB, DI.orB, DI.andV, DI.orV, DI.isBl, DI.notV, DI.negV, DI.chainB, DI.slcD, DI.tupleD, DI.listD, moD, moL, caseD, tupL, ic, wyD, lieM, cut7a, cut7b, maxD]⟩
    · by_cases h : k ≤ last
      · exact ⟨.non, by simp [-DI.ev_storeR, -DI.ev_storeV, -List.map_map, -List.length_take, -List.length_drop, -List.map_take, -List.map_drop, -Int.toNat_sub', DI.andB, DI.orB, DI.andV, DI.orV, DI.isBl, DI.notV, DI.negV, DI.chainB, DI.slcD, DI.tupleD, DI.listD, moD, moL, caseD, tupL, ic, wyD, lieM, cut7a, cut7b, maxD, h]⟩
      · exact ⟨.int k, by simp [-DI.ev_storeR, -DI.ev_storeV, -List.map_map, -List.length_take, -List.length_drop, -List.map_take, -List.map_drop, -Int.toNat_sub', DI.andB, DI.orB, DI.andV, DI.orV, DI.isBl, DI.notV, DI.negV, DI.chainB, DI.slcD, DI.tupleD, DI.listD, moD, moL, caseD, tupL, ic, wyD, lieM, cut7a, cut7b, maxD, h]⟩
  · rw [hp] at ic
    cases r
    · exact ⟨.int k, by simp [-DI.ev_storeR, -DI.ev_storeV, -List.map_map, -List.length_take, -List.length_drop, -List.map_take, -List.map_drop, -Int.toNat_sub', DI.andB, DI.orB, DI.andV, DI.orV, DI.isBl, DI.notV, DI.negV, DI.chainB, DI.slcD, DI.tupleD, DI.listD, moD, moL, caseD, tupL, ic, wyD, lieM, cut7a, cut7b, maxD]⟩
    · by_cases h : k ≤ last
      · exact ⟨.non, by simp [-DI.ev_storeR, -DI.ev_storeV, -List.map_map, -List.length_take, -List.length_drop, -List.map_take, -List.map_drop, -Int.toNat_sub', DI.andB, DI.orB, DI.andV, DI.orV, DI.isBl, DI.notV, DI.negV, DI.chainB, DI.slcD, DI.tupleD, DI.listD, moD, moL, caseD, tupL, ic, wyD, lieM, cut7a, cut7b, maxD, h]⟩
      · exact ⟨.int k, by simp [-DI.ev_storeR, -DI.ev_storeV, -List.map_map, -List.length_take, -List.length_drop, -List.map_take, -List.map_drop, -Int.toNat_sub', DI.andB, DI.orB, DI.andV, DI.orV, DI.isBl, DI.notV, DI.negV, DI.chainB, DI.slcD, DI.tupleD, DI.listD, moD, moL, caseD, tupL, ic, wyD, lieM, cut7a, cut7b, maxD, h]⟩
theorem chs_mem {ch : Int} (h : ch ∈ chs ls m) : (ch = 0 ∧ ∃ i, m.ln = some i ∧ ∀ k, m.wy = .sheet k → isSW (lnAt ls i) = false) ∨ (ch = 1 ∧ ∃ k, m.wy = .sheet k) ∨ (ch = 2 ∧ ∃ k, m.wy = .sheet k) ∨ (ch = 3 ∧ ∃ k, m.wy = .sheet k) ∨ (ch = 4 ∧ ∃ k, m.wy = .sheet k) ∨ ch = 5 := by
  obtain ⟨ln, at_, ok, nt, wy, last, ly⟩ := m
  unfold chs at h
  cases wy with
  | non => cases ln <;> simp at h; rcases h with rfl | rfl <;> simp
  | told b => cases ln <;> simp at h; rcases h with rfl | rfl <;> simp
  | sheet k =>
    cases ln with
    | none => simp at h; rcases h with rfl | rfl <;> simp
    | some i =>
      simp only at h
      cases hs : isSW (lnAt ls i) with
      | true => simp [hs] at h; rcases h with rfl | rfl | rfl | rfl <;> simp
      | false => simp [hs] at h; rcases h with rfl | rfl | rfl | rfl | rfl <;> simp [hs]
theorem lawstep_is {ch : Int} (h : okM ls m) (hl : ls.any isC = false → m.ly = 0) (hc : ch ∈ chs ls m) : ∃ d, F__law_step [.val (caseD c r t ls), .val (.int pg), .val (moD m), .val (.int ch)] = some (.ret (.val (.tup [moD (stp ls r t pg m ch), d])) []) := by
  unfold F__law_step c__law_step
  rcases chs_mem hc with ⟨rfl, i, hi, hsw⟩ | ⟨rfl, k, hk⟩ | ⟨rfl, k, hk⟩ | ⟨rfl, k, hk⟩ | ⟨rfl, k, hk⟩ | rfl
  · obtain ⟨h0, h1⟩ := h i hi
    have e := lawhouse_is (c := c) (r := r) (t := t) (pg := pg) h0 h1 hi
    exact ⟨.non, by simp [-DI.ev_storeR, -DI.ev_storeV, -List.map_map, -List.length_take, -List.length_drop, -List.map_take, -List.map_drop, -Int.toNat_sub', DI.andB, DI.orB, DI.andV, DI.orV, DI.isBl, DI.notV, DI.negV, DI.chainB, DI.slcD, DI.tupleD, DI.listD, e, stp, hi]⟩
  · obtain ⟨d, e⟩ := lawlies_is (c := c) (r := r) (t := t) hk hl
    exact ⟨d, by simp [-DI.ev_storeR, -DI.ev_storeV, -List.map_map, -List.length_take, -List.length_drop, -List.map_take, -List.map_drop, -Int.toNat_sub', DI.andB, DI.orB, DI.andV, DI.orV, DI.isBl, DI.notV, DI.negV, DI.chainB, DI.slcD, DI.tupleD, DI.listD, e, stp, hk]⟩
  · exact ⟨.non, by simp [-DI.ev_storeR, -DI.ev_storeV, -List.map_map, -List.length_take, -List.length_drop, -List.map_take, -List.map_drop, -Int.toNat_sub', DI.andB, DI.orB, DI.andV, DI.orV, DI.isBl, DI.notV, DI.negV, DI.chainB, DI.slcD, DI.tupleD, DI.listD, stp, moD, moL, caseD, cut7a, cut7b, wyD]⟩
  · obtain ⟨d, e⟩ := lawlies_is (c := c) (r := r) (t := t) hk hl
    have q : (lieM r (ls.any isC) k m).nt = m.nt := by unfold lieM; split <;> rfl
    refine ⟨d, ?_⟩
    have es : stp ls r t pg m 3 = cutM (lieM r (ls.any isC) k m) := by simp [stp, hk]
    rw [es]
    simp only [moD, moL] at e
    simp [-DI.ev_storeR, -DI.ev_storeV, -List.map_map, -List.length_take, -List.length_drop, -List.map_take, -List.map_drop, -Int.toNat_sub', DI.andB, DI.orB, DI.andV, DI.orV, DI.isBl, DI.notV, DI.negV, DI.chainB, DI.slcD, DI.tupleD, DI.listD, moD, moL, e, cutM, lnD_some, wyD_non, q]
  · exact ⟨.non, by simp [-DI.ev_storeR, -DI.ev_storeV, -List.map_map, -List.length_take, -List.length_drop, -List.map_take, -List.map_drop, -Int.toNat_sub', DI.andB, DI.orB, DI.andV, DI.orV, DI.isBl, DI.notV, DI.negV, DI.chainB, DI.slcD, DI.tupleD, DI.listD, stp, moD, moL, cutM, lnD, wyD]⟩
  · exact ⟨.non, by simp [-DI.ev_storeR, -DI.ev_storeV, -List.map_map, -List.length_take, -List.length_drop, -List.map_take, -List.map_drop, -Int.toNat_sub', DI.andB, DI.orB, DI.andV, DI.orV, DI.isBl, DI.notV, DI.negV, DI.chainB, DI.slcD, DI.tupleD, DI.listD, stp, moD, moL, cutM, lnD, wyD]⟩
end
end Lb
set_option maxRecDepth 100000
set_option maxHeartbeats 4000000
namespace Lb
open PySem PySem.Spec PyProof.Rows L2 DI
section
variable {xs : List Int} {s : Nat} {c r t : Bool} {ls : List Ln} {l : Ln} {a w n pg i : Int} {m : Mo}
/-! ### the program's own steps -/
theorem next_is {at_ : Int} {ok : Bool} : F_steps__next_line [.val (enc l), .val (.int i), .val (.int pg), .val (.int at_), .val (.bl ok)] = some (.ret (.val (lnD (match l with
  | .fin => none
  | .go t => some t
  | .ifd t => some (if pg ≤ at_ then t else i + 1)
  | .ifk t => some (if ok = true then t else i + 1)
  | _ => some (i + 1)))) []) := by
  unfold F_steps__next_line c_steps__next_line
  cases l
  case ifd t => by_cases hp : pg ≤ at_ <;> simp [-DI.ev_storeR, -DI.ev_storeV, -List.map_map, -List.length_take, -List.length_drop, -List.map_take, -List.map_drop, -Int.toNat_sub', DI.andB, DI.orB, DI.andV, DI.orV, DI.isBl, DI.notV, DI.negV, DI.chainB, DI.slcD, DI.tupleD, DI.listD, enc, lnD, hp]
  case ifk t => cases ok <;> simp [-DI.ev_storeR, -DI.ev_storeV, -List.map_map, -List.length_take, -List.length_drop, -List.map_take, -List.map_drop, -Int.toNat_sub', DI.andB, DI.orB, DI.andV, DI.orV, DI.isBl, DI.notV, DI.negV, DI.chainB, DI.slcD, DI.tupleD, DI.listD, enc, lnD]
  all_goals simp [-DI.ev_storeR, -DI.ev_storeV, -List.map_map, -List.length_take, -List.length_drop, -List.map_take, -List.map_drop, -Int.toNat_sub', DI.andB, DI.orB, DI.andV, DI.orV, DI.isBl, DI.notV, DI.negV, DI.chainB, DI.slcD, DI.tupleD, DI.listD, enc, lnD]
theorem gone_is (h0 : 0 ≤ i) (h1 : i < ls.length) (hi : m.ln = some i) (hs : ∀ k, m.wy = .sheet k → isSW (lnAt ls i) = false) : F_steps__gone_on [.val (hsD r t ls), .val (.int pg), .val (moD m)] = some (.ret (.val (moD (goOn (lnAt ls i) pg i m))) []) := by
  have e := lnAt_at h0 h1
  obtain ⟨ln, at_, ok, nt, wy, last, ly⟩ := m
  cases hi
  generalize lnAt ls i = l at *
  unfold F_steps__gone_on c_steps__gone_on
  have nx := @next_is l pg i
  cases l
  case recall => simp only [enc] at nx; simp [-DI.ev_storeR, -DI.ev_storeV, -List.map_map, -List.length_take, -List.length_drop, -List.map_take, -List.map_drop, -Int.toNat_sub', DI.andB, DI.orB, DI.andV, DI.orV, DI.isBl, DI.notV, DI.negV, DI.chainB, DI.slcD, DI.tupleD, DI.listD, moD, moL, lnD_some, hsD, tupL, e, enc, goOn, nx]
  case note => simp only [enc] at nx; simp [-DI.ev_storeR, -DI.ev_storeV, -List.map_map, -List.length_take, -List.length_drop, -List.map_take, -List.map_drop, -Int.toNat_sub', DI.andB, DI.orB, DI.andV, DI.orV, DI.isBl, DI.notV, DI.negV, DI.chainB, DI.slcD, DI.tupleD, DI.listD, moD, moL, lnD_some, hsD, tupL, e, enc, goOn, nx]
  case count => simp only [enc] at nx; simp [-DI.ev_storeR, -DI.ev_storeV, -List.map_map, -List.length_take, -List.length_drop, -List.map_take, -List.map_drop, -Int.toNat_sub', DI.andB, DI.orB, DI.andV, DI.orV, DI.isBl, DI.notV, DI.negV, DI.chainB, DI.slcD, DI.tupleD, DI.listD, moD, moL, lnD_some, hsD, tupL, e, enc, goOn, nx]
  case add => simp only [enc] at nx; simp [-DI.ev_storeR, -DI.ev_storeV, -List.map_map, -List.length_take, -List.length_drop, -List.map_take, -List.map_drop, -Int.toNat_sub', DI.andB, DI.orB, DI.andV, DI.orV, DI.isBl, DI.notV, DI.negV, DI.chainB, DI.slcD, DI.tupleD, DI.listD, moD, moL, lnD_some, hsD, tupL, e, enc, goOn, nx]
  case send => simp only [enc] at nx; simp [-DI.ev_storeR, -DI.ev_storeV, -List.map_map, -List.length_take, -List.length_drop, -List.map_take, -List.map_drop, -Int.toNat_sub', DI.andB, DI.orB, DI.andV, DI.orV, DI.isBl, DI.notV, DI.negV, DI.chainB, DI.slcD, DI.tupleD, DI.listD, moD, moL, lnD_some, hsD, tupL, e, enc, goOn, nx, wyD]
  case wait =>
    simp only [enc] at nx
    cases wy with
    | non => simp [-DI.ev_storeR, -DI.ev_storeV, -List.map_map, -List.length_take, -List.length_drop, -List.map_take, -List.map_drop, -Int.toNat_sub', DI.andB, DI.orB, DI.andV, DI.orV, DI.isBl, DI.notV, DI.negV, DI.chainB, DI.slcD, DI.tupleD, DI.listD, moD, moL, lnD_some, hsD, tupL, e, enc, goOn, nx, wyD]
    | told b => simp [-DI.ev_storeR, -DI.ev_storeV, -List.map_map, -List.length_take, -List.length_drop, -List.map_take, -List.map_drop, -Int.toNat_sub', DI.andB, DI.orB, DI.andV, DI.orV, DI.isBl, DI.notV, DI.negV, DI.chainB, DI.slcD, DI.tupleD, DI.listD, moD, moL, lnD_some, hsD, tupL, e, enc, goOn, nx, wyD]
    | sheet k => exact absurd (hs k rfl) (by simp [isSW])
  case fin => simp only [enc] at nx; simp [-DI.ev_storeR, -DI.ev_storeV, -List.map_map, -List.length_take, -List.length_drop, -List.map_take, -List.map_drop, -Int.toNat_sub', DI.andB, DI.orB, DI.andV, DI.orV, DI.isBl, DI.notV, DI.negV, DI.chainB, DI.slcD, DI.tupleD, DI.listD, moD, moL, lnD_some, hsD, tupL, e, enc, goOn, nx]
  case go t => simp only [enc] at nx; simp [-DI.ev_storeR, -DI.ev_storeV, -List.map_map, -List.length_take, -List.length_drop, -List.map_take, -List.map_drop, -Int.toNat_sub', DI.andB, DI.orB, DI.andV, DI.orV, DI.isBl, DI.notV, DI.negV, DI.chainB, DI.slcD, DI.tupleD, DI.listD, moD, moL, lnD_some, hsD, tupL, e, enc, goOn, nx]
  case ifd t => simp only [enc] at nx; simp [-DI.ev_storeR, -DI.ev_storeV, -List.map_map, -List.length_take, -List.length_drop, -List.map_take, -List.map_drop, -Int.toNat_sub', DI.andB, DI.orB, DI.andV, DI.orV, DI.isBl, DI.notV, DI.negV, DI.chainB, DI.slcD, DI.tupleD, DI.listD, moD, moL, lnD_some, hsD, tupL, e, enc, goOn, nx]
  case ifk t => simp only [enc] at nx; simp [-DI.ev_storeR, -DI.ev_storeV, -List.map_map, -List.length_take, -List.length_drop, -List.map_take, -List.map_drop, -Int.toNat_sub', DI.andB, DI.orB, DI.andV, DI.orV, DI.isBl, DI.notV, DI.negV, DI.chainB, DI.slcD, DI.tupleD, DI.listD, moD, moL, lnD_some, hsD, tupL, e, enc, goOn, nx]
theorem puts_is {k last : Int} : F_steps_puts [.val (hsD r t ls), .val (.int k), .val (.int last)] = some (.ret (.val (.bl (decide (last < k) || !r))) []) := by
  unfold F_steps_puts c_steps_puts
  by_cases h : last < k <;> simp [-DI.ev_storeR, -DI.ev_storeV, -List.map_map, -List.length_take, -List.length_drop, -List.map_take, -List.map_drop, -Int.toNat_sub', DI.andB, DI.orB, DI.andV, DI.orV, DI.isBl, DI.notV, DI.negV, DI.chainB, DI.slcD, DI.tupleD, DI.listD, hsD, h]
theorem laid_is {k : Int} (hk : m.wy = .sheet k) : F_steps__laid [.val (hsD r t ls), .val (moD m)] = some (.ret (.val (moD (lieM r (ls.any isC) k m))) []) := by
  have p := @puts_is r t ls k m.last
  obtain ⟨ln, at_, ok, nt, wy, last, ly⟩ := m
  cases hk
  simp only at p
  unfold F_steps__laid c_steps__laid
  by_cases h : last < k
  · have h' : ¬ k ≤ last := by omega
    simp [-DI.ev_storeR, -DI.ev_storeV, -List.map_map, -List.length_take, -List.length_drop, -List.map_take, -List.map_drop, -Int.toNat_sub', DI.andB, DI.orB, DI.andV, DI.orV, DI.isBl, DI.notV, DI.negV, DI.chainB, DI.slcD, DI.tupleD, DI.listD, moD, moL, wyD, p, h]
    cases hp : ls.any isC <;> simp [-DI.ev_storeR, -DI.ev_storeV, -List.map_map, -List.length_take, -List.length_drop, -List.map_take, -List.map_drop, -Int.toNat_sub', DI.andB, DI.orB, DI.andV, DI.orV, DI.isBl, DI.notV, DI.negV, DI.chainB, DI.slcD, DI.tupleD, DI.listD, hsD, hp, lieM, h', h, maxD]
  · have h' : k ≤ last := by omega
    cases r
    · simp [-DI.ev_storeR, -DI.ev_storeV, -List.map_map, -List.length_take, -List.length_drop, -List.map_take, -List.map_drop, -Int.toNat_sub', DI.andB, DI.orB, DI.andV, DI.orV, DI.isBl, DI.notV, DI.negV, DI.chainB, DI.slcD, DI.tupleD, DI.listD, moD, moL, wyD, p, h]
      cases hp : ls.any isC <;> simp [-DI.ev_storeR, -DI.ev_storeV, -List.map_map, -List.length_take, -List.length_drop, -List.map_take, -List.map_drop, -Int.toNat_sub', DI.andB, DI.orB, DI.andV, DI.orV, DI.isBl, DI.notV, DI.negV, DI.chainB, DI.slcD, DI.tupleD, DI.listD, hsD, hp, lieM, h', h, maxD]
    · simp [-DI.ev_storeR, -DI.ev_storeV, -List.map_map, -List.length_take, -List.length_drop, -List.map_take, -List.map_drop, -Int.toNat_sub', DI.andB, DI.orB, DI.andV, DI.orV, DI.isBl, DI.notV, DI.negV, DI.chainB, DI.slcD, DI.tupleD, DI.listD, moD, moL, wyD, p, h, lieM, h']
theorem told_is {b : Bool} : F_steps__to_be_told [.val (moD m), .val (.bl b)] = some (.ret (.val (moD { m with wy := .told b })) []) := by
  unfold F_steps__to_be_told c_steps__to_be_told
  simp [-DI.ev_storeR, -DI.ev_storeV, -List.map_map, -List.length_take, -List.length_drop, -List.map_take, -List.map_drop, -Int.toNat_sub', DI.andB, DI.orB, DI.andV, DI.orV, DI.isBl, DI.notV, DI.negV, DI.chainB, DI.slcD, DI.tupleD, DI.listD, moD, moL, wyD]
theorem cut_is : F_steps__cut [.val (moD m)] = some (.ret (.val (moD (cutM m))) []) := by
  unfold F_steps__cut c_steps__cut
  simp [-DI.ev_storeR, -DI.ev_storeV, -List.map_map, -List.length_take, -List.length_drop, -List.map_take, -List.map_drop, -Int.toNat_sub', DI.andB, DI.orB, DI.andV, DI.orV, DI.isBl, DI.notV, DI.negV, DI.chainB, DI.slcD, DI.tupleD, DI.listD, moD, moL, cutM, lnD, wyD]
theorem after_is {ch : Int} (h : okM ls m) (hc : ch ∈ chs ls m) : F_steps_after [.val (hsD r t ls), .val (.int pg), .val (moD m), .val (.int ch)] = some (.ret (.val (moD (stp ls r t pg m ch))) []) := by
  unfold F_steps_after c_steps_after
  rcases chs_mem hc with ⟨rfl, i, hi, hsw⟩ | ⟨rfl, k, hk⟩ | ⟨rfl, k, hk⟩ | ⟨rfl, k, hk⟩ | ⟨rfl, k, hk⟩ | rfl
  · obtain ⟨h0, h1⟩ := h i hi
    have e := gone_is (r := r) (t := t) (pg := pg) h0 h1 hi hsw
    simp [-DI.ev_storeR, -DI.ev_storeV, -List.map_map, -List.length_take, -List.length_drop, -List.map_take, -List.map_drop, -Int.toNat_sub', DI.andB, DI.orB, DI.andV, DI.orV, DI.isBl, DI.notV, DI.negV, DI.chainB, DI.slcD, DI.tupleD, DI.listD, e, stp, hi, con_GO_ON]
  · have e := laid_is (r := r) (t := t) (ls := ls) hk
    simp [-DI.ev_storeR, -DI.ev_storeV, -List.map_map, -List.length_take, -List.length_drop, -List.map_take, -List.map_drop, -Int.toNat_sub', DI.andB, DI.orB, DI.andV, DI.orV, DI.isBl, DI.notV, DI.negV, DI.chainB, DI.slcD, DI.tupleD, DI.listD, e, told_is, stp, hk, con_GO_ON, con_LIE]
  · have e : ∀ d, fldV "telling" (slotC 0) [.val (hsD r t ls), .val (.int pg), d, .val (.int 2)] = some (.ok (.val (.bl t)) [.val (hsD r t ls), .val (.int pg), d, .val (.int 2)]) := fun d => rfl
    simp [-DI.ev_storeR, -DI.ev_storeV, -List.map_map, -List.length_take, -List.length_drop, -List.map_take, -List.map_drop, -Int.toNat_sub', DI.andB, DI.orB, DI.andV, DI.orV, DI.isBl, DI.notV, DI.negV, DI.chainB, DI.slcD, DI.tupleD, DI.listD, -ev_fldV, e, told_is, stp, hk, con_GO_ON, con_LIE, con_JAM]
  · have e := laid_is (r := r) (t := t) (ls := ls) hk
    have es : stp ls r t pg m 3 = cutM (lieM r (ls.any isC) k m) := by simp [stp, hk]
    simp [-DI.ev_storeR, -DI.ev_storeV, -List.map_map, -List.length_take, -List.length_drop, -List.map_take, -List.map_drop, -Int.toNat_sub', DI.andB, DI.orB, DI.andV, DI.orV, DI.isBl, DI.notV, DI.negV, DI.chainB, DI.slcD, DI.tupleD, DI.listD, e, cut_is, es, con_GO_ON, con_LIE, con_JAM, con_CUT_LYING]
  · simp [-DI.ev_storeR, -DI.ev_storeV, -List.map_map, -List.length_take, -List.length_drop, -List.map_take, -List.map_drop, -Int.toNat_sub', DI.andB, DI.orB, DI.andV, DI.orV, DI.isBl, DI.notV, DI.negV, DI.chainB, DI.slcD, DI.tupleD, DI.listD, cut_is, stp, con_GO_ON, con_LIE, con_JAM, con_CUT_LYING]
  · simp [-DI.ev_storeR, -DI.ev_storeV, -List.map_map, -List.length_take, -List.length_drop, -List.map_take, -List.map_drop, -Int.toNat_sub', DI.andB, DI.orB, DI.andV, DI.orV, DI.isBl, DI.notV, DI.negV, DI.chainB, DI.slcD, DI.tupleD, DI.listD, cut_is, stp, con_GO_ON, con_LIE, con_JAM, con_CUT_LYING]
theorem int_is {i : Int} : F_values_is_integer [.val (.int i)] = some (.ret (.val (.bl true)) []) := rfl
theorem sh_ints (l : List Int) : shA 1 (l.map D.int) = true := shA_map D.int 1 (fun _ => rfl) l
theorem in_ints {i : Int} {l : List Int} : inD (.int i) (.tup (l.map .int)) = some (decide (i ∈ l)) := by
  have h1 : okD (.int i) = true := okD_sh 1 rfl (by omega)
  have h2 : okD (.tup (l.map .int)) = true := okD_sh 2 (sh_ints l) (by omega)
  rw [inD_tup, h1, h2]
  have e : ((l.map D.int).any fun z => eqvD z (.int i)) = decide (i ∈ l) := by
    rw [List.any_map]
    rw [show ((fun z => eqvD z (.int i)) ∘ D.int) = fun j => decide (j = i) from funext fun j => by
      show eqvD (.int j) (.int i) = _
      unfold eqvD
      simp only [toPy, PyData.eqv]
      by_cases z : j = i <;> simp [z]]
    clear h1 h2
    induction l with
    | nil => rfl
    | cons j l ih =>
      rw [List.any_cons, ih]
      by_cases z : j = i
      · subst z; simp
      · simp [z, Ne.symm z, show ¬ i = j from fun y => z y.symm]
  rw [e]
  rfl
theorem choice_is {ch : Int} (h : okM ls m) (hc : ch ∈ chs ls m) : F_steps_is_choice [.val (hsD r t ls), .val (moD m), .val (.int ch)] = some (.ret (.val (.bl true)) []) := by
  have e := open_is (r := r) (t := t) h (MoR.as m)
  have e2 := in_ints (i := ch) (l := chs ls m)
  unfold F_steps_is_choice c_steps_is_choice
  simp [-DI.ev_storeR, -DI.ev_storeV, -List.map_map, -List.length_take, -List.length_drop, -List.map_take, -List.map_drop, -Int.toNat_sub', DI.andB, DI.orB, DI.andV, DI.orV, DI.isBl, DI.notV, DI.negV, DI.chainB, DI.slcD, DI.tupleD, DI.listD, int_is, e, e2, hc]
end
end Lb
set_option maxRecDepth 100000
set_option maxHeartbeats 4000000
namespace Lb
open PySem PySem.Spec PyProof.Rows L2 DI
def sMm_0 : SDen := (dropS (bnd (consC (coD (frzD (slotV 0))) (consC (coD (frzD (slotV 1))) nilC)) (runFn 2 F_plans_check_fit)))
def sMm_1 : SDen := (dropS (bnd (consC (coD (frzD (slotV 2))) nilC) (runFn 1 F_moments__check_pages)))
def sMm_2a_0 : SDen := (raiseS ("BadValue" : Str) (frzD (ret (.val (.int 4)))))
def qMm_2a : SDen := (seqS sMm_2a_0 nextS)
def sMm_2 : SDen := (ifS (notB (truC (coD (frzD (bnd (consC (coD (frzD (slotV 3))) nilC) (runFn 1 F_values_is_sequence)))))) qMm_2a nextS)
def sMm_3 : SDen := (asgS 4 (valD (frzD (bnd (consC (coD (frzD (slotV 0))) (consC (coD (frzD (slotV 1))) nilC)) (newV ("House" : Str) 2 F_House___init__)))))
def sMm_4 : SDen := (asgS 5 (ret (.val con_FIRST_MOMENT)))
def sMm_5f_0a_0 : SDen := (raiseS ("BadValue" : Str) (frzD (ret (.val (.int 4)))))
def qMm_5f_0a : SDen := (seqS sMm_5f_0a_0 nextS)
def sMm_5f_0 : SDen := (ifS (notB (truC (coD (frzD (bnd (consC (coD (frzD (slotV 4))) (consC (coD (frzD (slotV 5))) (consC (coD (frzD (slotV 6))) nilC))) (runFn 3 F_steps_is_choice)))))) qMm_5f_0a nextS)
def sMm_5f_1 : SDen := (asgS 5 (bnd (consC (coD (frzD (slotV 4))) (consC (coD (frzD (slotV 2))) (consC (coD (frzD (slotV 5))) (consC (coD (frzD (slotV 6))) nilC)))) (runFn 4 F_steps_after)))
def qMm_5f : SDen := (seqS sMm_5f_0 (seqS sMm_5f_1 nextS))
def sMm_5 : SDen := (forF (itemsF (frzD (slotV 3))) (.name 6) qMm_5f)
def sMm_6 : SDen := (retN 5)
def qMm : SDen := (seqS sMm_0 (seqS sMm_1 (seqS sMm_2 (seqS sMm_3 (seqS sMm_4 (seqS sMm_5 (seqS sMm_6 nextS)))))))
theorem c_moments_moment_cut : c_moments_moment = qMm := rfl
def sWk_0 : SDen := (asgS 6 (bnd nilC (runFn 0 F__law_first)))
def sWk_1 : SDen := (asgS 7 (lstV (ret [])))
def sWk_2f_0 : SDen := (asgS 9 (bnd (consC (coD (frzD (slotV 2))) (consC (coD (frzD (slotV 6))) nilC)) (runFn 2 F__law_choices)))
def sWk_2f_1a_0 : SDen := brkS
def qWk_2f_1a : SDen := (seqS sWk_2f_1a_0 nextS)
def sWk_2f_1 : SDen := (ifS (cmpB .Eq (frzD (call1C lenD (slotC 9))) (coD (frzD (ret (.val (.int 0)))))) qWk_2f_1a nextS)
def sWk_2f_2 : SDen := (asgS 10 (ixV (slotC 9) (frzD (ret (.val (.int 0))))))
def sWk_2f_3a_0 : SDen := (asgS 10 (ixV (slotC 9) (frzD (bnd (consC (coD (frzD (slotV 0))) (consC (slotC 1) (consC (coD (frzD (call1C lenD (slotC 9)))) nilC))) (runFn 3 F__law_take)))))
def qWk_2f_3a : SDen := (seqS sWk_2f_3a_0 nextS)
def sWk_2f_3 : SDen := (ifS (cmpB .Eq (frzD (bnd (consC (coD (frzD (slotV 0))) (consC (slotC 1) (consC (coD (frzD (ret (.val (.int 4))))) nilC))) (runFn 3 F__law_take))) (coD (frzD (ret (.val (.int 0)))))) qWk_2f_3a nextS)
def sWk_2f_4 : SDen := (asgS 11 (bnd (consC (coD (frzD (slotV 2))) (consC (coD (frzD (slotV 3))) (consC (coD (frzD (slotV 6))) (consC (coD (frzD (slotV 10))) nilC)))) (runFn 4 F__law_step)))
def sWk_2f_5 : SDen := (appS 7 (frzD (slotV 10)))
def sWk_2f_6a_0 : SDen := (retS (tupV (consA (frzD (call1C tupleD (slotC 7))) (consA (frzD (ixV (slotC 11) (frzD (ret (.val (.int 0)))))) (consA (frzD (ret (.val (.bl true)))) (ret []))))))
def qWk_2f_6a : SDen := (seqS sWk_2f_6a_0 nextS)
def sWk_2f_6 : SDen := (ifS (andB [(cmpB .IsNot (frzD (slotV 4)) (coD (frzD (ret (.val .non))))), (truC (coD (frzD (bnd (consC (coD (frzD (slotV 4))) (consC (coD (frzD (slotV 3))) (consC (coD (frzD (slotV 6))) (consC (coD (frzD (ixV (slotC 11) (frzD (ret (.val (.int 0))))))) (consC (coD (frzD (ixV (slotC 11) (frzD (ret (.val (.int 1))))))) nilC))))) (runFn 5 F__law_breach)))))]) qWk_2f_6a nextS)
def sWk_2f_7 : SDen := (asgS 6 (ixV (slotC 11) (frzD (ret (.val (.int 0))))))
def qWk_2f : SDen := (seqS sWk_2f_0 (seqS sWk_2f_1 (seqS sWk_2f_2 (seqS sWk_2f_3 (seqS sWk_2f_4 (seqS sWk_2f_5 (seqS sWk_2f_6 (seqS sWk_2f_7 nextS))))))))
def sWk_2 : SDen := (forF (rngF1 (frzD (slotV 5))) (.name 8) qWk_2f)
def sWk_3 : SDen := (retS (tupV (consA (frzD (call1C tupleD (slotC 7))) (consA (frzD (slotV 6)) (consA (frzD (ret (.val (.bl false)))) (ret []))))))
def qWk : SDen := (seqS sWk_0 (seqS sWk_1 (seqS sWk_2 (seqS sWk_3 nextS))))
theorem c__law_walk_cut : c__law_walk = qWk := rfl
section
variable {xs : List Int} {s : Nat} {c r t : Bool} {ls : List Ln} {l : Ln} {a w n pg i : Int} {m : Mo}
/-! ### what holds along a course -/
structure Wf (ls : List Ln) (n : Int) (m : Mo) : Prop where
  ok : okM ls m
  ly0 : ls.any isC = false → m.ly = 0
  at0 : 0 ≤ m.at_ ∧ m.at_ ≤ n
  nt0 : 0 ≤ m.nt ∧ m.nt ≤ n
  la0 : 0 ≤ m.last ∧ m.last ≤ n
  lyn : 0 ≤ m.ly ∧ m.ly ≤ n
  wy0 : ∀ k, m.wy = .sheet k → 0 ≤ k ∧ k ≤ n
def m0 : Mo := ⟨some 0, 0, false, 0, .non, 0, 0⟩
theorem wf0 (g : Gd c ls) : Wf ls 0 m0 := ⟨fun i h => by cases h; exact ⟨by omega, by have := g.lo; omega⟩, fun _ => rfl, ⟨by decide, by decide⟩, ⟨by decide, by decide⟩, ⟨by decide, by decide⟩, ⟨by decide, by decide⟩, fun k h => by cases h⟩
theorem not_last (g : Gd c ls) {i : Int} (h0 : 0 ≤ i) (h1 : i < ls.length) (h : (lnAt ls i).last = false) : i + 1 < ls.length := by
  obtain ⟨z, hz, hl⟩ := g.last
  by_cases e : i + 1 = ls.length
  · have : i.toNat = ls.length - 1 := by omega
    unfold lnAt at h
    rw [this, hz] at h
    simp [hl] at h
  · omega
theorem go_wf (g : Gd c ls) (W : Wf ls n m) {i : Int} (hi : m.ln = some i) : Wf ls (n + 1) (goOn (lnAt ls i) pg i m) := by
  obtain ⟨h0, h1⟩ := W.ok i hi
  have hm := g.ok _ (lnAt_mem h0 h1)
  have nl := not_last g h0 h1
  obtain ⟨ok, ly0, at0, nt0, la0, lyn, wy0⟩ := W
  obtain ⟨ln, at_, ok', nt, wy, last, ly⟩ := m
  simp only at *
  cases hi
  generalize lnAt ls i = l at *
  have nx : l.last = false → okM ls ⟨some (i + 1), at_, ok', nt, wy, last, ly⟩ := fun h j hj => by cases hj; exact ⟨by omega, nl h⟩
  cases l
  case recall => exact ⟨nx rfl, ly0, ⟨nt0.1, by simp only [goOn]; omega⟩, ⟨nt0.1, by simp only [goOn]; omega⟩, ⟨la0.1, by simp only [goOn]; omega⟩, ⟨lyn.1, by simp only [goOn]; omega⟩, fun k hk => ⟨(wy0 k hk).1, by have := (wy0 k hk).2; omega⟩⟩
  case note => exact ⟨nx rfl, ly0, ⟨at0.1, by simp only [goOn]; omega⟩, ⟨at0.1, by simp only [goOn]; omega⟩, ⟨la0.1, by simp only [goOn]; omega⟩, ⟨lyn.1, by simp only [goOn]; omega⟩, fun k hk => ⟨(wy0 k hk).1, by have := (wy0 k hk).2; omega⟩⟩
  case count => exact ⟨nx rfl, ly0, ⟨lyn.1, by simp only [goOn]; omega⟩, ⟨nt0.1, by simp only [goOn]; omega⟩, ⟨la0.1, by simp only [goOn]; omega⟩, ⟨lyn.1, by simp only [goOn]; omega⟩, fun k hk => ⟨(wy0 k hk).1, by have := (wy0 k hk).2; omega⟩⟩
  case add => exact ⟨nx rfl, ly0, ⟨by show 0 ≤ at_ + 1; omega, by show at_ + 1 ≤ n + 1; omega⟩, ⟨nt0.1, by simp only [goOn]; omega⟩, ⟨la0.1, by simp only [goOn]; omega⟩, ⟨lyn.1, by simp only [goOn]; omega⟩, fun k hk => ⟨(wy0 k hk).1, by have := (wy0 k hk).2; omega⟩⟩
  case send => exact ⟨nx rfl, ly0, ⟨at0.1, by simp only [goOn]; omega⟩, ⟨nt0.1, by simp only [goOn]; omega⟩, ⟨la0.1, by simp only [goOn]; omega⟩, ⟨lyn.1, by simp only [goOn]; omega⟩, fun k hk => by cases hk; exact ⟨at0.1, by show at_ ≤ n + 1; omega⟩⟩
  case wait =>
    cases wy with
    | non => exact ⟨nx rfl, ly0, ⟨at0.1, by simp only [goOn]; omega⟩, ⟨nt0.1, by simp only [goOn]; omega⟩, ⟨la0.1, by simp only [goOn]; omega⟩, ⟨lyn.1, by simp only [goOn]; omega⟩, fun k hk => by cases hk⟩
    | told b => exact ⟨nx rfl, ly0, ⟨at0.1, by simp only [goOn]; omega⟩, ⟨nt0.1, by simp only [goOn]; omega⟩, ⟨la0.1, by simp only [goOn]; omega⟩, ⟨lyn.1, by simp only [goOn]; omega⟩, fun k hk => by cases hk⟩
    | sheet k => exact ⟨nx rfl, ly0, ⟨at0.1, by simp only [goOn]; omega⟩, ⟨nt0.1, by simp only [goOn]; omega⟩, ⟨la0.1, by simp only [goOn]; omega⟩, ⟨lyn.1, by simp only [goOn]; omega⟩, fun k hk => ⟨(wy0 k hk).1, by have := (wy0 k hk).2; omega⟩⟩
  case fin => exact ⟨fun j hj => (by cases hj), ly0, ⟨at0.1, by simp only [goOn]; omega⟩, ⟨nt0.1, by simp only [goOn]; omega⟩, ⟨la0.1, by simp only [goOn]; omega⟩, ⟨lyn.1, by simp only [goOn]; omega⟩, fun k hk => ⟨(wy0 k hk).1, by have := (wy0 k hk).2; omega⟩⟩
  case go t => exact ⟨fun j hj => (by cases hj; exact hm), ly0, ⟨at0.1, by simp only [goOn]; omega⟩, ⟨nt0.1, by simp only [goOn]; omega⟩, ⟨la0.1, by simp only [goOn]; omega⟩, ⟨lyn.1, by simp only [goOn]; omega⟩, fun k hk => ⟨(wy0 k hk).1, by have := (wy0 k hk).2; omega⟩⟩
  case ifd t => exact ⟨fun j hj => (by cases hj; have := nl rfl; split <;> first | exact hm | exact ⟨by omega, by omega⟩), ly0, ⟨at0.1, by simp only [goOn]; omega⟩, ⟨nt0.1, by simp only [goOn]; omega⟩, ⟨la0.1, by simp only [goOn]; omega⟩, ⟨lyn.1, by simp only [goOn]; omega⟩, fun k hk => ⟨(wy0 k hk).1, by have := (wy0 k hk).2; omega⟩⟩
  case ifk t => exact ⟨fun j hj => (by cases hj; have := nl rfl; split <;> first | exact hm | exact ⟨by omega, by omega⟩), ly0, ⟨at0.1, by simp only [goOn]; omega⟩, ⟨nt0.1, by simp only [goOn]; omega⟩, ⟨la0.1, by simp only [goOn]; omega⟩, ⟨lyn.1, by simp only [goOn]; omega⟩, fun k hk => ⟨(wy0 k hk).1, by have := (wy0 k hk).2; omega⟩⟩
theorem lie_wf (W : Wf ls n m) {k : Int} (hk : m.wy = .sheet k) : Wf ls (n + 1) (lieM r (ls.any isC) k m) := by
  have w := W.wy0 k hk
  obtain ⟨ok, ly0, at0, nt0, la0, lyn, wy0⟩ := W
  unfold lieM
  split
  · exact ⟨ok, ly0, by omega, by omega, by omega, by omega, fun j hj => ⟨(wy0 j hj).1, by have := (wy0 j hj).2; omega⟩⟩
  · refine ⟨ok, fun h => ?_, ⟨at0.1, by show m.at_ ≤ n + 1; omega⟩, ⟨nt0.1, by show m.nt ≤ n + 1; omega⟩, ?_, ?_, fun j hj => ⟨(wy0 j hj).1, by have := (wy0 j hj).2; omega⟩⟩
    · simp only [h, Bool.false_eq_true, if_false]
      exact ly0 h
    · simp only
      split <;> omega
    · simp only
      split <;> omega
theorem cut_wf (g : Gd c ls) (W : Wf ls n m) : Wf ls n (cutM m) := by
  have hn : 0 ≤ n := by have := W.at0; omega
  exact ⟨fun i h => by cases h; exact ⟨by omega, by have := g.lo; omega⟩, W.ly0, ⟨by simp [cutM], by simpa [cutM] using hn⟩, W.nt0, W.la0, W.lyn, fun k h => by cases h⟩
theorem Wf.up (W : Wf ls n m) : Wf ls (n + 1) m := by
  obtain ⟨ok, ly0, at0, nt0, la0, lyn, wy0⟩ := W
  exact ⟨ok, ly0, by omega, by omega, by omega, by omega, fun j hj => ⟨(wy0 j hj).1, by have := (wy0 j hj).2; omega⟩⟩
theorem Wf.tell (W : Wf ls n m) {b : Bool} : Wf ls n { m with wy := .told b } := ⟨W.ok, W.ly0, W.at0, W.nt0, W.la0, W.lyn, fun k h => by cases h⟩
theorem stp_wf (g : Gd c ls) (W : Wf ls n m) {ch : Int} (hc : ch ∈ chs ls m) : Wf ls (n + 1) (stp ls r t pg m ch) := by
  rcases chs_mem hc with ⟨rfl, i, hi, hsw⟩ | ⟨rfl, k, hk⟩ | ⟨rfl, k, hk⟩ | ⟨rfl, k, hk⟩ | ⟨rfl, k, hk⟩ | rfl
  · simp only [stp, hi, if_true]
    exact go_wf g W hi
  · have e : stp ls r t pg m 1 = { lieM r (ls.any isC) k m with wy := .told true } := by simp [stp, hk]
    rw [e]
    exact (lie_wf W hk).tell
  · exact W.up.tell
  · have e : stp ls r t pg m 3 = cutM (lieM r (ls.any isC) k m) := by simp [stp, hk]
    rw [e]
    exact cut_wf g (lie_wf W hk)
  · exact cut_wf g W.up
  · exact cut_wf g W.up
/-- a course -/
inductive Rn (ls : List Ln) (r t : Bool) (pg : Int) : Mo → List Int → Mo → Prop
  | nil (m : Mo) : Rn ls r t pg m [] m
  | cons {m m' : Mo} {ch : Int} {cs : List Int} : ch ∈ chs ls m → Rn ls r t pg (stp ls r t pg m ch) cs m' → Rn ls r t pg m (ch :: cs) m'
theorem Rn.snoc {m m' : Mo} {ch : Int} {cs : List Int} (R : Rn ls r t pg m cs m') (hc : ch ∈ chs ls m') : Rn ls r t pg m (cs ++ [ch]) (stp ls r t pg m' ch) := by
  induction R with
  | nil m => exact .cons hc (.nil _)
  | cons h R ih => exact .cons h (ih hc)
theorem rn_wf (g : Gd c ls) {m m' : Mo} {cs : List Int} (R : Rn ls r t pg m cs m') : ∀ {n : Int}, Wf ls n m → Wf ls (n + cs.length) m' := by
  induction R with
  | nil m => intro n W; simpa using W
  | @cons m m' ch cs h R ih =>
    intro n W
    have := ih (stp_wf g W h)
    rw [List.length_cons, show n + ((cs.length + 1 : Nat) : Int) = n + 1 + (cs.length : Int) by omega]
    exact this
end
end Lb
set_option maxRecDepth 100000
set_option maxHeartbeats 4000000
namespace Lb
open PySem PySem.Spec PyProof.Rows L2 DI
section
variable {xs : List Int} {s : Nat} {c r t : Bool} {ls : List Ln} {l : Ln} {a w n pg i : Int} {m : Mo} {cD : D}
/-! ### what a course comes to -/
theorem mom_turn {ch : Int} {a0 a1 : Sl} (W : Wf ls n m) (hc : ch ∈ chs ls m) : qMm_5f [a0, a1, .val (.int pg), .val cD, .val (hsD r t ls), .val (moD m), .val (.int ch)] = some (.next [a0, a1, .val (.int pg), .val cD, .val (hsD r t ls), .val (moD (stp ls r t pg m ch)), .val (.int ch)]) := by
  have e1 := choice_is (r := r) (t := t) W.ok hc
  have e2 := after_is (r := r) (t := t) (pg := pg) W.ok hc
  simp [-DI.ev_storeR, -DI.ev_storeV, -List.map_map, -List.length_take, -List.length_drop, -List.map_take, -List.map_drop, -Int.toNat_sub', DI.andB, DI.orB, DI.andV, DI.orV, DI.isBl, DI.notV, DI.negV, DI.chainB, DI.slcD, DI.tupleD, DI.listD, qMm_5f, sMm_5f_0, sMm_5f_1, e1, e2]
theorem mom_loop (g : Gd c ls) {a0 a1 : Sl} {m m' : Mo} {cs : List Int} (R : Rn ls r t pg m cs m') : ∀ {n : Int} {s6 : Sl}, Wf ls n m → Nr s6 → ∃ s6', forL qMm_5f (.name 6) (cs.map .int) [a0, a1, .val (.int pg), .val cD, .val (hsD r t ls), .val (moD m), s6] = some (.next [a0, a1, .val (.int pg), .val cD, .val (hsD r t ls), .val (moD m'), s6']) := by
  induction R with
  | nil m => intro n s6 W h6; exact ⟨s6, rfl⟩
  | @cons m m' ch cs h R ih =>
    intro n s6 W h6
    obtain ⟨s6', e⟩ := ih (stp_wf g W h) (s6 := .val (.int ch)) (by simp)
    refine ⟨s6', ?_⟩
    rw [List.map_cons]
    unfold forL
    rw [show stT (.name 6) (.int ch) [a0, a1, .val (.int pg), .val cD, .val (hsD r t ls), .val (moD m), s6] = some [a0, a1, .val (.int pg), .val cD, .val (hsD r t ls), .val (moD m), .val (.int ch)] from st_v (k := 6) (by simpa using h6)]
    dsimp only
    rw [mom_turn W h]
    exact e
theorem first_is : F__law_first [] = some (.ret (.val (moD m0)) []) := rfl
theorem moment_is (g : Gd c ls) {cs : List Int} (R : Rn ls r t pg m0 cs m) (h0 : 0 ≤ pg) (h1 : pg ≤ 1000000000) (hc : cD = .tup (cs.map .int) ∨ cD = .lst (cs.map .int)) : F_moments_moment [.val (prD c r t), .val (plD ls), .val (.int pg), .val cD] = some (.ret (.val (moD m)) []) := by
  obtain ⟨s6', e⟩ := mom_loop (cD := cD) (a0 := .val (prD c r t)) (a1 := .val (plD ls)) g R (wf0 g) (s6 := .no) (by simp)
  have i1 : itemsI cD = some (cs.map .int) := by rcases hc with rfl | rfl <;> rfl
  have i2 : F_values_is_sequence [.val cD] = some (.ret (.val (.bl true)) []) := by rcases hc with rfl | rfl <;> rfl
  have e0 := fit_is (c := c) (r := r) (t := t) g
  have ep := pages_is h0 h1
  have eh := houseInit (c := c) (r := r) (t := t) (ls := ls)
  unfold F_moments_moment
  rw [c_moments_moment_cut]
  have a0 : sMm_0 [.val (prD c r t), .val (plD ls), .val (.int pg), .val cD, .no, .no, .no] = some (.next [.val (prD c r t), .val (plD ls), .val (.int pg), .val cD, .no, .no, .no]) := by
    simp [-DI.ev_storeR, -DI.ev_storeV, -List.map_map, -List.length_take, -List.length_drop, -List.map_take, -List.map_drop, -Int.toNat_sub', DI.andB, DI.orB, DI.andV, DI.orV, DI.isBl, DI.notV, DI.negV, DI.chainB, DI.slcD, DI.tupleD, DI.listD, sMm_0, dropS, e0]
  have a1 : sMm_1 [.val (prD c r t), .val (plD ls), .val (.int pg), .val cD, .no, .no, .no] = some (.next [.val (prD c r t), .val (plD ls), .val (.int pg), .val cD, .no, .no, .no]) := by
    simp [-DI.ev_storeR, -DI.ev_storeV, -List.map_map, -List.length_take, -List.length_drop, -List.map_take, -List.map_drop, -Int.toNat_sub', DI.andB, DI.orB, DI.andV, DI.orV, DI.isBl, DI.notV, DI.negV, DI.chainB, DI.slcD, DI.tupleD, DI.listD, sMm_1, dropS, ep]
  have a2 : sMm_2 [.val (prD c r t), .val (plD ls), .val (.int pg), .val cD, .no, .no, .no] = some (.next [.val (prD c r t), .val (plD ls), .val (.int pg), .val cD, .no, .no, .no]) := by
    simp [-DI.ev_storeR, -DI.ev_storeV, -List.map_map, -List.length_take, -List.length_drop, -List.map_take, -List.map_drop, -Int.toNat_sub', DI.andB, DI.orB, DI.andV, DI.orV, DI.isBl, DI.notV, DI.negV, DI.chainB, DI.slcD, DI.tupleD, DI.listD, sMm_2, i2]
  have a3 : sMm_3 [.val (prD c r t), .val (plD ls), .val (.int pg), .val cD, .no, .no, .no] = some (.next [.val (prD c r t), .val (plD ls), .val (.int pg), .val cD, .val (hsD r t ls), .no, .no]) := by
    simp [-DI.ev_storeR, -DI.ev_storeV, -List.map_map, -List.length_take, -List.length_drop, -List.map_take, -List.map_drop, -Int.toNat_sub', DI.andB, DI.orB, DI.andV, DI.orV, DI.isBl, DI.notV, DI.negV, DI.chainB, DI.slcD, DI.tupleD, DI.listD, sMm_3, eh, shiftO, hsD]
  have a4 : sMm_4 [.val (prD c r t), .val (plD ls), .val (.int pg), .val cD, .val (hsD r t ls), .no, .no] = some (.next [.val (prD c r t), .val (plD ls), .val (.int pg), .val cD, .val (hsD r t ls), .val (moD m0), .no]) := by
    simp [-DI.ev_storeR, -DI.ev_storeV, -List.map_map, -List.length_take, -List.length_drop, -List.map_take, -List.map_drop, -Int.toNat_sub', DI.andB, DI.orB, DI.andV, DI.orV, DI.isBl, DI.notV, DI.negV, DI.chainB, DI.slcD, DI.tupleD, DI.listD, sMm_4]
    rfl
  have a5 : sMm_5 [.val (prD c r t), .val (plD ls), .val (.int pg), .val cD, .val (hsD r t ls), .val (moD m0), .no] = some (.next [.val (prD c r t), .val (plD ls), .val (.int pg), .val cD, .val (hsD r t ls), .val (moD m), s6']) := by
    simp [-DI.ev_storeR, -DI.ev_storeV, -List.map_map, -List.length_take, -List.length_drop, -List.map_take, -List.map_drop, -Int.toNat_sub', DI.andB, DI.orB, DI.andV, DI.orV, DI.isBl, DI.notV, DI.negV, DI.chainB, DI.slcD, DI.tupleD, DI.listD, sMm_5, i1, e]
  have a6 : sMm_6 [.val (prD c r t), .val (plD ls), .val (.int pg), .val cD, .val (hsD r t ls), .val (moD m), s6'] = some (.ret (.val (moD m)) [.val (prD c r t), .val (plD ls), .val (.int pg), .val cD, .val (hsD r t ls), .val (moD m), s6']) := by
    simp [-DI.ev_storeR, -DI.ev_storeV, -List.map_map, -List.length_take, -List.length_drop, -List.map_take, -List.map_drop, -Int.toNat_sub', DI.andB, DI.orB, DI.andV, DI.orV, DI.isBl, DI.notV, DI.negV, DI.chainB, DI.slcD, DI.tupleD, DI.listD, sMm_6]
  have q := show qMm [.val (prD c r t), .val (plD ls), .val (.int pg), .val cD, .no, .no, .no] = some (.ret _ _) from (seq_next a0).trans ((seq_next a1).trans ((seq_next a2).trans ((seq_next a3).trans ((seq_next a4).trans ((seq_next a5).trans (seq_ret a6))))))
  simp [-DI.ev_storeR, -DI.ev_storeV, -List.map_map, -List.length_take, -List.length_drop, -List.map_take, -List.map_drop, -Int.toNat_sub', DI.andB, DI.orB, DI.andV, DI.orV, DI.isBl, DI.notV, DI.negV, DI.chainB, DI.slcD, DI.tupleD, DI.listD, q]
/-! ### the law's walk -/
theorem at_ints {l : List Int} {i : Int} (h0 : 0 ≤ i) (h1 : i < l.length) : ∃ ch ∈ l, L2.atI (l.map D.int) i = some (.int ch) := by
  refine ⟨l[i.toNat]'(by omega), List.getElem_mem _, ?_⟩
  refine atI_in h0 ?_
  rw [List.getElem?_map, List.getElem?_eq_getElem (by omega)]
  rfl
def PWk (xs : List Int) (c r t : Bool) (ls : List Ln) (pg mx : Int) (n : Nat) (ρ : Rho) : Prop := ∃ (s : Nat) (cs : List Int) (m : Mo) (s8 s9 s10 s11 : Sl), ρ = [.val (rowD xs), .ref (sp s), .val (caseD c r t ls), .val (.int pg), .val .non, .val (.int mx), .val (moD m), .own (.lst (cs.map .int)), s8, s9, s10, s11] ∧ Nr s8 ∧ Nr s9 ∧ Nr s10 ∧ Nr s11 ∧ Rn ls r t pg m0 cs m ∧ cs.length + n ≤ 60
theorem wk_turn (hn : xs ≠ []) (g : Gd c ls) (n : Nat) (d : D) (ρ : Rho) (p : PWk xs c r t ls pg a (n + 1) ρ) : ∃ ρ1 ρ', stT (.name 8) d ρ = some ρ1 ∧ ((qWk_2f ρ1 = some (.next ρ') ∧ PWk xs c r t ls pg a n ρ') ∨ (qWk_2f ρ1 = some (.brk ρ') ∧ PWk xs c r t ls pg a 0 ρ')) := by
  obtain ⟨s, cs, m, s8, s9, s10, s11, rfl, h8, h9, h10, h11, R, hl⟩ := p
  have W := rn_wf g R (wf0 g)
  have ec := lawch_is (c := c) (r := r) (t := t) W.ok
  have a0 : sWk_2f_0 [.val (rowD xs), .ref (sp s), .val (caseD c r t ls), .val (.int pg), .val .non, .val (.int a), .val (moD m), .own (.lst (cs.map .int)), .val d, s9, s10, s11] = some (.next [.val (rowD xs), .ref (sp s), .val (caseD c r t ls), .val (.int pg), .val .non, .val (.int a), .val (moD m), .own (.lst (cs.map .int)), .val d, .own (.lst ((chs ls m).map .int)), s10, s11]) := by
    simp [-DI.ev_storeR, -DI.ev_storeV, -List.map_map, -List.length_take, -List.length_drop, -List.map_take, -List.map_drop, -Int.toNat_sub', DI.andB, DI.orB, DI.andV, DI.orV, DI.isBl, DI.notV, DI.negV, DI.chainB, DI.slcD, DI.tupleD, DI.listD, sWk_2f_0, ec, h9]
  by_cases hz : chs ls m = []
  · refine ⟨_, _, st_v (k := 8) (by simpa using h8), .inr ⟨?_, s, cs, m, .val d, .own (.lst []), s10, s11, rfl, by simp, by simp, h10, h11, R, by omega⟩⟩
    rw [hz] at a0
    have a1 : sWk_2f_1 [.val (rowD xs), .ref (sp s), .val (caseD c r t ls), .val (.int pg), .val .non, .val (.int a), .val (moD m), .own (.lst (cs.map .int)), .val d, .own (.lst []), s10, s11] = some (.brk [.val (rowD xs), .ref (sp s), .val (caseD c r t ls), .val (.int pg), .val .non, .val (.int a), .val (moD m), .own (.lst (cs.map .int)), .val d, .own (.lst []), s10, s11]) := by
      simp [-DI.ev_storeR, -DI.ev_storeV, -List.map_map, -List.length_take, -List.length_drop, -List.map_take, -List.map_drop, -Int.toNat_sub', DI.andB, DI.orB, DI.andV, DI.orV, DI.isBl, DI.notV, DI.negV, DI.chainB, DI.slcD, DI.tupleD, DI.listD, sWk_2f_1, qWk_2f_1a, sWk_2f_1a_0]
    exact (seq_next a0).trans (seq_brk a1)
  · have hp : 0 < (chs ls m).length := List.length_pos_iff.mpr hz
    have hp' : 0 < ((chs ls m).length : Int) := by omega
    obtain ⟨c0, hc0, e0⟩ := at_ints (l := chs ls m) (i := 0) (by omega) hp'
    have a1 : sWk_2f_1 [.val (rowD xs), .ref (sp s), .val (caseD c r t ls), .val (.int pg), .val .non, .val (.int a), .val (moD m), .own (.lst (cs.map .int)), .val d, .own (.lst ((chs ls m).map .int)), s10, s11] = some (.next [.val (rowD xs), .ref (sp s), .val (caseD c r t ls), .val (.int pg), .val .non, .val (.int a), .val (moD m), .own (.lst (cs.map .int)), .val d, .own (.lst ((chs ls m).map .int)), s10, s11]) := by
      simp [-DI.ev_storeR, -DI.ev_storeV, -List.map_map, -List.length_take, -List.length_drop, -List.map_take, -List.map_drop, -Int.toNat_sub', DI.andB, DI.orB, DI.andV, DI.orV, DI.isBl, DI.notV, DI.negV, DI.chainB, DI.slcD, DI.tupleD, DI.listD, sWk_2f_1, hz]
    have a2 : sWk_2f_2 [.val (rowD xs), .ref (sp s), .val (caseD c r t ls), .val (.int pg), .val .non, .val (.int a), .val (moD m), .own (.lst (cs.map .int)), .val d, .own (.lst ((chs ls m).map .int)), s10, s11] = some (.next [.val (rowD xs), .ref (sp s), .val (caseD c r t ls), .val (.int pg), .val .non, .val (.int a), .val (moD m), .own (.lst (cs.map .int)), .val d, .own (.lst ((chs ls m).map .int)), .val (.int c0), s11]) := by
      simp [-DI.ev_storeR, -DI.ev_storeV, -List.map_map, -List.length_take, -List.length_drop, -List.map_take, -List.map_drop, -Int.toNat_sub', DI.andB, DI.orB, DI.andV, DI.orV, DI.isBl, DI.notV, DI.negV, DI.chainB, DI.slcD, DI.tupleD, DI.listD, sWk_2f_2, e0, h10]
    have a3 : ∃ s' ch, ch ∈ chs ls m ∧ sWk_2f_3 [.val (rowD xs), .ref (sp s), .val (caseD c r t ls), .val (.int pg), .val .non, .val (.int a), .val (moD m), .own (.lst (cs.map .int)), .val d, .own (.lst ((chs ls m).map .int)), .val (.int c0), s11] = some (.next [.val (rowD xs), .ref (sp s'), .val (caseD c r t ls), .val (.int pg), .val .non, .val (.int a), .val (moD m), .own (.lst (cs.map .int)), .val d, .own (.lst ((chs ls m).map .int)), .val (.int ch), s11]) := by
      by_cases h4 : tk xs s 4 = 0
      · obtain ⟨c1, hc1, e1⟩ := at_ints (l := chs ls m) (tk_nn (xs := xs) (s := s + 1) hp') (tk_lt hp')
        have e2 := take_sp (xs := xs) (s := s + 1) (l := ((chs ls m).length : Int)) hn hp'
        exact ⟨s + 1 + 1, c1, hc1, by simp [-DI.ev_storeR, -DI.ev_storeV, -List.map_map, -List.length_take, -List.length_drop, -List.map_take, -List.map_drop, -Int.toNat_sub', DI.andB, DI.orB, DI.andV, DI.orV, DI.isBl, DI.notV, DI.negV, DI.chainB, DI.slcD, DI.tupleD, DI.listD, sWk_2f_3, qWk_2f_3a, sWk_2f_3a_0, take_sp hn, h4, e2, e1]⟩
      · exact ⟨s + 1, c0, hc0, by simp [-DI.ev_storeR, -DI.ev_storeV, -List.map_map, -List.length_take, -List.length_drop, -List.map_take, -List.map_drop, -Int.toNat_sub', DI.andB, DI.orB, DI.andV, DI.orV, DI.isBl, DI.notV, DI.negV, DI.chainB, DI.slcD, DI.tupleD, DI.listD, sWk_2f_3, take_sp hn, h4]⟩
    obtain ⟨s', ch, hc, a3⟩ := a3
    obtain ⟨d2, es⟩ := lawstep_is (c := c) (r := r) (t := t) (pg := pg) W.ok W.ly0 hc
    have a4 : sWk_2f_4 [.val (rowD xs), .ref (sp s'), .val (caseD c r t ls), .val (.int pg), .val .non, .val (.int a), .val (moD m), .own (.lst (cs.map .int)), .val d, .own (.lst ((chs ls m).map .int)), .val (.int ch), s11] = some (.next [.val (rowD xs), .ref (sp s'), .val (caseD c r t ls), .val (.int pg), .val .non, .val (.int a), .val (moD m), .own (.lst (cs.map .int)), .val d, .own (.lst ((chs ls m).map .int)), .val (.int ch), .val (.tup [moD (stp ls r t pg m ch), d2])]) := by
      simp [-DI.ev_storeR, -DI.ev_storeV, -List.map_map, -List.length_take, -List.length_drop, -List.map_take, -List.map_drop, -Int.toNat_sub', DI.andB, DI.orB, DI.andV, DI.orV, DI.isBl, DI.notV, DI.negV, DI.chainB, DI.slcD, DI.tupleD, DI.listD, sWk_2f_4, es, h11]
    have a5 : sWk_2f_5 [.val (rowD xs), .ref (sp s'), .val (caseD c r t ls), .val (.int pg), .val .non, .val (.int a), .val (moD m), .own (.lst (cs.map .int)), .val d, .own (.lst ((chs ls m).map .int)), .val (.int ch), .val (.tup [moD (stp ls r t pg m ch), d2])] = some (.next [.val (rowD xs), .ref (sp s'), .val (caseD c r t ls), .val (.int pg), .val .non, .val (.int a), .val (moD m), .own (.lst ((cs ++ [ch]).map .int)), .val d, .own (.lst ((chs ls m).map .int)), .val (.int ch), .val (.tup [moD (stp ls r t pg m ch), d2])]) := by
      have hb : cs.length < 100000 := by omega
      simp [-DI.ev_storeR, -DI.ev_storeV, -List.map_map, -List.length_take, -List.length_drop, -List.map_take, -List.map_drop, -Int.toNat_sub', DI.andB, DI.orB, DI.andV, DI.orV, DI.isBl, DI.notV, DI.negV, DI.chainB, DI.slcD, DI.tupleD, DI.listD, sWk_2f_5, hb]
    have a6 : sWk_2f_6 [.val (rowD xs), .ref (sp s'), .val (caseD c r t ls), .val (.int pg), .val .non, .val (.int a), .val (moD m), .own (.lst ((cs ++ [ch]).map .int)), .val d, .own (.lst ((chs ls m).map .int)), .val (.int ch), .val (.tup [moD (stp ls r t pg m ch), d2])] = some (.next [.val (rowD xs), .ref (sp s'), .val (caseD c r t ls), .val (.int pg), .val .non, .val (.int a), .val (moD m), .own (.lst ((cs ++ [ch]).map .int)), .val d, .own (.lst ((chs ls m).map .int)), .val (.int ch), .val (.tup [moD (stp ls r t pg m ch), d2])]) := by
      simp [-DI.ev_storeR, -DI.ev_storeV, -List.map_map, -List.length_take, -List.length_drop, -List.map_take, -List.map_drop, -Int.toNat_sub', DI.andB, DI.orB, DI.andV, DI.orV, DI.isBl, DI.notV, DI.negV, DI.chainB, DI.slcD, DI.tupleD, DI.listD, sWk_2f_6]
    have a7 : sWk_2f_7 [.val (rowD xs), .ref (sp s'), .val (caseD c r t ls), .val (.int pg), .val .non, .val (.int a), .val (moD m), .own (.lst ((cs ++ [ch]).map .int)), .val d, .own (.lst ((chs ls m).map .int)), .val (.int ch), .val (.tup [moD (stp ls r t pg m ch), d2])] = some (.next [.val (rowD xs), .ref (sp s'), .val (caseD c r t ls), .val (.int pg), .val .non, .val (.int a), .val (moD (stp ls r t pg m ch)), .own (.lst ((cs ++ [ch]).map .int)), .val d, .own (.lst ((chs ls m).map .int)), .val (.int ch), .val (.tup [moD (stp ls r t pg m ch), d2])]) := by
      simp [-DI.ev_storeR, -DI.ev_storeV, -List.map_map, -List.length_take, -List.length_drop, -List.map_take, -List.map_drop, -Int.toNat_sub', DI.andB, DI.orB, DI.andV, DI.orV, DI.isBl, DI.notV, DI.negV, DI.chainB, DI.slcD, DI.tupleD, DI.listD, sWk_2f_7]
    refine ⟨_, _, st_v (k := 8) (by simpa using h8), .inl ⟨(seq_next a0).trans ((seq_next a1).trans ((seq_next a2).trans ((seq_next a3).trans ((seq_next a4).trans ((seq_next a5).trans ((seq_next a6).trans (seq_nil a7))))))), s', cs ++ [ch], stp ls r t pg m ch, .val d, .own (.lst ((chs ls m).map .int)), .val (.int ch), .val (.tup [moD (stp ls r t pg m ch), d2]), rfl, by simp, by simp, by simp, by simp, R.snoc hc, by simp; omega⟩⟩
theorem walk_is (hn : xs ≠ []) (g : Gd c ls) (h0 : 0 ≤ a) (h1 : a ≤ 60) : ∃ s' cs m, F__law_walk [.val (rowD xs), .ref (sp s), .val (caseD c r t ls), .val (.int pg), .val .non, .val (.int a)] = some (.ret (.val (.tup [.tup (cs.map .int), moD m, .bl false])) [(1, sp s')]) ∧ Rn ls r t pg m0 cs m ∧ cs.length ≤ 60 := by
  obtain ⟨ρ', e, p⟩ := forL_cntb (PWk xs c r t ls pg a) (PWk xs c r t ls pg a 0) (wk_turn hn g) (ds := rngL 0 a.toNat) (ρ := [.val (rowD xs), .ref (sp s), .val (caseD c r t ls), .val (.int pg), .val .non, .val (.int a), .val (moD m0), .own (.lst []), .no, .no, .no, .no]) ⟨s, [], m0, .no, .no, .no, .no, rfl, by simp, by simp, by simp, by simp, .nil _, by rw [rngL_len]; simp; omega⟩
  have p' : PWk xs c r t ls pg a 0 ρ' := p.elim id id
  obtain ⟨s', cs, m, s8, s9, s10, s11, rfl, h8, h9, h10, h11, R, hl⟩ := p'
  refine ⟨s', cs, m, ?_, R, by omega⟩
  have rok : rngOk a = true := by unfold rngOk; simp; omega
  have a0 : sWk_0 [.val (rowD xs), .ref (sp s), .val (caseD c r t ls), .val (.int pg), .val .non, .val (.int a), .no, .no, .no, .no, .no, .no] = some (.next [.val (rowD xs), .ref (sp s), .val (caseD c r t ls), .val (.int pg), .val .non, .val (.int a), .val (moD m0), .no, .no, .no, .no, .no]) := by
    simp [-DI.ev_storeR, -DI.ev_storeV, -List.map_map, -List.length_take, -List.length_drop, -List.map_take, -List.map_drop, -Int.toNat_sub', DI.andB, DI.orB, DI.andV, DI.orV, DI.isBl, DI.notV, DI.negV, DI.chainB, DI.slcD, DI.tupleD, DI.listD, sWk_0, first_is]
  have a1 : sWk_1 [.val (rowD xs), .ref (sp s), .val (caseD c r t ls), .val (.int pg), .val .non, .val (.int a), .val (moD m0), .no, .no, .no, .no, .no] = some (.next [.val (rowD xs), .ref (sp s), .val (caseD c r t ls), .val (.int pg), .val .non, .val (.int a), .val (moD m0), .own (.lst []), .no, .no, .no, .no]) := by
    simp [-DI.ev_storeR, -DI.ev_storeV, -List.map_map, -List.length_take, -List.length_drop, -List.map_take, -List.map_drop, -Int.toNat_sub', DI.andB, DI.orB, DI.andV, DI.orV, DI.isBl, DI.notV, DI.negV, DI.chainB, DI.slcD, DI.tupleD, DI.listD, sWk_1]
  have a2 : sWk_2 [.val (rowD xs), .ref (sp s), .val (caseD c r t ls), .val (.int pg), .val .non, .val (.int a), .val (moD m0), .own (.lst []), .no, .no, .no, .no] = some (.next [.val (rowD xs), .ref (sp s'), .val (caseD c r t ls), .val (.int pg), .val .non, .val (.int a), .val (moD m), .own (.lst (cs.map .int)), s8, s9, s10, s11]) := by
    simp [-DI.ev_storeR, -DI.ev_storeV, -List.map_map, -List.length_take, -List.length_drop, -List.map_take, -List.map_drop, -Int.toNat_sub', DI.andB, DI.orB, DI.andV, DI.orV, DI.isBl, DI.notV, DI.negV, DI.chainB, DI.slcD, DI.tupleD, DI.listD, sWk_2, rok, e]
  have a3 : sWk_3 [.val (rowD xs), .ref (sp s'), .val (caseD c r t ls), .val (.int pg), .val .non, .val (.int a), .val (moD m), .own (.lst (cs.map .int)), s8, s9, s10, s11] = some (.ret (.val (.tup [.tup (cs.map .int), moD m, .bl false])) [.val (rowD xs), .ref (sp s'), .val (caseD c r t ls), .val (.int pg), .val .non, .val (.int a), .val (moD m), .own (.lst (cs.map .int)), s8, s9, s10, s11]) := by
    simp [-DI.ev_storeR, -DI.ev_storeV, -List.map_map, -List.length_take, -List.length_drop, -List.map_take, -List.map_drop, -Int.toNat_sub', DI.andB, DI.orB, DI.andV, DI.orV, DI.isBl, DI.notV, DI.negV, DI.chainB, DI.slcD, DI.tupleD, DI.listD, sWk_3]
  have q := show qWk [.val (rowD xs), .ref (sp s), .val (caseD c r t ls), .val (.int pg), .val .non, .val (.int a), .no, .no, .no, .no, .no, .no] = some (.ret _ _) from (seq_next a0).trans ((seq_next a1).trans ((seq_next a2).trans (seq_ret a3)))
  unfold F__law_walk
  rw [c__law_walk_cut]
  simp [-DI.ev_storeR, -DI.ev_storeV, -List.map_map, -List.length_take, -List.length_drop, -List.map_take, -List.map_drop, -Int.toNat_sub', DI.andB, DI.orB, DI.andV, DI.orV, DI.isBl, DI.notV, DI.negV, DI.chainB, DI.slcD, DI.tupleD, DI.listD, q]
end
end Lb
set_option maxRecDepth 100000
set_option maxHeartbeats 4000000
namespace Lb
open PySem PySem.Spec PyProof.Rows L2 DI
/-! ### plain things, and the same written with lists -/
mutual
def pu : Nat → D → Bool
  | _, .non => true
  | _, .bl _ => true
  | _, .int _ => true
  | _, .str s => PyData.strOk s
  | n + 1, .tup ds => decide (ds.length ≤ 50000) && puA n ds
  | _, _ => false
def puA : Nat → List D → Bool
  | _, [] => true
  | n, d :: ds => pu n d && puA n ds
end
theorem puA_mem : ∀ {n : Nat} {ds : List D}, puA n ds = true → ∀ d ∈ ds, pu n d = true
  | n, d :: ds, h, x, hx => by
    rw [puA, Bool.and_eq_true] at h
    rcases List.mem_cons.mp hx with rfl | hx
    · exact h.1
    · exact puA_mem h.2 x hx
theorem puA_map {α : Type} (f : α → D) (n : Nat) (h : ∀ a, pu n (f a) = true) : ∀ l : List α, puA n (l.map f) = true
  | [] => rfl
  | a :: l => by rw [List.map_cons, puA, h a, puA_map f n h l]; rfl
theorem soAt {ds : List D} {k : Nat} (h : k < ds.length) : L2.atI ds (k : Int) = some ds[k] := atI_at (List.getElem?_eq_getElem h)
def bdSo (self : FM) : SDen := (seqS (ifS (notB (truC (coD (frzD (bnd (consC (coD (frzD (ixV (slotC 0) (frzD (slotV 2))))) (consC (coD (frzD (ixV (slotC 1) (frzD (slotV 2))))) nilC)) (runFn 2 self))))))
    (seqS (retS (ret (.val (.bl false)))) nextS)
    nextS) nextS)
theorem so_flat {self : FM} (d : D) (h : isTn "tuple" d = false) (hp : pu 0 d = true) : semF 2 3 (c__law_so self) [.val d, .val d] = some (.ret (.val (.bl true)) []) := by
  unfold c__law_so
  cases d with
  | non => simp [-DI.ev_storeR, -DI.ev_storeV, -List.map_map, -List.length_take, -List.length_drop, -List.map_take, -List.map_drop, -Int.toNat_sub', DI.andB, DI.orB, DI.andV, DI.orV, DI.isBl, DI.notV, DI.negV, DI.chainB, DI.slcD, DI.tupleD, DI.listD]
  | bl b => simp [-DI.ev_storeR, -DI.ev_storeV, -List.map_map, -List.length_take, -List.length_drop, -List.map_take, -List.map_drop, -Int.toNat_sub', DI.andB, DI.orB, DI.andV, DI.orV, DI.isBl, DI.notV, DI.negV, DI.chainB, DI.slcD, DI.tupleD, DI.listD, eqD_bl]
  | int i => simp [-DI.ev_storeR, -DI.ev_storeV, -List.map_map, -List.length_take, -List.length_drop, -List.map_take, -List.map_drop, -Int.toNat_sub', DI.andB, DI.orB, DI.andV, DI.orV, DI.isBl, DI.notV, DI.negV, DI.chainB, DI.slcD, DI.tupleD, DI.listD]
  | str s =>
    rw [pu] at hp
    simp [-DI.ev_storeR, -DI.ev_storeV, -List.map_map, -List.length_take, -List.length_drop, -List.map_take, -List.map_drop, -Int.toNat_sub', DI.andB, DI.orB, DI.andV, DI.orV, DI.isBl, DI.notV, DI.negV, DI.chainB, DI.slcD, DI.tupleD, DI.listD, eqD_str hp hp]
  | tup ds => simp at h
  | _ => simp [pu] at hp
def PSo (ds : List D) (ρ : Rho) : Prop := ∃ s2, ρ = [.val (.tup ds), .val (.tup ds), s2] ∧ Nr s2
theorem so_turn {self : FM} {ds : List D} (ih : ∀ d ∈ ds, self [.val d, .val d] = some (.ret (.val (.bl true)) [])) (d : D) (hd : d ∈ rngL 0 ds.length) (ρ : Rho) (p : PSo ds ρ) : ∃ ρ1 ρ', stT (.name 2) d ρ = some ρ1 ∧ (bdSo self ρ1 = some (.next ρ') ∨ bdSo self ρ1 = some (.cont ρ')) ∧ PSo ds ρ' := by
  obtain ⟨s2, rfl, h2⟩ := p
  unfold rngL at hd
  obtain ⟨k, hk, rfl⟩ := List.mem_map.mp hd
  have hk' : k < ds.length := List.mem_range.mp hk
  have ek := soAt hk'
  have eh := ih _ (List.getElem_mem hk')
  refine ⟨[.val (.tup ds), .val (.tup ds), .val (.int (k : Int))], [.val (.tup ds), .val (.tup ds), .val (.int (k : Int))], ?_, .inl ?_, _, rfl, by simp⟩
  · simp [-DI.ev_storeR, -DI.ev_storeV, -List.map_map, -List.length_take, -List.length_drop, -List.map_take, -List.map_drop, -Int.toNat_sub', DI.andB, DI.orB, DI.andV, DI.orV, DI.isBl, DI.notV, DI.negV, DI.chainB, DI.slcD, DI.tupleD, DI.listD, h2]
  · simp [-DI.ev_storeR, -DI.ev_storeV, -List.map_map, -List.length_take, -List.length_drop, -List.map_take, -List.map_drop, -Int.toNat_sub', DI.andB, DI.orB, DI.andV, DI.orV, DI.isBl, DI.notV, DI.negV, DI.chainB, DI.slcD, DI.tupleD, DI.listD, bdSo, ek, eh]
theorem so_loop {self : FM} {ds : List D} (ih : ∀ d ∈ ds, self [.val d, .val d] = some (.ret (.val (.bl true)) [])) : ∃ s2, forL (bdSo self) (.name 2) (rngL 0 ds.length) [.val (.tup ds), .val (.tup ds), .no] = some (.next [.val (.tup ds), .val (.tup ds), s2]) := by
  obtain ⟨ρ', e, s2, rfl, h2⟩ := forL_inv (PSo ds) (so_turn ih) (ρ := [.val (.tup ds), .val (.tup ds), .no]) ⟨_, rfl, by simp⟩
  exact ⟨s2, e⟩
theorem so_rok {ds : List D} (hl : ds.length ≤ 50000) : rngOk (ds.length : Int) = true := by
  have h1 : (ds.length : Int) < 2 ^ 62 := by omega
  have h0 : -(2 ^ 62) ≤ (ds.length : Int) := by omega
  unfold rngOk
  exact decide_eq_true ⟨h0, h1⟩
theorem so_for {self : FM} {ds : List D} {s2 : Sl} (hl : ds.length ≤ 50000) (e : forL (bdSo self) (.name 2) (rngL 0 ds.length) [.val (.tup ds), .val (.tup ds), .no] = some (.next [.val (.tup ds), .val (.tup ds), s2])) : forF (rngF1 (frzD (call1C lenD (slotC 1)))) (.name 2) (bdSo self) [.val (.tup ds), .val (.tup ds), .no] = some (.next [.val (.tup ds), .val (.tup ds), s2]) :=
  (forF_rng (j := (ds.length : Int)) rfl (so_rok hl)).trans e
theorem so_len {ds : List D} : (ifS (orB [(notB (truC (coD (frzD (askV (isTn "tuple") (slotC 0)))))), (cmpB .NotEq (frzD (call1C lenD (slotC 0))) (coD (frzD (call1C lenD (slotC 1)))))])
    (seqS (retS (ret (.val (.bl false)))) nextS)
    nextS) [.val (.tup ds), .val (.tup ds), .no] = some (.next [.val (.tup ds), .val (.tup ds), .no]) := by
  simp [-DI.ev_storeR, -DI.ev_storeV, -List.map_map, -List.length_take, -List.length_drop, -List.map_take, -List.map_drop, -Int.toNat_sub', DI.andB, DI.orB, DI.andV, DI.orV, DI.isBl, DI.notV, DI.negV, DI.chainB, DI.slcD, DI.tupleD, DI.listD]
def suSo (self : FM) : SDen := (seqS (ifS (orB [(notB (truC (coD (frzD (askV (isTn "tuple") (slotC 0)))))), (cmpB .NotEq (frzD (call1C lenD (slotC 0))) (coD (frzD (call1C lenD (slotC 1)))))])
    (seqS (retS (ret (.val (.bl false)))) nextS)
    nextS) (seqS (forF (rngF1 (frzD (call1C lenD (slotC 1)))) (.name 2) (bdSo self)) (seqS (retS (ret (.val (.bl true)))) nextS)))
theorem so_su {self : FM} {ds : List D} (hl : ds.length ≤ 50000) (ih : ∀ d ∈ ds, self [.val d, .val d] = some (.ret (.val (.bl true)) [])) : ∃ s2, suSo self [.val (.tup ds), .val (.tup ds), .no] = some (.ret (.val (.bl true)) [.val (.tup ds), .val (.tup ds), s2]) := by
  obtain ⟨s2, e⟩ := so_loop ih
  exact ⟨s2, (seq_next so_len).trans ((seq_next (so_for hl e)).trans (seq_ret rfl))⟩
theorem so_tup {self : FM} {ds : List D} (hl : ds.length ≤ 50000) (ih : ∀ d ∈ ds, self [.val d, .val d] = some (.ret (.val (.bl true)) [])) : semF 2 3 (c__law_so self) [.val (.tup ds), .val (.tup ds)] = some (.ret (.val (.bl true)) []) := by
  obtain ⟨s2, e⟩ := so_su hl ih
  have q : c__law_so self [.val (.tup ds), .val (.tup ds), .no] = some (.ret (.val (.bl true)) [.val (.tup ds), .val (.tup ds), s2]) :=
    (seq_next (ρ' := [.val (.tup ds), .val (.tup ds), .no]) rfl).trans (seq_ret e)
  simp [-DI.ev_storeR, -DI.ev_storeV, -List.map_map, -List.length_take, -List.length_drop, -List.map_take, -List.map_drop, -Int.toNat_sub', DI.andB, DI.orB, DI.andV, DI.orV, DI.isBl, DI.notV, DI.negV, DI.chainB, DI.slcD, DI.tupleD, DI.listD, q]
theorem pu_flat {n : Nat} {d : D} (h : pu n d = true) (ht : isTn "tuple" d = false) : pu 0 d = true := by
  cases d with
  | tup ds => simp at ht
  | non => rfl
  | bl b => rfl
  | int i => rfl
  | str s => rw [pu] at h ⊢; exact h
  | _ => cases n <;> simp [pu] at h
theorem so_refl (n : Nat) : ∀ d : D, pu n d = true → F__law_so (n + 1) [.val d, .val d] = some (.ret (.val (.bl true)) []) := by
  induction n with
  | zero =>
    intro d h
    refine so_flat (self := F__law_so 0) d ?_ h
    cases d <;> first | rfl | simp [pu] at h
  | succ n ih =>
    intro d h
    cases ht : isTn "tuple" d with
    | false => exact so_flat (self := F__law_so (n + 1)) d ht (pu_flat h ht)
    | true =>
      cases d with
      | tup ds =>
        rw [pu, Bool.and_eq_true, decide_eq_true_eq] at h
        exact so_tup (self := F__law_so (n + 1)) h.1 fun d hd => ih d (puA_mem h.2 d hd)
      | _ => cases ht
def lo : Nat → D → Int → D
  | n + 1, .tup ds, t => if t % 2 = 0 then .lst (ds.map fun d => lo n d (t + 1)) else .tup (ds.map fun d => lo n d (t + 1))
  | _, d, _ => d
theorem lo_non {n : Nat} {d : D} {t : Int} (h : isTn "tuple" d = false) : lo n d t = d := by
  cases n with
  | zero => rfl
  | succ n => cases d <;> first | rfl | simp at h
theorem loose_flat {self : FM} {t : Int} (d : D) (h : isTn "tuple" d = false) : semF 2 4 (c__law_loose self) [.val d, .val (.int t)] = some (.ret (.val d) []) := by
  unfold c__law_loose
  simp [-DI.ev_storeR, -DI.ev_storeV, -List.map_map, -List.length_take, -List.length_drop, -List.map_take, -List.map_drop, -Int.toNat_sub', DI.andB, DI.orB, DI.andV, DI.orV, DI.isBl, DI.notV, DI.negV, DI.chainB, DI.slcD, DI.tupleD, DI.listD, h]
theorem loose_tup {self : FM} {t : Int} {ds : List D} (g : D → D) (hl : ds.length ≤ 50000) (ih : ∀ d ∈ ds, self [.val d, .val (.int (t + 1))] = some (.ret (.val (g d)) [])) : semF 2 4 (c__law_loose self) [.val (.tup ds), .val (.int t)] = some (.ret (.val (if t % 2 = 0 then .lst (ds.map g) else .tup (ds.map g))) []) := by
  have e := lcT_map (elt := frzD (bnd (consC (coD (frzD (slotV 3))) (consC (coD (frzD (binV .Add (slotC 1) (coD (frzD (ret (.val (.int 1)))))))) nilC)) (runFn 2 self))) (t := .name 3) (ks := [3]) (ρ := [.val (.tup ds), .val (.int t), .no, .no]) g (ds := ds) (acc := []) (fun d hd => by
    refine ⟨[.val (.tup ds), .val (.int t), .no, .val d], [.val (.tup ds), .val (.int t), .no, .val d], ?_, ?_, ?_⟩
    · simp [-DI.ev_storeR, -DI.ev_storeV, -List.map_map, -List.length_take, -List.length_drop, -List.map_take, -List.map_drop, -Int.toNat_sub', DI.andB, DI.orB, DI.andV, DI.orV, DI.isBl, DI.notV, DI.negV, DI.chainB, DI.slcD, DI.tupleD, DI.listD]
    · simp [-DI.ev_storeR, -DI.ev_storeV, -List.map_map, -List.length_take, -List.length_drop, -List.map_take, -List.map_drop, -Int.toNat_sub', DI.andB, DI.orB, DI.andV, DI.orV, DI.isBl, DI.notV, DI.negV, DI.chainB, DI.slcD, DI.tupleD, DI.listD, ih d hd]
    · simp [-DI.ev_storeR, -DI.ev_storeV, -List.map_map, -List.length_take, -List.length_drop, -List.map_take, -List.map_drop, -Int.toNat_sub', DI.andB, DI.orB, DI.andV, DI.orV, DI.isBl, DI.notV, DI.negV, DI.chainB, DI.slcD, DI.tupleD, DI.listD]) (by simp; omega)
  unfold c__law_loose
  by_cases ht : t % 2 = 0
  · simp [-DI.ev_storeR, -DI.ev_storeV, -List.map_map, -List.length_take, -List.length_drop, -List.map_take, -List.map_drop, -Int.toNat_sub', DI.andB, DI.orB, DI.andV, DI.orV, DI.isBl, DI.notV, DI.negV, DI.chainB, DI.slcD, DI.tupleD, DI.listD, e, ht]
  · simp [-DI.ev_storeR, -DI.ev_storeV, -List.map_map, -List.length_take, -List.length_drop, -List.map_take, -List.map_drop, -Int.toNat_sub', DI.andB, DI.orB, DI.andV, DI.orV, DI.isBl, DI.notV, DI.negV, DI.chainB, DI.slcD, DI.tupleD, DI.listD, e, ht]
theorem loose_is (n : Nat) : ∀ (d : D) (t : Int), pu n d = true → F__law_loose (n + 1) [.val d, .val (.int t)] = some (.ret (.val (lo n d t)) []) := by
  induction n with
  | zero =>
    intro d t h
    have ht : isTn "tuple" d = false := by cases d <;> first | rfl | simp [pu] at h
    rw [lo_non ht]
    exact loose_flat (self := F__law_loose 0) d ht
  | succ n ih =>
    intro d t h
    cases ht : isTn "tuple" d with
    | false =>
      rw [lo_non ht]
      exact loose_flat (self := F__law_loose (n + 1)) d ht
    | true =>
      cases d with
      | tup ds =>
        rw [pu, Bool.and_eq_true, decide_eq_true_eq] at h
        exact loose_tup (self := F__law_loose (n + 1)) (fun d => lo n d (t + 1)) h.1 fun d hd => ih d (t + 1) (puA_mem h.2 d hd)
      | _ => cases ht
section
variable {xs : List Int} {s : Nat} {c r t : Bool} {ls : List Ln} {l : Ln} {a w n pg i : Int} {m : Mo} {cD : D}
theorem pu_moD {k : Nat} : pu (k + 2) (moD m) = true := by
  obtain ⟨ln, at_, ok, nt, wy, last, ly⟩ := m
  cases ln <;> cases wy <;> simp [moD, moL, lnD, wyD, pu, puA, ok_told]
theorem pu_ints {k : Nat} (l : List Int) (h : l.length ≤ 50000) : pu (k + 1) (.tup (l.map .int)) = true := by
  rw [pu, puA_map D.int k (fun _ => by cases k <;> rfl) l]
  simpa using h
theorem lo_mo {k : Nat} (ht : i = 0 ∨ i = 1) : MoR m (lo (k + 2) (moD m) i) := by
  obtain ⟨ln, at_, ok, nt, wy, last, ly⟩ := m
  rcases ht with rfl | rfl
  · have e : lo (k + 2) (moD ⟨ln, at_, ok, nt, wy, last, ly⟩) 0 = .lst (moL ⟨ln, at_, ok, nt, wy, last, ly⟩ (wyD wy)) := by
      cases ln <;> cases wy <;> simp [lo, moD, moL, wyD, lnD]
    rw [e]
    exact .lst (.as _)
  · cases wy with
    | told b =>
      have e : lo (k + 2) (moD ⟨ln, at_, ok, nt, .told b, last, ly⟩) 1 = .tup (moL ⟨ln, at_, ok, nt, .told b, last, ly⟩ (.lst [.str "told", .bl b])) := by
        cases ln <;> simp [lo, moD, moL, wyD, lnD]
      rw [e]
      exact .tup (.lst b)
    | non =>
      have e : lo (k + 2) (moD ⟨ln, at_, ok, nt, .non, last, ly⟩) 1 = .tup (moL ⟨ln, at_, ok, nt, .non, last, ly⟩ (wyD .non)) := by
        cases ln <;> rfl
      rw [e]
      exact .tup (.as _)
    | sheet j =>
      have e : lo (k + 2) (moD ⟨ln, at_, ok, nt, .sheet j, last, ly⟩) 1 = .tup (moL ⟨ln, at_, ok, nt, .sheet j, last, ly⟩ (wyD (.sheet j))) := by
        cases ln <;> rfl
      rw [e]
      exact .tup (.as _)
/-! ### choices of a moment as given -/
structure Sm (m : Mo) : Prop where
  at0 : -1000000000 ≤ m.at_ ∧ m.at_ ≤ 1000000000
  nt0 : -1000000000 ≤ m.nt ∧ m.nt ≤ 1000000000
  la0 : -1000000000 ≤ m.last ∧ m.last ≤ 1000000000
  ly0 : -1000000000 ≤ m.ly ∧ m.ly ≤ 1000000000
  wy0 : ∀ k, m.wy = .sheet k → -1000000000 ≤ k ∧ k ≤ 1000000000
theorem Wf.sm (W : Wf ls n m) (h : n ≤ 1000000000) : Sm m := by
  obtain ⟨ok, ly0, at0, nt0, la0, lyn, wy0⟩ := W
  exact ⟨by omega, by omega, by omega, by omega, fun k hk => by have := wy0 k hk; omega⟩
theorem told_tup {b : Bool} : F_values_is_told [.val (.tup [.str "told", .bl b])] = some (.ret (.val (.bl true)) []) := by
  unfold F_values_is_told c_values_is_told
  simp [-DI.ev_storeR, -DI.ev_storeV, -List.map_map, -List.length_take, -List.length_drop, -List.map_take, -List.map_drop, -Int.toNat_sub', DI.andB, DI.orB, DI.andV, DI.orV, DI.isBl, DI.notV, DI.negV, DI.chainB, DI.slcD, DI.tupleD, DI.listD]
theorem told_lst {b : Bool} : F_values_is_told [.val (.lst [.str "told", .bl b])] = some (.ret (.val (.bl true)) []) := by
  unfold F_values_is_told c_values_is_told
  simp [-DI.ev_storeR, -DI.ev_storeV, -List.map_map, -List.length_take, -List.length_drop, -List.map_take, -List.map_drop, -Int.toNat_sub', DI.andB, DI.orB, DI.andV, DI.orV, DI.isBl, DI.notV, DI.negV, DI.chainB, DI.slcD, DI.tupleD, DI.listD]
theorem told_int : F_values_is_told [.val (.int i)] = some (.ret (.val (.bl false)) []) := rfl
theorem way_is {wy : Wy} {d : D} (h : WyR wy d) (hs : ∀ k, wy = .sheet k → -1000000000 ≤ k ∧ k ≤ 1000000000) : F_moments__is_way [.val d] = some (.ret (.val (.bl true)) []) := by
  unfold F_moments__is_way c_moments__is_way
  cases h with
  | lst b => simp [-DI.ev_storeR, -DI.ev_storeV, -List.map_map, -List.length_take, -List.length_drop, -List.map_take, -List.map_drop, -Int.toNat_sub', DI.andB, DI.orB, DI.andV, DI.orV, DI.isBl, DI.notV, DI.negV, DI.chainB, DI.slcD, DI.tupleD, DI.listD, told_lst]
  | as =>
    cases wy with
    | non => simp [-DI.ev_storeR, -DI.ev_storeV, -List.map_map, -List.length_take, -List.length_drop, -List.map_take, -List.map_drop, -Int.toNat_sub', DI.andB, DI.orB, DI.andV, DI.orV, DI.isBl, DI.notV, DI.negV, DI.chainB, DI.slcD, DI.tupleD, DI.listD, wyD]
    | told b => simp [-DI.ev_storeR, -DI.ev_storeV, -List.map_map, -List.length_take, -List.length_drop, -List.map_take, -List.map_drop, -Int.toNat_sub', DI.andB, DI.orB, DI.andV, DI.orV, DI.isBl, DI.notV, DI.negV, DI.chainB, DI.slcD, DI.tupleD, DI.listD, wyD, told_tup]
    | sheet k =>
      have := hs k rfl
      simp [-DI.ev_storeR, -DI.ev_storeV, -List.map_map, -List.length_take, -List.length_drop, -List.map_take, -List.map_drop, -Int.toNat_sub', DI.andB, DI.orB, DI.andV, DI.orV, DI.isBl, DI.notV, DI.negV, DI.chainB, DI.slcD, DI.tupleD, DI.listD, wyD, told_int, number_is, con_MOST_NUMBER, this]
theorem nums_is {l : List Int} (hl : l.length ≤ 1000) (h : ∀ x ∈ l, -1000000000 ≤ x ∧ x ≤ 1000000000) : F_moments__are_numbers [.val (.lst (l.map .int))] = some (.ret (.val (.bl true)) []) := by
  have e := lcT_map (elt := frzD (bnd (consC (coD (frzD (slotV 1))) (consC (coD (frzD (negV (frzD (ret (.val con_MOST_NUMBER)))))) (consC (coD (frzD (ret (.val con_MOST_NUMBER)))) nilC))) (runFn 3 F_values_is_number))) (t := .name 1) (ks := [1]) (ρ := [.val (.lst (l.map .int)), .no]) (fun _ => .bl true) (ds := l.map D.int) (acc := []) (fun d hd => by
      obtain ⟨x, hx, rfl⟩ := List.mem_map.mp hd
      have := h x hx
      refine ⟨[.val (.lst (l.map .int)), .val (.int x)], [.val (.lst (l.map .int)), .val (.int x)], ?_, ?_, ?_⟩
      · simp [-DI.ev_storeR, -DI.ev_storeV, -List.map_map, -List.length_take, -List.length_drop, -List.map_take, -List.map_drop, -Int.toNat_sub', DI.andB, DI.orB, DI.andV, DI.orV, DI.isBl, DI.notV, DI.negV, DI.chainB, DI.slcD, DI.tupleD, DI.listD]
      · simp [-DI.ev_storeR, -DI.ev_storeV, -List.map_map, -List.length_take, -List.length_drop, -List.map_take, -List.map_drop, -Int.toNat_sub', DI.andB, DI.orB, DI.andV, DI.orV, DI.isBl, DI.notV, DI.negV, DI.chainB, DI.slcD, DI.tupleD, DI.listD, number_is, con_MOST_NUMBER, this]
      · simp [-DI.ev_storeR, -DI.ev_storeV, -List.map_map, -List.length_take, -List.length_drop, -List.map_take, -List.map_drop, -Int.toNat_sub', DI.andB, DI.orB, DI.andV, DI.orV, DI.isBl, DI.notV, DI.negV, DI.chainB, DI.slcD, DI.tupleD, DI.listD]) (by simp; omega)
  rw [List.nil_append, List.map_map] at e
  have e3 : blsOf (l.map ((fun _ => D.bl true) ∘ D.int)) = some (l.map fun _ => true) := bls_map (fun _ => true) l
  unfold F_moments__are_numbers c_moments__are_numbers
  simp only [negV] at e
  simp [-DI.ev_storeR, -DI.ev_storeV, -List.map_map, -List.length_take, -List.length_drop, -List.map_take, -List.map_drop, -Int.toNat_sub', DI.andB, DI.orB, DI.andV, DI.orV, DI.isBl, DI.notV, DI.negV, DI.chainB, DI.slcD, DI.tupleD, DI.listD, e, allD, e3]
end
end Lb
set_option maxRecDepth 100000
set_option maxHeartbeats 4000000
namespace Lb
open PySem PySem.Spec PyProof.Rows L2 DI
def sIm_0a_0 : SDen := (retS (ret (.val (.bl false))))
def qIm_0a : SDen := (seqS sIm_0a_0 nextS)
def sIm_0 : SDen := (ifS (orB [(notB (truC (coD (frzD (bnd (consC (coD (frzD (slotV 1))) nilC) (runFn 1 F_values_is_sequence)))))), (cmpB .NotEq (frzD (call1C lenD (slotC 1))) (coD (frzD (ret (.val (.int 7))))))]) qIm_0a nextS)
def sIm_1 : SDen := (asgT (.tup [(.name 2), (.name 3), (.name 4), (.name 5), (.name 6), (.name 7), (.name 8)]) (frzD (slotV 1)))
def sIm_2a_0 : SDen := (retS (ret (.val (.bl false))))
def qIm_2a : SDen := (seqS sIm_2a_0 nextS)
def sIm_2 : SDen := (ifS (andB [(cmpB .IsNot (frzD (slotV 2)) (coD (frzD (ret (.val .non))))), (notB (truC (coD (frzD (bnd (consC (coD (frzD (slotV 2))) (consC (coD (frzD (ret (.val (.int 0))))) (consC (coD (frzD (binV .Sub (coD (frzD (call1C lenD (coD (frzD (fldV ("rows" : Str) (slotC 0))))))) (coD (frzD (ret (.val (.int 1)))))))) nilC))) (runFn 3 F_values_is_number))))))]) qIm_2a nextS)
def sIm_3a_0 : SDen := (retS (ret (.val (.bl false))))
def qIm_3a : SDen := (seqS sIm_3a_0 nextS)
def sIm_3 : SDen := (ifS (notB (truC (coD (frzD (bnd (consC (coD (frzD (lstV (consA (frzD (slotV 3)) (consA (frzD (slotV 5)) (consA (frzD (slotV 7)) (consA (frzD (slotV 8)) (ret [])))))))) nilC) (runFn 1 F_moments__are_numbers)))))) qIm_3a nextS)
def sIm_4a_0 : SDen := (retS (ret (.val (.bl false))))
def qIm_4a : SDen := (seqS sIm_4a_0 nextS)
def sIm_4 : SDen := (ifS (andB [(cmpB .NotEq (frzD (slotV 8)) (coD (frzD (ret (.val (.int 0)))))), (notB (truC (coD (frzD (fldV ("piling" : Str) (slotC 0))))))]) qIm_4a nextS)
def sIm_5 : SDen := (retS (andV [(bnd (consC (coD (frzD (slotV 4))) nilC) (runFn 1 F_values_is_flag)), (bnd (consC (coD (frzD (slotV 6))) nilC) (runFn 1 F_moments__is_way))]))
def qIm : SDen := (seqS sIm_0 (seqS sIm_1 (seqS sIm_2 (seqS sIm_3 (seqS sIm_4 (seqS sIm_5 nextS))))))
theorem c_moments__is_moment_cut : c_moments__is_moment = qIm := rfl
def sMc_0 : SDen := (dropS (bnd (consC (coD (frzD (slotV 0))) (consC (coD (frzD (slotV 1))) nilC)) (runFn 2 F_plans_check_fit)))
def sMc_1 : SDen := (dropS (bnd (consC (coD (frzD (slotV 2))) nilC) (runFn 1 F_moments__check_pages)))
def sMc_2 : SDen := (asgS 4 (valD (frzD (bnd (consC (coD (frzD (slotV 0))) (consC (coD (frzD (slotV 1))) nilC)) (newV ("House" : Str) 2 F_House___init__)))))
def sMc_3a_0 : SDen := (raiseS ("BadValue" : Str) (frzD (ret (.val (.int 4)))))
def qMc_3a : SDen := (seqS sMc_3a_0 nextS)
def sMc_3 : SDen := (ifS (notB (truC (coD (frzD (bnd (consC (coD (frzD (slotV 4))) (consC (coD (frzD (slotV 3))) nilC)) (runFn 2 F_moments__is_moment)))))) qMc_3a nextS)
def sMc_4 : SDen := (retS (bnd (consC (coD (frzD (slotV 4))) (consC (coD (frzD (slotV 3))) nilC)) (runFn 2 F_steps_open_choices)))
def qMc : SDen := (seqS sMc_0 (seqS sMc_1 (seqS sMc_2 (seqS sMc_3 (seqS sMc_4 nextS)))))
theorem c_moments_choices_cut : c_moments_choices = qMc := rfl
section
variable {xs : List Int} {s : Nat} {c r t : Bool} {ls : List Ln} {l : Ln} {a w n pg i : Int} {m : Mo} {d : D}
theorem ismo_is (ok : okM ls m) (sm : Sm m) (hl : ls.any isC = false → m.ly = 0) (hd : MoR m d) : F_moments__is_moment [.val (hsD r t ls), .val d] = some (.ret (.val (.bl true)) []) := by
  obtain ⟨w, hw, hd⟩ : ∃ w, WyR m.wy w ∧ (d = .tup (moL m w) ∨ d = .lst (moL m w)) := by
    cases hd with
    | tup h => exact ⟨_, h, .inl rfl⟩
    | lst h => exact ⟨_, h, .inr rfl⟩
  have a0 : sIm_0 [.val (hsD r t ls), .val d, .no, .no, .no, .no, .no, .no, .no] = some (.next [.val (hsD r t ls), .val d, .no, .no, .no, .no, .no, .no, .no]) := by
    rcases hd with rfl | rfl <;> simp [-DI.ev_storeR, -DI.ev_storeV, -List.map_map, -List.length_take, -List.length_drop, -List.map_take, -List.map_drop, -Int.toNat_sub', DI.andB, DI.orB, DI.andV, DI.orV, DI.isBl, DI.notV, DI.negV, DI.chainB, DI.slcD, DI.tupleD, DI.listD, sIm_0, moL]
  have a1 : sIm_1 [.val (hsD r t ls), .val d, .no, .no, .no, .no, .no, .no, .no] = some (.next [.val (hsD r t ls), .val d, .val (lnD m.ln), .val (.int m.at_), .val (.bl m.ok), .val (.int m.nt), .val w, .val (.int m.last), .val (.int m.ly)]) := by
    rcases hd with rfl | rfl <;> simp [-DI.ev_storeR, -DI.ev_storeV, -List.map_map, -List.length_take, -List.length_drop, -List.map_take, -List.map_drop, -Int.toNat_sub', DI.andB, DI.orB, DI.andV, DI.orV, DI.isBl, DI.notV, DI.negV, DI.chainB, DI.slcD, DI.tupleD, DI.listD, sIm_1, moL]
  have a2 : sIm_2 [.val (hsD r t ls), .val d, .val (lnD m.ln), .val (.int m.at_), .val (.bl m.ok), .val (.int m.nt), .val w, .val (.int m.last), .val (.int m.ly)] = some (.next [.val (hsD r t ls), .val d, .val (lnD m.ln), .val (.int m.at_), .val (.bl m.ok), .val (.int m.nt), .val w, .val (.int m.last), .val (.int m.ly)]) := by
    cases hln : m.ln with
    | none => simp [-DI.ev_storeR, -DI.ev_storeV, -List.map_map, -List.length_take, -List.length_drop, -List.map_take, -List.map_drop, -Int.toNat_sub', DI.andB, DI.orB, DI.andV, DI.orV, DI.isBl, DI.notV, DI.negV, DI.chainB, DI.slcD, DI.tupleD, DI.listD, sIm_2, lnD]
    | some i =>
      obtain ⟨h0, h1⟩ := ok i hln
      have h2 : i ≤ (ls.length : Int) - 1 := by omega
      simp [-DI.ev_storeR, -DI.ev_storeV, -List.map_map, -List.length_take, -List.length_drop, -List.map_take, -List.map_drop, -Int.toNat_sub', DI.andB, DI.orB, DI.andV, DI.orV, DI.isBl, DI.notV, DI.negV, DI.chainB, DI.slcD, DI.tupleD, DI.listD, sIm_2, lnD, hsD, tupL, number_is, h0, h2]
  have en := nums_is (l := [m.at_, m.nt, m.last, m.ly]) (by simp) (fun x hx => by
    simp only [List.mem_cons, List.not_mem_nil, or_false] at hx
    rcases hx with rfl | rfl | rfl | rfl
    · exact sm.at0
    · exact sm.nt0
    · exact sm.la0
    · exact sm.ly0)
  simp only [List.map_cons, List.map_nil] at en
  have a3 : sIm_3 [.val (hsD r t ls), .val d, .val (lnD m.ln), .val (.int m.at_), .val (.bl m.ok), .val (.int m.nt), .val w, .val (.int m.last), .val (.int m.ly)] = some (.next [.val (hsD r t ls), .val d, .val (lnD m.ln), .val (.int m.at_), .val (.bl m.ok), .val (.int m.nt), .val w, .val (.int m.last), .val (.int m.ly)]) := by
    simp [-DI.ev_storeR, -DI.ev_storeV, -List.map_map, -List.length_take, -List.length_drop, -List.map_take, -List.map_drop, -Int.toNat_sub', DI.andB, DI.orB, DI.andV, DI.orV, DI.isBl, DI.notV, DI.negV, DI.chainB, DI.slcD, DI.tupleD, DI.listD, sIm_3, en]
  have a4 : sIm_4 [.val (hsD r t ls), .val d, .val (lnD m.ln), .val (.int m.at_), .val (.bl m.ok), .val (.int m.nt), .val w, .val (.int m.last), .val (.int m.ly)] = some (.next [.val (hsD r t ls), .val d, .val (lnD m.ln), .val (.int m.at_), .val (.bl m.ok), .val (.int m.nt), .val w, .val (.int m.last), .val (.int m.ly)]) := by
    cases hp : ls.any isC with
    | true => by_cases hz : m.ly = 0 <;> simp [-DI.ev_storeR, -DI.ev_storeV, -List.map_map, -List.length_take, -List.length_drop, -List.map_take, -List.map_drop, -Int.toNat_sub', DI.andB, DI.orB, DI.andV, DI.orV, DI.isBl, DI.notV, DI.negV, DI.chainB, DI.slcD, DI.tupleD, DI.listD, sIm_4, hsD, hp, hz]
    | false =>
      have hz := hl hp
      simp [-DI.ev_storeR, -DI.ev_storeV, -List.map_map, -List.length_take, -List.length_drop, -List.map_take, -List.map_drop, -Int.toNat_sub', DI.andB, DI.orB, DI.andV, DI.orV, DI.isBl, DI.notV, DI.negV, DI.chainB, DI.slcD, DI.tupleD, DI.listD, sIm_4, hsD, hp, hz]
  have ew := way_is hw sm.wy0
  have a5 : sIm_5 [.val (hsD r t ls), .val d, .val (lnD m.ln), .val (.int m.at_), .val (.bl m.ok), .val (.int m.nt), .val w, .val (.int m.last), .val (.int m.ly)] = some (.ret (.val (.bl true)) [.val (hsD r t ls), .val d, .val (lnD m.ln), .val (.int m.at_), .val (.bl m.ok), .val (.int m.nt), .val w, .val (.int m.last), .val (.int m.ly)]) := by
    simp [-DI.ev_storeR, -DI.ev_storeV, -List.map_map, -List.length_take, -List.length_drop, -List.map_take, -List.map_drop, -Int.toNat_sub', DI.andB, DI.orB, DI.andV, DI.orV, DI.isBl, DI.notV, DI.negV, DI.chainB, DI.slcD, DI.tupleD, DI.listD, sIm_5, ew]
  have q := show qIm [.val (hsD r t ls), .val d, .no, .no, .no, .no, .no, .no, .no] = some (.ret _ _) from (seq_next a0).trans ((seq_next a1).trans ((seq_next a2).trans ((seq_next a3).trans ((seq_next a4).trans (seq_ret a5)))))
  unfold F_moments__is_moment
  rw [c_moments__is_moment_cut]
  simp [-DI.ev_storeR, -DI.ev_storeV, -List.map_map, -List.length_take, -List.length_drop, -List.map_take, -List.map_drop, -Int.toNat_sub', DI.andB, DI.orB, DI.andV, DI.orV, DI.isBl, DI.notV, DI.negV, DI.chainB, DI.slcD, DI.tupleD, DI.listD, q]
theorem choices_is (g : Gd c ls) (ok : okM ls m) (sm : Sm m) (hl : ls.any isC = false → m.ly = 0) (h0 : 0 ≤ pg) (h1 : pg ≤ 1000000000) (hd : MoR m d) : F_moments_choices [.val (prD c r t), .val (plD ls), .val (.int pg), .val d] = some (.ret (.val (.tup ((chs ls m).map .int))) []) := by
  have e0 := fit_is (c := c) (r := r) (t := t) g
  have ep := pages_is h0 h1
  have eh := houseInit (c := c) (r := r) (t := t) (ls := ls)
  have ei := ismo_is (r := r) (t := t) ok sm hl hd
  have eo := open_is (r := r) (t := t) ok hd
  have a0 : sMc_0 [.val (prD c r t), .val (plD ls), .val (.int pg), .val d, .no] = some (.next [.val (prD c r t), .val (plD ls), .val (.int pg), .val d, .no]) := by
    simp [-DI.ev_storeR, -DI.ev_storeV, -List.map_map, -List.length_take, -List.length_drop, -List.map_take, -List.map_drop, -Int.toNat_sub', DI.andB, DI.orB, DI.andV, DI.orV, DI.isBl, DI.notV, DI.negV, DI.chainB, DI.slcD, DI.tupleD, DI.listD, sMc_0, dropS, e0]
  have a1 : sMc_1 [.val (prD c r t), .val (plD ls), .val (.int pg), .val d, .no] = some (.next [.val (prD c r t), .val (plD ls), .val (.int pg), .val d, .no]) := by
    simp [-DI.ev_storeR, -DI.ev_storeV, -List.map_map, -List.length_take, -List.length_drop, -List.map_take, -List.map_drop, -Int.toNat_sub', DI.andB, DI.orB, DI.andV, DI.orV, DI.isBl, DI.notV, DI.negV, DI.chainB, DI.slcD, DI.tupleD, DI.listD, sMc_1, dropS, ep]
  have a2 : sMc_2 [.val (prD c r t), .val (plD ls), .val (.int pg), .val d, .no] = some (.next [.val (prD c r t), .val (plD ls), .val (.int pg), .val d, .val (hsD r t ls)]) := by
    simp [-DI.ev_storeR, -DI.ev_storeV, -List.map_map, -List.length_take, -List.length_drop, -List.map_take, -List.map_drop, -Int.toNat_sub', DI.andB, DI.orB, DI.andV, DI.orV, DI.isBl, DI.notV, DI.negV, DI.chainB, DI.slcD, DI.tupleD, DI.listD, sMc_2, eh, shiftO, hsD]
  have a3 : sMc_3 [.val (prD c r t), .val (plD ls), .val (.int pg), .val d, .val (hsD r t ls)] = some (.next [.val (prD c r t), .val (plD ls), .val (.int pg), .val d, .val (hsD r t ls)]) := by
    simp [-DI.ev_storeR, -DI.ev_storeV, -List.map_map, -List.length_take, -List.length_drop, -List.map_take, -List.map_drop, -Int.toNat_sub', DI.andB, DI.orB, DI.andV, DI.orV, DI.isBl, DI.notV, DI.negV, DI.chainB, DI.slcD, DI.tupleD, DI.listD, sMc_3, ei]
  have a4 : sMc_4 [.val (prD c r t), .val (plD ls), .val (.int pg), .val d, .val (hsD r t ls)] = some (.ret (.val (.tup ((chs ls m).map .int))) [.val (prD c r t), .val (plD ls), .val (.int pg), .val d, .val (hsD r t ls)]) := by
    simp [-DI.ev_storeR, -DI.ev_storeV, -List.map_map, -List.length_take, -List.length_drop, -List.map_take, -List.map_drop, -Int.toNat_sub', DI.andB, DI.orB, DI.andV, DI.orV, DI.isBl, DI.notV, DI.negV, DI.chainB, DI.slcD, DI.tupleD, DI.listD, sMc_4, eo]
  have q := show qMc [.val (prD c r t), .val (plD ls), .val (.int pg), .val d, .no] = some (.ret _ _) from (seq_next a0).trans ((seq_next a1).trans ((seq_next a2).trans ((seq_next a3).trans (seq_ret a4))))
  unfold F_moments_choices
  rw [c_moments_choices_cut]
  simp [-DI.ev_storeR, -DI.ev_storeV, -List.map_map, -List.length_take, -List.length_drop, -List.map_take, -List.map_drop, -Int.toNat_sub', DI.andB, DI.orB, DI.andV, DI.orV, DI.isBl, DI.notV, DI.negV, DI.chainB, DI.slcD, DI.tupleD, DI.listD, q]
/-! ### wide draws -/
theorem wide_is (hn : xs ≠ []) (h0 : 0 < a) : ∃ v, F__law_wide [.val (rowD xs), .ref (sp s), .val (.int a)] = some (.ret (.val (.int v)) [(1, sp (s + 1 + 1 + 1))]) ∧ 0 ≤ v ∧ v < a := by
  refine ⟨(tk xs s 997 * 994009 + tk xs (s + 1) 997 * 997 + tk xs (s + 1 + 1) 997) % a, ?_, Int.emod_nonneg _ (by omega), Int.emod_lt_of_pos _ h0⟩
  · unfold F__law_wide c__law_wide
    simp [-DI.ev_storeR, -DI.ev_storeV, -List.map_map, -List.length_take, -List.length_drop, -List.map_take, -List.map_drop, -Int.toNat_sub', DI.andB, DI.orB, DI.andV, DI.orV, DI.isBl, DI.notV, DI.negV, DI.chainB, DI.slcD, DI.tupleD, DI.listD, take_sp hn, h0]
end
end Lb
set_option maxRecDepth 100000
set_option maxHeartbeats 4000000
namespace DI
open PySem PySem.Spec PyProof.Rows L2 He

/-! ### a plain list that is spoiled: it leaves the plain part -/
/-- lists of numbers stay -/
def keepL : List V → Bool
  | [] => true
  | .int _ :: _ => true
  | _ => false
def cutL (Hf : Hp) : Hp := fun a => match Hf a with
  | some (.lst ys) => if keepL ys = true then some (.lst ys) else none
  | o => o
theorem cutL_sub {Hf : Hp} {a : Addr} {o : HO} (h : cutL Hf a = some o) : Hf a = some o ∧ ∀ ys, o = .lst ys → keepL ys = true := by
  unfold cutL at h
  split at h
  · rename_i ys e
    split at h
    · rename_i k
      cases h
      exact ⟨e, fun ys' h' => by cases h'; exact k⟩
    · cases h
  · rename_i o' hn
    refine ⟨h, fun ys e => ?_⟩
    subst e
    exact absurd h (hn ys)
theorem cutL_of {Hf : Hp} {a : Addr} {o : HO} (h : Hf a = some o) (k : ∀ ys, o = .lst ys → keepL ys = true) : cutL Hf a = some o := by
  unfold cutL
  rw [h]
  cases o with
  | lst ys =>
    dsimp only
    rw [if_pos (k ys rfl)]
  | _ => rfl
theorem cutL_ex {Hf : Hp} : Ex (cutL Hf) Hf := fun a o h => (cutL_sub h).1
def keepD : List D → Bool
  | [] => true
  | .int _ :: _ => true
  | _ => false
mutual
/-- no list in it but of numbers -/
def noL : D → Bool
  | .non => true
  | .bl _ => true
  | .int _ => true
  | .str _ => true
  | .lst ds => keepD ds && noLA ds
  | .fls ds => keepD ds && noLA ds
  | .tup ds => noLA ds
  | .obj _ fs => noLF fs
def noLA : List D → Bool
  | [] => true
  | d :: ds => noL d && noLA ds
def noLF : List (Str × D) → Bool
  | [] => true
  | (_, d) :: fs => noL d && noLF fs
end
theorem keep_rp {K : Kc} {H : Hp} {vs : List V} {ds : List D} (r : RpA K H vs ds) (h : keepD ds = true) : keepL vs = true := by
  cases r with
  | nil => rfl
  | cons a b =>
    rename_i v vs d ds
    cases d with
    | int i => cases a; rfl
    | _ => cases h
section
variable {K : Kc} {Hf : Hp}
theorem sqT_cut {F : PySem.W.Frag} {a : Addr} {xs : List V} (h : SqT F Hf a xs) : SqT F (cutL Hf) a xs := by
  rcases h with (h | ⟨o, h⟩) | h
  · exact .inl (.inl (cutL_of h fun ys e => by cases e))
  · exact .inl (.inr ⟨o, cutL_of h fun ys e => by cases e⟩)
  · exact .inr h
theorem sqL_cut {F : PySem.W.Frag} {a : Addr} {xs : List V} (h : SqL F Hf a xs) (k : keepL xs = true) : SqL F (cutL Hf) a xs := by
  rcases h with (h | ⟨o, h⟩) | h
  · exact .inl (.inl (cutL_of h fun ys e => by cases e; exact k))
  · exact .inl (.inr ⟨o, cutL_of h fun ys e => by cases e⟩)
  · exact .inr h
mutual
theorem Rp.cutN : ∀ {d : D} {v : V}, Rp K Hf v d → noL d = true → Rp K (cutL Hf) v d
  | .non, _, h, _ => by cases h; exact .non
  | .bl b, _, h, _ => by cases h; exact .bl b
  | .int i, _, h, _ => by cases h; exact .int i
  | .str x, _, h, _ => by cases h; exact .str x
  | .lst ds, _, h, n => by
    rw [noL, Bool.and_eq_true] at n
    cases h with
    | lst a b => exact .lst (cutL_of a fun ys e => by cases e; exact keep_rp b n.1) (RpA.cutN b n.2)
  | .fls ds, _, h, n => by
    rw [noL, Bool.and_eq_true] at n
    cases h with
    | fls a b => exact .fls (sqL_cut a (keep_rp b n.1)) (RpA.cutN b n.2)
  | .tup ds, _, h, n => by
    rw [noL] at n
    cases h with
    | tup a b => exact .tup (sqT_cut a) (RpA.cutN b n)
  | .obj c gs, _, h, n => by
    rw [noL] at n
    cases h with
    | obj z a b => exact .obj z (cutL_of a fun ys e => by cases e) (RpF.cutN b n)
theorem RpA.cutN : ∀ {ds : List D} {vs : List V}, RpA K Hf vs ds → noLA ds = true → RpA K (cutL Hf) vs ds
  | [], _, h, _ => by cases h; exact .nil
  | d :: ds, _, h, n => by
    rw [noLA, Bool.and_eq_true] at n
    cases h with
    | cons a b => exact .cons (Rp.cutN a n.1) (RpA.cutN b n.2)
theorem RpF.cutN : ∀ {gs : List (Str × D)} {fs : List (Str × V)}, RpF K Hf fs gs → noLF gs = true → RpF K (cutL Hf) fs gs
  | [], _, h, _ => by cases h; exact .nil
  | (x, d) :: gs, _, h, n => by
    rw [noLF, Bool.and_eq_true] at n
    cases h with
    | cons a b => exact .cons (Rp.cutN a n.1) (RpF.cutN b n.2)
end
end
def noLM : M → Bool
  | .lst ds => noLA ds
  | .ins _ gs => noLF gs
def noLS : Sl → Bool
  | .no => true
  | .val d => noL d
  | .own m => noLM m
  | .ref _ => false
/-- given[0].append("x"); given.append(5) -/
def spoilS (i : Nat) : SDen := fun ρ => match ρ[i]? with
  | some (.val (.lst (.lst (.str _ :: ds) :: rest))) => if (ρ.set i .no).all noLS = true ∧ ds.length < 99999 ∧ rest.length < 99999 then some (.next (ρ.set i .no)) else none
  | _ => none
/-- the entry's plain part has no list but of numbers -/
def TopW (W : Wd) : Prop := ∀ a ys, W.Hf0 a = some (.lst ys) → keepL ys = true
theorem MOk.cut {K : Kc} {Hf H H' : Hp} {p : Addr} {m : M} (h : MOk K Hf H p m) (n : noLM m = true) (e : ∀ o, H p = some o → H' p = some o) : MOk K (cutL Hf) H' p m := by
  have no : cutL Hf p = none := by
    unfold cutL
    rw [h.no]
  cases h with
  | lst a b c => exact .lst no (e _ b) (RpA.cutN c n)
  | ins z a b c => exact .ins z no (e _ b) (RpF.cutN c n)
section
variable {C : Ck} {X : Cx}
theorem spoil_stt {W : Wd} {Hf H : Hp} {σ : L2.St} {ρ : Rho} {i : Nat} {z : Str} {ds rest : List D} (T : TopW W) (S : Stt W Hf H σ ρ) (hi : ρ[i]? = some (.val (.lst (.lst (.str z :: ds) :: rest)))) (hn : (ρ.set i .no).all noLS = true) :
    ∃ p q ws vs, σ[i]? = some (some (V.ref p)) ∧ H p = some (.lst (.ref q :: vs)) ∧ H q = some (.lst (.str z :: ws)) ∧ p ≠ q ∧ ws.length = ds.length ∧ vs.length = rest.length ∧
      ∀ o1 o2, Stt W (cutL Hf) (upd (upd H q o1) p o2) σ (ρ.set i .no) := by
  obtain ⟨v, hv, r⟩ := S.val i _ hi
  cases r with
  | @lst p xs _ a b =>
    cases b with
    | cons b1 b2 =>
      rename_i v0 vs
      cases b1 with
      | @lst q ys _ a1 b1 =>
        cases b1 with
        | cons c1 c2 =>
          cases c1
          rename_i ws
          have ne : p ≠ q := fun e => by
            subst e
            rw [a] at a1
            cases a1
          have np : W.Hf0 p = none := by
            cases h : W.Hf0 p with
            | none => rfl
            | some o =>
              have e := S.grow _ _ h
              rw [a] at e
              cases e
              have k := T _ _ h
              cases k
          have nq : W.Hf0 q = none := by
            cases h : W.Hf0 q with
            | none => rfl
            | some o =>
              have e := S.grow _ _ h
              rw [a1] at e
              cases e
              have k := T _ _ h
              cases k
          have hp0 : W.H0 p = none := by
            rcases S.frozen _ _ a with e | e
            · rw [np] at e; cases e
            · exact e
          have hq0 : W.H0 q = none := by
            rcases S.frozen _ _ a1 with e | e
            · rw [nq] at e; cases e
            · exact e
          refine ⟨p, q, ws, vs, hv, S.ex _ _ a, S.ex _ _ a1, ne, c2.length, b2.length, fun o1 o2 => ?_⟩
          have same : ∀ b, b ≠ p → b ≠ q → upd (upd H q o1) p o2 b = H b := fun b h1 h2 => by rw [upd_ne h1, upd_ne h2]
          have bnd : ∀ (j : Nat) (s : Sl), (ρ.set i .no)[j]? = some s → j ≠ i → ρ[j]? = some s ∧ noLS s = true := fun j s h hj => by
            refine ⟨by rwa [List.getElem?_set_ne (Ne.symm hj)] at h, List.all_eq_true.mp hn s (List.mem_of_getElem? h)⟩
          have ati : ∀ (j : Nat) (s : Sl), (ρ.set i .no)[j]? = some s → s ≠ .no → j ≠ i := fun j s h hs e => by
            subst e
            have hb : j < ρ.length := (List.getElem?_eq_some_iff.mp hi).1
            rw [List.getElem?_set_self hb] at h
            cases h
            exact hs rfl
          have away : ∀ {b : Addr} {m : M}, MOk W.K Hf H b m → b ≠ p ∧ b ≠ q := fun {b m} h => by
            have no := h.no
            exact ⟨fun e => (by rw [e, a] at no; cases no), fun e => (by rw [e, a1] at no; cases no)⟩
          refine ⟨fun b o h => ?_, fun b o h => ?_, fun b o h => S.frozen b o (cutL_sub h).1, fun b o h n => ?_, fun b o h => ?_, by rw [List.length_set]; exact S.len, fun j d h => ?_, fun j m h => ?_, fun j m h => ?_, fun j k m m' b ne' h1 h2 e1 => ?_, S.inj, S.rfH⟩
          · obtain ⟨h1, h2⟩ := cutL_sub h
            rw [same b (fun e => by subst e; rw [a] at h1; cases h1; have := h2 _ rfl; cases this) (fun e => by subst e; rw [a1] at h1; cases h1; have := h2 _ rfl; cases this)]
            exact S.ex _ _ h1
          · exact cutL_of (S.grow _ _ h) fun ys e => by subst e; exact T _ _ h
          · rw [same b (fun e => by subst e; rw [hp0] at h; cases h) (fun e => by subst e; rw [hq0] at h; cases h)]
            exact S.keep b o h n
          · rw [same b (fun e => by subst e; rw [hp0] at h; cases h) (fun e => by subst e; rw [hq0] at h; cases h)]
            exact S.live b o h
          · have hj := ati j _ h (by simp)
            obtain ⟨h1, h2⟩ := bnd j _ h hj
            obtain ⟨u, e1, e2⟩ := S.val j d h1
            exact ⟨u, e1, Rp.cutN e2 h2⟩
          · have hj := ati j _ h (by simp)
            obtain ⟨h1, h2⟩ := bnd j _ h hj
            obtain ⟨b, e1, e2, e3⟩ := S.own j m h1
            obtain ⟨w1, w2⟩ := away e3
            exact ⟨b, e1, e2, e3.cut h2 fun o ho => by rw [same b w1 w2]; exact ho⟩
          · have hj := ati j _ h (by simp)
            obtain ⟨h1, h2⟩ := bnd j _ h hj
            cases h2
          · have hj := ati j _ h1 (by simp)
            have hk := ati k _ h2 (by simp)
            exact S.sep j k m m' b ne' (bnd j _ h1 hj).1 (bnd k _ h2 hk).1 e1
theorem spoilS_inv {i : Nat} {ρ : Rho} {o : SOut} (h : spoilS i ρ = some o) : ∃ z ds rest, ρ[i]? = some (.val (.lst (.lst (.str z :: ds) :: rest))) ∧ ((ρ.set i .no).all noLS = true ∧ ds.length < 99999 ∧ rest.length < 99999) ∧ o = .next (ρ.set i .no) := by
  unfold spoilS at h
  split at h
  · rename_i z ds rest hi
    split at h
    · rename_i hc
      cases h
      exact ⟨z, ds, rest, hi, hc, rfl⟩
    · cases h
  · cases h
/-! ### bodies whose plain part may shrink between statements -/
def eH : Hp := fun _ => none
theorem eH_ex {H : Hp} : Ex eH H := fun a o h => by cases h
def tS0 (C : Ck) (x : SDen) : TS := fun E σ H => ∃ Hf ρ o, Stt C.W Hf H σ ρ ∧ x ρ = some o ∧ FinS C E eH o
theorem pss_tail0 {ss : List Stmt} {x : SDen} (h : PSs X ss (tSt C x)) : PSs X ss (tS0 C x) := h.imp fun E σ H ⟨Hf, ρ, o, S, e, f⟩ => ⟨Hf, ρ, o, S, e, f.weak eH_ex⟩
theorem pss_cons0 {s : Stmt} {ss : List Stmt} {x y : SDen} (hs : PS X s (tSt C x)) (hr : PSs X ss (tS0 C y)) : PSs X (s :: ss) (tS0 C (seqS x y)) := by
  refine (pss_cons hs hr).imp fun E σ H ⟨Hf, ρ, o, S, e, f⟩ => ?_
  unfold seqS at e
  cases hx : x ρ with
  | none => rw [hx] at e; cases e
  | some o1 =>
    rw [hx] at e
    refine ⟨Hf, ρ, o1, S, hx, ?_⟩
    cases o1 with
    | next ρ' => exact fun σ' Hf' H' S' _ => ⟨Hf', ρ', o, S', e, f⟩
    | ret r ρ' => cases e; exact f.weak (o := .ret r ρ') eH_ex
    | brk ρ' => cases e; exact f.weak (o := .brk ρ') eH_ex
    | cont ρ' => cases e; exact f.weak (o := .cont ρ') eH_ex
    | exc c d ρ' => cases e; exact f.weak (o := .exc c d ρ') eH_ex
def exBk (f : Stmt → SDen) : List Stmt → SDen → SDen
  | [], y => y
  | s :: ss, y => seqS (f s) (exBk f ss y)
theorem pss_app0 {f : Stmt → SDen} (h : ∀ s, PS X s (tSt C (f s))) {ss : List Stmt} {y : SDen} (hr : PSs X ss (tS0 C y)) : ∀ b : List Stmt, PSs X (b ++ ss) (tS0 C (exBk f b y))
  | [] => hr
  | s :: b => pss_cons0 (h s) (pss_app0 h hr b)
def spoilB (n : Str) : List Stmt → Bool
  | .Expr (.Call (.Attribute (.Subscript (.Name x0 _) (.Constant (.int i0) _ _) _) m0 p4) [.Constant (.str z) _ _] k0 p6) _ :: .Expr (.Call (.Attribute (.Name x1 _) m1 q1) [.Constant (.int i5) _ _] k1 q3) _ :: _ => (decide (x0 = n) && (decide (i0 = 0) && (decide (m0 = "append") && (decide (z = "x") && (k0.isEmpty && (p4.endLine == p6.line)))))) && (decide (x1 = n) && (decide (m1 = "append") && (decide (i5 = 5) && (k1.isEmpty && (q1.endLine == q3.line)))))
  | _ => false
theorem pss_spoil {i : Nat} {n : Str} {x : SDen} {ss : List Stmt} (T : TopW C.W) (hN : X.N[i]? = some n) (hv : Vis X.env.scope n) (hd : (n == ("__debug__" : Str)) = false) (hcd : (n == ("__classdict__" : Str)) = false) (hb : spoilB n ss = true)
    (h : PSs X (ss.drop 2) (tS0 C x)) : PSs X ss (tS0 C (seqS (spoilS i) x)) := by
  unfold spoilB at hb
  split at hb
  case h_2 => cases hb
  rename_i x0 b0 i0 j0 b1 b2 m0 p4 z j1 b5 k0 p6 b7 x1 c0 m1 q1 i5 j2 c2 k1 q3 c4 rest
  simp only [Bool.and_eq_true, decide_eq_true_eq] at hb
  obtain ⟨⟨rfl, rfl, rfl, rfl, e1, l1⟩, rfl, rfl, rfl, e2, l2⟩ := hb
  rw [List.isEmpty_iff] at e1 e2
  subst e1
  subst e2
  refine (pss_cons (ps_expr (pe_bm PySem.F.plainAttrs_list PySem.F.slot_list_append PySem.F.type_list_append mt_append (pe_ix ix_seq (pe_var (i := i) hN hv hd hcd) pe_int (notSlice_ok rfl)) (pa_cons pe_str pa_nil (star_cons rfl)) rfl (few1 rfl) l1 (star_cons rfl) (star_any rfl)) rfl)
    (pss_cons (ps_expr (pe_bm PySem.F.plainAttrs_list PySem.F.slot_list_append PySem.F.type_list_append mt_append (pe_var (i := i) hN hv hd hcd) (pa_cons pe_int pa_nil (star_cons rfl)) rfl (few1 rfl) l2 (star_cons rfl) (star_any rfl)) rfl) h)).imp fun E σ H hq => ?_
  obtain ⟨Hf, ρ, o, S, e, f⟩ := hq
  unfold seqS at e
  cases hs : spoilS i ρ with
  | none => rw [hs] at e; cases e
  | some o1 =>
    rw [hs] at e
    obtain ⟨z, ds, rest', hi, hc, rfl⟩ := spoilS_inv hs
    dsimp only at e
    obtain ⟨p, q, ws, vs, hp, h1, h2, ne, l1, l2, st⟩ := spoil_stt T S hi hc.1
    have a0 : L2.atI (V.ref q :: vs) 0 = some (.ref q) := by
      have hx : L2.ixN (V.ref q :: vs).length 0 = some 0 := by
        unfold L2.ixN
        rw [if_pos (by omega), if_pos (by simp)]
        try rfl
      unfold L2.atI
      rw [hx]
      rfl
    refine ⟨_, hp, ?_⟩
    refine .inl ⟨p, _, 0, .ref q, rfl, rfl, .inl (.inl h1), a0, ?_⟩
    refine ⟨.inl ⟨rfl, _, .inl (.inl h2)⟩, q, _, _, rfl, rfl, h2, Evl.sz_lt (by simp; omega), ?_⟩
    refine ⟨_, hp, .inl ⟨rfl, _, .inl (.inl (by rw [upd_ne ne]; exact h1))⟩, p, _, _, rfl, rfl, by rw [upd_ne ne]; exact h1, Evl.sz_lt (by simp; omega), ?_⟩
    exact ⟨_, _, o, st _ _, e, f⟩
end
/-! ### a def entered with a plain part of a known kind -/
def spOfT (K : Kc) (ca : Str → Option Addr) (n : Nat) (f : FM) (T : Hp → Prop) : Sp := fun vs H Q E => ∃ Hf as r, T Hf ∧ as.length = n ∧ Paired (ArgOk K Hf H) as vs ∧ Ex Hf H ∧ (∀ i j p, rfF as vs i = some p → rfF as vs j = some p → i = j) ∧
  f as = some r ∧ SpEnd K ca Hf H as vs Q E r
section
variable {P : Program} {w : World} {K : Kc} {mg : Str → Option Value} {base : Heap} {ca : Str → Option Addr}
theorem fn_okT {T : Hp → Prop} {x qual : Str} {st : Stmt} {f : Addr} {fd : FuncData} {N ps : List Str} {k : Nat} {bd : SDen} {dvs : List V} {kws : List (Str × V)} (F : FunD K.K x qual (defArgs st) (defBody st) (defScope st) dvs kws f fd) (S : FnScope N ps (defScope st)) (hn : ps.length ≤ N.length)
    (hbody : ∀ (cdv : Value) (A : Around) (outer : List Env) (s : Shared) (H : Hp) (E : XK) (W : Wd), W.K = K → T W.Hf0 → Room k (A.deeper (envOfC qual (defScope st) s.heap.objs.size f cdv)) →
      PSs (cxOf (L2N.CX P w) P w K.K mg base N qual (defScope st) f cdv A outer s H E) (defBody st) (tS0 ⟨W, fun cls d _ H => E cls d H, ca⟩ bd)) :
    FnOk P w K.K mg base (L2N.CX P w) (k + 1) f fd ps (spOfT K ca ps.length (semF ps.length N.length bd) T) := by
  refine F.ok S (fun vs H Q E h => ?_) (fun cdv A outer s H vs Q E hr h => ?_)
  · obtain ⟨Hf, as, r, _, hl, pa, _⟩ := h
    rw [← Paired.length pa, hl]
  · obtain ⟨Hf, as, r, hT, hl, pa, ex, inj, e, fin⟩ := h
    refine ⟨_, hbody cdv A outer s H E ⟨K, H, Hf, rfF as vs⟩ rfl hT hr, ?_⟩
    have S0 := entry pa ex inj (k := N.length - vs.length)
    have hlv : as.length = vs.length := Paired.length pa
    unfold semF at e
    rw [if_pos hl] at e
    have hk : N.length - ps.length = N.length - vs.length := by rw [← hlv, hl]
    rw [hk] at e
    cases hb : bd (as.map Arg.sl ++ List.replicate (N.length - vs.length) .no) with
    | none => rw [hb] at e; cases e
    | some o =>
      rw [hb] at e
      refine ⟨Hf, _, o, S0, hb, ?_⟩
      cases o with
      | next ρ =>
        simp only [Option.map_eq_some_iff] at e
        obtain ⟨outs, e, rfl⟩ := e
        exact fun σ' Hf' H' S' _ => fin .non Hf' H' (entry_back S' e) .non
      | ret rv ρ =>
        simp only [Option.map_eq_some_iff] at e
        obtain ⟨outs, e, rfl⟩ := e
        exact fun v σ' Hf' H' S' _ r => fin v Hf' H' (entry_back S' e) r
      | exc c d ρ =>
        simp only [Option.map_eq_some_iff] at e
        obtain ⟨outs, e, rfl⟩ := e
        exact fun σ' Hf' H' A dd v S' _ h1 h2 h3 h4 => fin Hf' H' A dd v (entry_back S' e) h1 h2 h3 h4
      | brk ρ => cases e
      | cont ρ => cases e
def TopH (Hf : Hp) : Prop := ∀ a ys, Hf a = some (.lst ys) → keepL ys = true
theorem keep_ints (ns : List Int) : keepL (ns.map V.int) = true := by cases ns <;> rfl
theorem scr_top {K : PySem.W.Frag} {H : Hp} {a : Addr} {ns : List Int} (h : SqL K H a (ns.map V.int)) : ∃ Hf, TopH Hf ∧ Ex Hf H ∧ SqL K Hf a (ns.map V.int) := by
  rcases h with (h | ⟨o, h⟩) | h
  · refine ⟨scrH H a, fun b ys e => ?_, scrH_ex, scrH_sq (.inl (.inl h))⟩
    unfold scrH at e
    split at e
    · rename_i hb
      subst hb
      rw [h] at e
      cases e
      exact keep_ints ns
    · cases e
  · refine ⟨scrH H a, fun b ys e => ?_, scrH_ex, scrH_sq (.inl (.inr ⟨o, h⟩))⟩
    unfold scrH at e
    split at e
    · rename_i hb
      subst hb
      rw [h] at e
      cases e
    · cases e
  · exact ⟨eH, fun b ys e => (by cases e), eH_ex, .inr h⟩
theorem law_endT {k : Nat} {g : Addr} {fd : FuncData} {ps : List Str} {f : FM} (F : FnOk P w K.K mg base (L2N.CX P w) k g fd ps (spOfT K ca 1 f TopH)) (h : ∀ ns : List Int, f [.val (.fls (ns.map .int))] = some (.ret (.val (.bl true)) [])) :
    FnOk P w K.K mg base CX0 k g fd ps (spLaw K.K) := by
  have toOf : ∀ {vs H Q E}, spLaw K.K vs H Q E → spOfT K ca 1 f TopH vs H Q (fun _ _ _ => False) := fun {vs H Q E} hs => by
    obtain ⟨a, ns, rfl, hS, q⟩ := hs
    obtain ⟨Hf, t, ex, sq⟩ := scr_top hS
    refine ⟨Hf, [.val (.fls (ns.map .int))], _, t, rfl, .cons (.fls sq (ints_rp ns)) .nil, ex, fun i j p h1 _ => ?_, h ns, fun v Hf' H' B r => ?_⟩
    · unfold rfF at h1
      rcases i with _ | i <;> simp at h1
    · cases (show Rp K Hf' v (.bl true) from r)
      exact q H'
  refine ⟨fun vs H Q E hs => F.len vs H Q _ (toOf hs), fun A outer s H args us vs Q E hr he hb hv hs => ?_⟩
  refine codeAny_mono (F.run A outer s H args us vs Q (fun _ _ _ => False) hr he hb hv (toOf hs)) fun r s' z => ?_
  cases r with
  | ok fl => cases fl <;> exact z
  | error e =>
    obtain ⟨_, _, _, _, _, _, _, _, _, _, _, _, no⟩ := z
    exact no.elim
end
section
variable {P : Program} {w : World} {K : Kc} {mg : Str → Option Value} {base : Heap} {ca : Str → Option Addr} {S : SC}
/-- the law's def, two of its statements spoiling a list -/
theorem def_okT (Y : Known P w K ca mg base S) {x qual : Str} {st : Stmt} {dvs : List V} {kws : List (Str × V)} {f : Addr} {fd : FuncData} {N ps : List Str} {ne n i k : Nat} {z : Str} (F : FunD K.K x qual (defArgs st) (defBody st) (defScope st) dvs kws f fd)
    (SF : FnScope N ps (defScope st)) (hn : ps.length ≤ N.length) (hN : S.N = N) (hsc : S.sc = defScope st) (hz : S.slot z = some i) (hnm : nmOk z = true) (hb : spoilB z ((defBody st).drop k) = true) :
    FnOk P w K.K mg base (L2N.CX P w) (S.lvl + 1) f fd ps (spOfT K ca ps.length (semF ps.length N.length (exBk (exSt S ne (exS S ne n)) ((defBody st).take k) (seqS (spoilS i) (exB (exSt S ne (exS S ne n)) (((defBody st).drop k).drop 2))))) TopH) :=
  fn_okT F SF hn fun cdv A outer s H E W hW hT hr => by
    have C := cpt_of (E := E) (H := H) (s := s) (outer := outer) (cdv := cdv) Y hN hsc SF.nd hW hr
    have one := fun s => exSt_ok C (fun _ => rfl) (n := ne) (exS_all S ne n) s
    obtain ⟨s1, s2⟩ := C.slot hz
    have q := pss_app0 one (pss_spoil hT s1 s2 (nmOk1 hnm) (nmOk2 hnm) hb (pss_tail0 (exB_ok one (((defBody st).drop k).drop 2)))) ((defBody st).take k)
    rw [List.take_append_drop] at q
    exact q
end
end DI
set_option maxRecDepth 100000
set_option maxHeartbeats 4000000
namespace Lb
open PySem PySem.Spec PyProof.Rows L2 DI
section
variable {xs : List Int} {s : Nat} {c r t : Bool} {ls : List Ln} {l : Ln} {a w n pg i : Int} {m : Mo} {d o b : D}
/-! ### plans given as lists -/
def encL : Ln → D
  | .recall => .lst [.str "recall"]
  | .note => .lst [.str "note"]
  | .count => .lst [.str "count"]
  | .add => .lst [.str "add"]
  | .send => .lst [.str "send"]
  | .wait => .lst [.str "wait"]
  | .fin => .lst [.str "end"]
  | .go t => .lst [.str "go", .int t]
  | .ifd t => .lst [.str "if", .str "done", .int t]
  | .ifk t => .lst [.str "if", .str "ok", .int t]
theorem line_okL (h : l.ok n c) : F_plans__is_line [.val (encL l), .val (.int n)] = some (.ret (.val (.bl true)) []) := by
  unfold F_plans__is_line c_plans__is_line
  cases l
  case recall => simp [-DI.ev_storeR, -DI.ev_storeV, -List.map_map, -List.length_take, -List.length_drop, -List.map_take, -List.map_drop, -Int.toNat_sub', DI.andB, DI.orB, DI.andV, DI.orV, DI.isBl, DI.notV, DI.negV, DI.chainB, DI.slcD, DI.tupleD, DI.listD, encL, bare_recall]
  case note => simp [-DI.ev_storeR, -DI.ev_storeV, -List.map_map, -List.length_take, -List.length_drop, -List.map_take, -List.map_drop, -Int.toNat_sub', DI.andB, DI.orB, DI.andV, DI.orV, DI.isBl, DI.notV, DI.negV, DI.chainB, DI.slcD, DI.tupleD, DI.listD, encL, bare_note]
  case count => simp [-DI.ev_storeR, -DI.ev_storeV, -List.map_map, -List.length_take, -List.length_drop, -List.map_take, -List.map_drop, -Int.toNat_sub', DI.andB, DI.orB, DI.andV, DI.orV, DI.isBl, DI.notV, DI.negV, DI.chainB, DI.slcD, DI.tupleD, DI.listD, encL, bare_count]
  case add => simp [-DI.ev_storeR, -DI.ev_storeV, -List.map_map, -List.length_take, -List.length_drop, -List.map_take, -List.map_drop, -Int.toNat_sub', DI.andB, DI.orB, DI.andV, DI.orV, DI.isBl, DI.notV, DI.negV, DI.chainB, DI.slcD, DI.tupleD, DI.listD, encL, bare_add]
  case send => simp [-DI.ev_storeR, -DI.ev_storeV, -List.map_map, -List.length_take, -List.length_drop, -List.map_take, -List.map_drop, -Int.toNat_sub', DI.andB, DI.orB, DI.andV, DI.orV, DI.isBl, DI.notV, DI.negV, DI.chainB, DI.slcD, DI.tupleD, DI.listD, encL, bare_send]
  case wait => simp [-DI.ev_storeR, -DI.ev_storeV, -List.map_map, -List.length_take, -List.length_drop, -List.map_take, -List.map_drop, -Int.toNat_sub', DI.andB, DI.orB, DI.andV, DI.orV, DI.isBl, DI.notV, DI.negV, DI.chainB, DI.slcD, DI.tupleD, DI.listD, encL, bare_wait]
  case fin => simp [-DI.ev_storeR, -DI.ev_storeV, -List.map_map, -List.length_take, -List.length_drop, -List.map_take, -List.map_drop, -Int.toNat_sub', DI.andB, DI.orB, DI.andV, DI.orV, DI.isBl, DI.notV, DI.negV, DI.chainB, DI.slcD, DI.tupleD, DI.listD, encL, bare_end]
  case go t =>
    have h' : 0 ≤ t ∧ t ≤ n - 1 := ⟨h.1, by have := h.2; omega⟩
    simp [-DI.ev_storeR, -DI.ev_storeV, -List.map_map, -List.length_take, -List.length_drop, -List.map_take, -List.map_drop, -Int.toNat_sub', DI.andB, DI.orB, DI.andV, DI.orV, DI.isBl, DI.notV, DI.negV, DI.chainB, DI.slcD, DI.tupleD, DI.listD, encL, number_is, h']
  case ifd t =>
    have h' : 0 ≤ t ∧ t ≤ n - 1 := ⟨h.1, by have := h.2; omega⟩
    simp [-DI.ev_storeR, -DI.ev_storeV, -List.map_map, -List.length_take, -List.length_drop, -List.map_take, -List.map_drop, -Int.toNat_sub', DI.andB, DI.orB, DI.andV, DI.orV, DI.isBl, DI.notV, DI.negV, DI.chainB, DI.slcD, DI.tupleD, DI.listD, encL, number_is, h', tests_done]
  case ifk t =>
    have h' : 0 ≤ t ∧ t ≤ n - 1 := ⟨h.1, by have := h.2; omega⟩
    simp [-DI.ev_storeR, -DI.ev_storeV, -List.map_map, -List.length_take, -List.length_drop, -List.map_take, -List.map_drop, -Int.toNat_sub', DI.andB, DI.orB, DI.andV, DI.orV, DI.isBl, DI.notV, DI.negV, DI.chainB, DI.slcD, DI.tupleD, DI.listD, encL, number_is, h', tests_ok]
/-- what may stand for a line -/
def Lf (l : Ln) (d : D) : Prop := d = enc l ∨ d = encL l
theorem lf_line (h : l.ok n c) (e : Lf l d) : F_plans__is_line [.val d, .val (.int n)] = some (.ret (.val (.bl true)) []) := by
  rcases e with rfl | rfl
  · exact line_ok h
  · exact line_okL h
theorem lf_tup (e : Lf l d) : tupleD d = some (.val (enc l)) := by
  rcases e with rfl | rfl <;> cases l <;> rfl
theorem lf_word (e : Lf l d) : ixD d (.int 0) = some (.str (wd l)) := by
  rcases e with rfl | rfl <;> cases l <;> rfl
/-- what may stand for a row of lines: its items -/
structure Of (o : D) (X : List D) : Prop where
  it : itemsI o = some X
  sq : F_values_is_sequence [.val o] = some (.ret (.val (.bl true)) [])
  ln : lenD o = some (.val (.int X.length))
  ix : ∀ i, ixD o (.int i) = L2.atI X i
theorem Of.tup (X : List D) : Of (.tup X) X := ⟨rfl, rfl, rfl, fun _ => rfl⟩
theorem Of.lst (X : List D) : Of (.lst X) X := ⟨rfl, rfl, rfl, fun _ => rfl⟩
theorem last_in (h : l.last = true) : inD (.str (wd l)) con_LAST_WORDS = some true := by
  cases l <;> first | (simp [Ln.last] at h; done) | exact last_end | exact last_go
theorem last_out (h : l.last = false) : inD (.str (wd l)) con_LAST_WORDS = some false := by
  cases l <;> first | (simp [Ln.last] at h; done) | kernel_rfl
/-- the states of the maker's slots -/
def PPo (o : D) (ρ : Rho) : Prop := ∃ s3 s4, ρ = [.ref (.ins "Plan" []), .val o, .no, s3, s4] ∧ isPl (some s3) = true ∧ isPl (some s4) = true
theorem po_turn {X : List D} (O : Of o X) {j : Int} (h : F_plans__is_line [.val d, .val (.int X.length)] = some (.ret (.val (.bl true)) [])) (ρ : Rho) (p : PPo o ρ) : ∃ ρ1 ρ', stT (.tup [.name 3, .name 4]) (.tup [.int j, d]) ρ = some ρ1 ∧ (qPI_1f ρ1 = some (.next ρ') ∨ qPI_1f ρ1 = some (.cont ρ')) ∧ PPo o ρ' := by
  obtain ⟨s3, s4, rfl, h3, h4⟩ := p
  refine ⟨[.ref (.ins "Plan" []), .val o, .no, .val (.int j), .val d], [.ref (.ins "Plan" []), .val o, .no, .val (.int j), .val d], ?_, .inl ?_, _, _, rfl, by simp, by simp⟩
  · simp [-DI.ev_storeR, -DI.ev_storeV, -List.map_map, -List.length_take, -List.length_drop, -List.map_take, -List.map_drop, -Int.toNat_sub', DI.andB, DI.orB, DI.andV, DI.orV, DI.isBl, DI.notV, DI.negV, DI.chainB, DI.slcD, DI.tupleD, DI.listD, nr_pl h3, nr_pl h4]
  · simp [-DI.ev_storeR, -DI.ev_storeV, -List.map_map, -List.length_take, -List.length_drop, -List.map_take, -List.map_drop, -Int.toNat_sub', DI.andB, DI.orB, DI.andV, DI.orV, DI.isBl, DI.notV, DI.negV, DI.chainB, DI.slcD, DI.tupleD, DI.listD, qPI_1f, sPI_1f_0, O.ln, h]
theorem po_bad {X : List D} (O : Of o X) {j : Int} (h : F_plans__is_line [.val d, .val (.int X.length)] = some (.ret (.val (.bl false)) [])) (ρ : Rho) (p : PPo o ρ) : ∃ ρ1 ρ', stT (.tup [.name 3, .name 4]) (.tup [.int j, d]) ρ = some ρ1 ∧ qPI_1f ρ1 = some (.exc "BadLine" (.int j) (.ref (.ins "Plan" []) :: .val o :: ρ')) := by
  obtain ⟨s3, s4, rfl, h3, h4⟩ := p
  refine ⟨[.ref (.ins "Plan" []), .val o, .no, .val (.int j), .val d], [.no, .val (.int j), .val d], ?_, ?_⟩
  · simp [-DI.ev_storeR, -DI.ev_storeV, -List.map_map, -List.length_take, -List.length_drop, -List.map_take, -List.map_drop, -Int.toNat_sub', DI.andB, DI.orB, DI.andV, DI.orV, DI.isBl, DI.notV, DI.negV, DI.chainB, DI.slcD, DI.tupleD, DI.listD, nr_pl h3, nr_pl h4]
  · simp [-DI.ev_storeR, -DI.ev_storeV, -List.map_map, -List.length_take, -List.length_drop, -List.map_take, -List.map_drop, -Int.toNat_sub', DI.andB, DI.orB, DI.andV, DI.orV, DI.isBl, DI.notV, DI.negV, DI.chainB, DI.slcD, DI.tupleD, DI.listD, qPI_1f, sPI_1f_0, qPI_1f_0a, sPI_1f_0a_0, O.ln, h]
theorem po_len {X : List D} (O : Of o X) (h1 : 1 ≤ X.length) (h2 : X.length ≤ 16) : sPI_0 [.ref (.ins "Plan" []), .val o, .no, .no, .no] = some (.next [.ref (.ins "Plan" []), .val o, .no, .no, .no]) := by
  have h1' : 1 ≤ (X.length : Int) := by omega
  have h2' : (X.length : Int) ≤ 16 := by omega
  simp [-DI.ev_storeR, -DI.ev_storeV, -List.map_map, -List.length_take, -List.length_drop, -List.map_take, -List.map_drop, -Int.toNat_sub', DI.andB, DI.orB, DI.andV, DI.orV, DI.isBl, DI.notV, DI.negV, DI.chainB, DI.slcD, DI.tupleD, DI.listD, sPI_0, O.sq, O.ln, con_MOST_LINES, h1', h2']
theorem po_bot {X : List D} (O : Of o X) {s3 s4 : Sl} : sPI_2 [.ref (.ins "Plan" []), .val o, .no, s3, s4] = some (.next [.ref (.ins "Plan" []), .val o, .val (.int ((X.length : Int) - 1)), s3, s4]) := by
  simp [-DI.ev_storeR, -DI.ev_storeV, -List.map_map, -List.length_take, -List.length_drop, -List.map_take, -List.map_drop, -Int.toNat_sub', DI.andB, DI.orB, DI.andV, DI.orV, DI.isBl, DI.notV, DI.negV, DI.chainB, DI.slcD, DI.tupleD, DI.listD, sPI_2, O.ln]
theorem po_init {X : List D} (O : Of o X) (g : Gd c ls) (hl : X.length = ls.length) (hX : ∀ (k : Nat) (d : D), X[k]? = some d → ∃ l, ls[k]? = some l ∧ Lf l d) : F_Plan___init__ [.ref (.ins "Plan" []), .val o] = some (.ret (.val .non) [(0, .ins "Plan" [("_lines", tupL ls)])]) := by
  unfold F_Plan___init__
  rw [c_Plan___init___cut]
  have a0 := po_len O (by have := g.lo; omega) (by have := g.hi; omega)
  have okX : ∀ d ∈ X, ∃ l ∈ ls, Lf l d := fun d hd => by
    obtain ⟨k, hk⟩ := List.getElem?_of_mem hd
    obtain ⟨l, h1, h2⟩ := hX k d hk
    exact ⟨l, List.mem_of_getElem? h1, h2⟩
  obtain ⟨ρ', e1, s3, s4, rfl, h3, h4⟩ := forL_inv (PPo o) (bd := qPI_1f) (t := .tup [.name 3, .name 4]) (ds := enumD 0 X) (fun d hd ρ p => by
    obtain ⟨j, x, rfl, hx⟩ := mem_enumD hd
    obtain ⟨l, hl', e⟩ := okX x hx
    have := lf_line (g.ok l hl') e
    rw [← hl] at this
    exact po_turn O this ρ p) (ρ := [.ref (.ins "Plan" []), .val o, .no, .no, .no]) ⟨_, _, rfl, by simp, by simp⟩
  have a1 : sPI_1 [.ref (.ins "Plan" []), .val o, .no, .no, .no] = some (.next [.ref (.ins "Plan" []), .val o, .no, s3, s4]) := by
    simp [-DI.ev_storeR, -DI.ev_storeV, -List.map_map, -List.length_take, -List.length_drop, -List.map_take, -List.map_drop, -Int.toNat_sub', DI.andB, DI.orB, DI.andV, DI.orV, DI.isBl, DI.notV, DI.negV, DI.chainB, DI.slcD, DI.tupleD, DI.listD, sPI_1, O.it, e1]
  have a2 := po_bot O (s3 := s3) (s4 := s4)
  obtain ⟨z, hz, hlast⟩ := g.last
  have lo := g.lo
  obtain ⟨dz, hdz⟩ : ∃ dz, X[ls.length - 1]? = some dz := ⟨_, List.getElem?_eq_getElem (by omega)⟩
  obtain ⟨z', hz', ez⟩ := hX _ _ hdz
  rw [hz] at hz'
  cases hz'
  have az : L2.atI X ((X.length : Int) - 1) = some dz := by
    refine atI_in (by omega) ?_
    rw [show ((X.length : Int) - 1).toNat = ls.length - 1 by omega]
    exact hdz
  have a3 : sPI_3 [.ref (.ins "Plan" []), .val o, .val (.int ((X.length : Int) - 1)), s3, s4] = some (.next [.ref (.ins "Plan" []), .val o, .val (.int ((X.length : Int) - 1)), s3, s4]) := by
    simp [-DI.ev_storeR, -DI.ev_storeV, -List.map_map, -List.length_take, -List.length_drop, -List.map_take, -List.map_drop, -Int.toNat_sub', DI.andB, DI.orB, DI.andV, DI.orV, DI.isBl, DI.notV, DI.negV, DI.chainB, DI.slcD, DI.tupleD, DI.listD, sPI_3, O.ix, az, lf_word ez, last_in hlast]
  have e4 := lcT_map (elt := frzD (call1C tupleD (slotC 4))) (t := .name 4) (ks := [4]) (ρ := [.ref (.ins "Plan" []), .val o, .val (.int ((X.length : Int) - 1)), s3, .no]) (fun d => ((tupleD d).getD (.val .non)).frz) (ds := X) (acc := []) (fun d hd => by
    obtain ⟨l, _, e⟩ := okX d hd
    refine ⟨[.ref (.ins "Plan" []), .val o, .val (.int ((X.length : Int) - 1)), s3, .val d], [.ref (.ins "Plan" []), .val o, .val (.int ((X.length : Int) - 1)), s3, .val d], ?_, ?_, ?_⟩
    · simp [-DI.ev_storeR, -DI.ev_storeV, -List.map_map, -List.length_take, -List.length_drop, -List.map_take, -List.map_drop, -Int.toNat_sub', DI.andB, DI.orB, DI.andV, DI.orV, DI.isBl, DI.notV, DI.negV, DI.chainB, DI.slcD, DI.tupleD, DI.listD, inn_pl h3]
    · simp [lf_tup e]
    · simp [-DI.ev_storeR, -DI.ev_storeV, -List.map_map, -List.length_take, -List.length_drop, -List.map_take, -List.map_drop, -Int.toNat_sub', DI.andB, DI.orB, DI.andV, DI.orV, DI.isBl, DI.notV, DI.negV, DI.chainB, DI.slcD, DI.tupleD, DI.listD, out_pl h3]) (by have := g.hi; simp; omega)
  have eX : X.map (fun d => ((tupleD d).getD (.val .non)).frz) = ls.map enc := by
    refine List.ext_getElem? fun k => ?_
    rw [List.getElem?_map, List.getElem?_map]
    cases hk : X[k]? with
    | none =>
      have : ls.length ≤ k := by rw [← hl]; exact List.getElem?_eq_none_iff.mp hk
      rw [List.getElem?_eq_none this]
      rfl
    | some d =>
      obtain ⟨l, h1, h2⟩ := hX k d hk
      rw [h1]
      simp [lf_tup h2]
  rw [List.nil_append, eX] at e4
  have a4 : sPI_4 [.ref (.ins "Plan" []), .val o, .val (.int ((X.length : Int) - 1)), s3, s4] = some (.next [.ref (.ins "Plan" [("_lines", tupL ls)]), .val o, .val (.int ((X.length : Int) - 1)), s3, s4]) := by
    simp [-DI.ev_storeR, -DI.ev_storeV, -List.map_map, -List.length_take, -List.length_drop, -List.map_take, -List.map_drop, -Int.toNat_sub', DI.andB, DI.orB, DI.andV, DI.orV, DI.isBl, DI.notV, DI.negV, DI.chainB, DI.slcD, DI.tupleD, DI.listD, sPI_4, O.it, e4, h4, putD]
    rfl
  have q := show qPI [.ref (.ins "Plan" []), .val o, .no, .no, .no] = some (.next _) from (seq_next a0).trans ((seq_next a1).trans ((seq_next a2).trans ((seq_next a3).trans (seq_nil a4))))
  simp [-DI.ev_storeR, -DI.ev_storeV, -List.map_map, -List.length_take, -List.length_drop, -List.map_take, -List.map_drop, -Int.toNat_sub', DI.andB, DI.orB, DI.andV, DI.orV, DI.isBl, DI.notV, DI.negV, DI.chainB, DI.slcD, DI.tupleD, DI.listD, q]
end
end Lb
set_option maxRecDepth 100000
set_option maxHeartbeats 4000000
namespace Lb
open PySem PySem.Spec PyProof.Rows L2 DI
/-- the first turns go on -/
theorem forL_pre {bd : SDen} {t : Tg} (P : Rho → Prop) : ∀ {A : List D} {ρ : Rho}, (∀ d ∈ A, ∀ ρ, P ρ → ∃ ρ1 ρ', stT t d ρ = some ρ1 ∧ (bd ρ1 = some (.next ρ') ∨ bd ρ1 = some (.cont ρ')) ∧ P ρ') → P ρ → ∃ ρ', P ρ' ∧ ∀ B, forL bd t (A ++ B) ρ = forL bd t B ρ'
  | [], ρ, h, p => ⟨ρ, p, fun B => rfl⟩
  | d :: A, ρ, h, p => by
    obtain ⟨ρ1, ρ', e1, e2, p'⟩ := h d (by simp) ρ p
    obtain ⟨ρ2, p2, e3⟩ := forL_pre P (A := A) (fun d hd => h d (List.mem_cons_of_mem _ hd)) p'
    refine ⟨ρ2, p2, fun B => ?_⟩
    rw [List.cons_append, ← e3 B]
    conv => lhs; unfold forL
    rw [e1]
    rcases e2 with e2 | e2 <;> (dsimp only; rw [e2])
theorem enumD_app : ∀ (A B : List D) (k : Int), enumD k (A ++ B) = enumD k A ++ enumD (k + A.length) B
  | [], B, k => by simp
  | a :: A, B, k => by
    rw [List.cons_append, en_cons, en_cons, enumD_app A B (k + 1), List.cons_append]
    have : k + 1 + (A.length : Int) = k + ((a :: A).length : Int) := by rw [List.length_cons]; omega
    rw [this]
section
variable {xs : List Int} {s : Nat} {c r t : Bool} {ls : List Ln} {l : Ln} {a w n pg i : Int} {m : Mo} {d o b : D}
/-! ### plans that are refused -/
theorem po_exc {X A B : List D} (O : Of o X) (h1 : 1 ≤ X.length) (h2 : X.length ≤ 16) (hX : X = A ++ b :: B) (good : ∀ d ∈ A, F_plans__is_line [.val d, .val (.int X.length)] = some (.ret (.val (.bl true)) [])) (bad : F_plans__is_line [.val b, .val (.int X.length)] = some (.ret (.val (.bl false)) [])) :
    F_Plan___init__ [.ref (.ins "Plan" []), .val o] = some (.exc "BadLine" (.int A.length) [(0, .ins "Plan" [])]) := by
  obtain ⟨ρ1, p1, e1⟩ := forL_pre (PPo o) (bd := qPI_1f) (t := .tup [.name 3, .name 4]) (A := enumD 0 A) (fun d hd ρ p => by
    obtain ⟨j, x, rfl, hx⟩ := mem_enumD hd
    exact po_turn O (good x hx) ρ p) (ρ := [.ref (.ins "Plan" []), .val o, .no, .no, .no]) ⟨_, _, rfl, by simp, by simp⟩
  obtain ⟨ρ2, ρ3, e2, e3⟩ := po_bad O (j := (A.length : Int)) bad ρ1 p1
  have ee : enumD 0 X = enumD 0 A ++ (.tup [.int (A.length : Int), b] :: enumD ((A.length : Int) + 1) B) := by
    rw [hX, enumD_app, en_cons, Int.zero_add]
  have ef : forL qPI_1f (.tup [.name 3, .name 4]) (enumD 0 X) [.ref (.ins "Plan" []), .val o, .no, .no, .no] = some (.exc "BadLine" (.int A.length) (.ref (.ins "Plan" []) :: .val o :: ρ3)) := by
    rw [ee, e1]
    unfold forL
    rw [e2]
    dsimp only
    rw [e3]
  have a1 : sPI_1 [.ref (.ins "Plan" []), .val o, .no, .no, .no] = some (.exc "BadLine" (.int A.length) (.ref (.ins "Plan" []) :: .val o :: ρ3)) := by
    simp [-DI.ev_storeR, -DI.ev_storeV, -List.map_map, -List.length_take, -List.length_drop, -List.map_take, -List.map_drop, -Int.toNat_sub', DI.andB, DI.orB, DI.andV, DI.orV, DI.isBl, DI.notV, DI.negV, DI.chainB, DI.slcD, DI.tupleD, DI.listD, sPI_1, O.it, ef]
  have q := show qPI [.ref (.ins "Plan" []), .val o, .no, .no, .no] = some (.exc _ _ _) from (seq_next (po_len O h1 h2)).trans (seq_exc a1)
  unfold F_Plan___init__
  rw [c_Plan___init___cut]
  simp [-DI.ev_storeR, -DI.ev_storeV, -List.map_map, -List.length_take, -List.length_drop, -List.map_take, -List.map_drop, -Int.toNat_sub', DI.andB, DI.orB, DI.andV, DI.orV, DI.isBl, DI.notV, DI.negV, DI.chainB, DI.slcD, DI.tupleD, DI.listD, q]
theorem po_last {X : List D} {z : Ln} {dz : D} (O : Of o X) (h1 : 1 ≤ X.length) (h2 : X.length ≤ 16) (good : ∀ d ∈ X, F_plans__is_line [.val d, .val (.int X.length)] = some (.ret (.val (.bl true)) [])) (hz : X[X.length - 1]? = some dz) (ez : Lf z dz) (hl : z.last = false) :
    F_Plan___init__ [.ref (.ins "Plan" []), .val o] = some (.exc "BadLine" (.int ((X.length : Int) - 1)) [(0, .ins "Plan" [])]) := by
  obtain ⟨ρ', e1, s3, s4, rfl, h3, h4⟩ := forL_inv (PPo o) (bd := qPI_1f) (t := .tup [.name 3, .name 4]) (ds := enumD 0 X) (fun d hd ρ p => by
    obtain ⟨j, x, rfl, hx⟩ := mem_enumD hd
    exact po_turn O (good x hx) ρ p) (ρ := [.ref (.ins "Plan" []), .val o, .no, .no, .no]) ⟨_, _, rfl, by simp, by simp⟩
  have a1 : sPI_1 [.ref (.ins "Plan" []), .val o, .no, .no, .no] = some (.next [.ref (.ins "Plan" []), .val o, .no, s3, s4]) := by
    simp [-DI.ev_storeR, -DI.ev_storeV, -List.map_map, -List.length_take, -List.length_drop, -List.map_take, -List.map_drop, -Int.toNat_sub', DI.andB, DI.orB, DI.andV, DI.orV, DI.isBl, DI.notV, DI.negV, DI.chainB, DI.slcD, DI.tupleD, DI.listD, sPI_1, O.it, e1]
  have az : L2.atI X ((X.length : Int) - 1) = some dz := by
    refine atI_in (by omega) ?_
    rw [show ((X.length : Int) - 1).toNat = X.length - 1 by omega]
    exact hz
  have a3 : sPI_3 [.ref (.ins "Plan" []), .val o, .val (.int ((X.length : Int) - 1)), s3, s4] = some (.exc "BadLine" (.int ((X.length : Int) - 1)) [.ref (.ins "Plan" []), .val o, .val (.int ((X.length : Int) - 1)), s3, s4]) := by
    simp [-DI.ev_storeR, -DI.ev_storeV, -List.map_map, -List.length_take, -List.length_drop, -List.map_take, -List.map_drop, -Int.toNat_sub', DI.andB, DI.orB, DI.andV, DI.orV, DI.isBl, DI.notV, DI.negV, DI.chainB, DI.slcD, DI.tupleD, DI.listD, sPI_3, qPI_3a, sPI_3a_0, O.ix, az, lf_word ez, last_out hl]
  have q := show qPI [.ref (.ins "Plan" []), .val o, .no, .no, .no] = some (.exc _ _ _) from (seq_next (po_len O h1 h2)).trans ((seq_next a1).trans ((seq_next (po_bot O)).trans (seq_exc a3)))
  unfold F_Plan___init__
  rw [c_Plan___init___cut]
  simp [-DI.ev_storeR, -DI.ev_storeV, -List.map_map, -List.length_take, -List.length_drop, -List.map_take, -List.map_drop, -Int.toNat_sub', DI.andB, DI.orB, DI.andV, DI.orV, DI.isBl, DI.notV, DI.negV, DI.chainB, DI.slcD, DI.tupleD, DI.listD, q]
theorem pk_line : pick ("BadLine" : Str) [(("BadValue" : Str), .tag ("value" : Str)), (("BadLine" : Str), .tag ("line" : Str))] = some (.tag "line") := by kernel_rfl
theorem pk_value : pick ("BadValue" : Str) [(("BadValue" : Str), .tag ("value" : Str)), (("BadLine" : Str), .tag ("line" : Str))] = some (.tag "value") := by kernel_rfl
theorem pk_at : pick ("BadValue" : Str) [(("BadValue" : Str), .at_)] = some .at_ := by kernel_rfl
theorem fault_line {k : Int} (h : F_Plan___init__ [.ref (.ins "Plan" []), .val o] = some (.exc "BadLine" (.int k) [(0, .ins "Plan" [])])) : F__law_plan_fault [.val o] = some (.ret (.val (.tup [.str "line", .int k])) []) := by
  unfold F__law_plan_fault c__law_plan_fault
  simp [-DI.ev_storeR, -DI.ev_storeV, -List.map_map, -List.length_take, -List.length_drop, -List.map_take, -List.map_drop, -Int.toNat_sub', DI.andB, DI.orB, DI.andV, DI.orV, DI.isBl, DI.notV, DI.negV, DI.chainB, DI.slcD, DI.tupleD, DI.listD, dropS, h, shiftO, pk_line, HK.val]
theorem fault_value {k : Int} (h : F_Plan___init__ [.ref (.ins "Plan" []), .val o] = some (.exc "BadValue" (.int k) [(0, .ins "Plan" [])])) : F__law_plan_fault [.val o] = some (.ret (.val (.tup [.str "value", .int k])) []) := by
  unfold F__law_plan_fault c__law_plan_fault
  simp [-DI.ev_storeR, -DI.ev_storeV, -List.map_map, -List.length_take, -List.length_drop, -List.map_take, -List.map_drop, -Int.toNat_sub', DI.andB, DI.orB, DI.andV, DI.orV, DI.isBl, DI.notV, DI.negV, DI.chainB, DI.slcD, DI.tupleD, DI.listD, dropS, h, shiftO, pk_value, HK.val]
/-- lines that are none -/
def bads (n : Int) : List D := [.non, .int 5, .tup [], .tup [.str "fly"], .tup [.str "send", .int 1], .tup [.str "go"], .tup [.str "go", .int n], .tup [.str "go", .int (-1)], .tup [.str "go", .bl true], .tup [.str "if", .str "done"], .tup [.str "if", .str "no", .int 0], .tup [.str "if", .str "ok", .int n],
  .tup [.str "if", .str "ok", .int 0, .int 0], .str "end", .tup [.str "end", .str "end"], .tup [.str "recall", .int 0]]
theorem bare_fly : inD (.str ("fly" : Str)) con_BARE_WORDS = some false := by kernel_rfl
theorem bare_go : inD (.str ("go" : Str)) con_BARE_WORDS = some false := by kernel_rfl
theorem tests_no : inD (.str ("no" : Str)) con_TESTS = some false := by kernel_rfl
theorem seq_non : F_values_is_sequence [.val .non] = some (.ret (.val (.bl false)) []) := rfl
theorem seq_int : F_values_is_sequence [.val (.int i)] = some (.ret (.val (.bl false)) []) := rfl
theorem seq_str {z : Str} : F_values_is_sequence [.val (.str z)] = some (.ret (.val (.bl false)) []) := rfl
theorem int_bl {z : Bool} : F_values_is_integer [.val (.bl z)] = some (.ret (.val (.bl false)) []) := rfl
theorem num_bl {z : Bool} {p q : Int} : F_values_is_number [.val (.bl z), .val (.int p), .val (.int q)] = some (.ret (.val (.bl false)) []) := by
  unfold F_values_is_number c_values_is_number
  simp [-DI.ev_storeR, -DI.ev_storeV, -List.map_map, -List.length_take, -List.length_drop, -List.map_take, -List.map_drop, -Int.toNat_sub', DI.andB, DI.orB, DI.andV, DI.orV, DI.isBl, DI.notV, DI.negV, DI.chainB, DI.slcD, DI.tupleD, DI.listD, int_bl]
theorem bad_is (h : 1 ≤ n) : ∀ b ∈ bads n, F_plans__is_line [.val b, .val (.int n)] = some (.ret (.val (.bl false)) []) := by
  intro b hb
  simp only [bads, List.mem_cons, List.not_mem_nil, or_false] at hb
  unfold F_plans__is_line c_plans__is_line
  have h1 : ¬ n ≤ n - 1 := by omega
  rcases hb with rfl | rfl | rfl | rfl | rfl | rfl | rfl | rfl | rfl | rfl | rfl | rfl | rfl | rfl | rfl | rfl
  · simp [-DI.ev_storeR, -DI.ev_storeV, -List.map_map, -List.length_take, -List.length_drop, -List.map_take, -List.map_drop, -Int.toNat_sub', DI.andB, DI.orB, DI.andV, DI.orV, DI.isBl, DI.notV, DI.negV, DI.chainB, DI.slcD, DI.tupleD, DI.listD, seq_non]
  · simp [-DI.ev_storeR, -DI.ev_storeV, -List.map_map, -List.length_take, -List.length_drop, -List.map_take, -List.map_drop, -Int.toNat_sub', DI.andB, DI.orB, DI.andV, DI.orV, DI.isBl, DI.notV, DI.negV, DI.chainB, DI.slcD, DI.tupleD, DI.listD, seq_int]
  · simp [-DI.ev_storeR, -DI.ev_storeV, -List.map_map, -List.length_take, -List.length_drop, -List.map_take, -List.map_drop, -Int.toNat_sub', DI.andB, DI.orB, DI.andV, DI.orV, DI.isBl, DI.notV, DI.negV, DI.chainB, DI.slcD, DI.tupleD, DI.listD]
  · simp [-DI.ev_storeR, -DI.ev_storeV, -List.map_map, -List.length_take, -List.length_drop, -List.map_take, -List.map_drop, -Int.toNat_sub', DI.andB, DI.orB, DI.andV, DI.orV, DI.isBl, DI.notV, DI.negV, DI.chainB, DI.slcD, DI.tupleD, DI.listD, bare_fly]
  · simp [-DI.ev_storeR, -DI.ev_storeV, -List.map_map, -List.length_take, -List.length_drop, -List.map_take, -List.map_drop, -Int.toNat_sub', DI.andB, DI.orB, DI.andV, DI.orV, DI.isBl, DI.notV, DI.negV, DI.chainB, DI.slcD, DI.tupleD, DI.listD]
  · simp [-DI.ev_storeR, -DI.ev_storeV, -List.map_map, -List.length_take, -List.length_drop, -List.map_take, -List.map_drop, -Int.toNat_sub', DI.andB, DI.orB, DI.andV, DI.orV, DI.isBl, DI.notV, DI.negV, DI.chainB, DI.slcD, DI.tupleD, DI.listD, bare_go]
  · simp [-DI.ev_storeR, -DI.ev_storeV, -List.map_map, -List.length_take, -List.length_drop, -List.map_take, -List.map_drop, -Int.toNat_sub', DI.andB, DI.orB, DI.andV, DI.orV, DI.isBl, DI.notV, DI.negV, DI.chainB, DI.slcD, DI.tupleD, DI.listD, number_is, h1]
  · simp [-DI.ev_storeR, -DI.ev_storeV, -List.map_map, -List.length_take, -List.length_drop, -List.map_take, -List.map_drop, -Int.toNat_sub', DI.andB, DI.orB, DI.andV, DI.orV, DI.isBl, DI.notV, DI.negV, DI.chainB, DI.slcD, DI.tupleD, DI.listD, number_is]
  · simp [-DI.ev_storeR, -DI.ev_storeV, -List.map_map, -List.length_take, -List.length_drop, -List.map_take, -List.map_drop, -Int.toNat_sub', DI.andB, DI.orB, DI.andV, DI.orV, DI.isBl, DI.notV, DI.negV, DI.chainB, DI.slcD, DI.tupleD, DI.listD, num_bl]
  · simp [-DI.ev_storeR, -DI.ev_storeV, -List.map_map, -List.length_take, -List.length_drop, -List.map_take, -List.map_drop, -Int.toNat_sub', DI.andB, DI.orB, DI.andV, DI.orV, DI.isBl, DI.notV, DI.negV, DI.chainB, DI.slcD, DI.tupleD, DI.listD]
  · simp [-DI.ev_storeR, -DI.ev_storeV, -List.map_map, -List.length_take, -List.length_drop, -List.map_take, -List.map_drop, -Int.toNat_sub', DI.andB, DI.orB, DI.andV, DI.orV, DI.isBl, DI.notV, DI.negV, DI.chainB, DI.slcD, DI.tupleD, DI.listD, tests_no]
  · simp [-DI.ev_storeR, -DI.ev_storeV, -List.map_map, -List.length_take, -List.length_drop, -List.map_take, -List.map_drop, -Int.toNat_sub', DI.andB, DI.orB, DI.andV, DI.orV, DI.isBl, DI.notV, DI.negV, DI.chainB, DI.slcD, DI.tupleD, DI.listD, number_is, tests_ok, h1]
  · simp [-DI.ev_storeR, -DI.ev_storeV, -List.map_map, -List.length_take, -List.length_drop, -List.map_take, -List.map_drop, -Int.toNat_sub', DI.andB, DI.orB, DI.andV, DI.orV, DI.isBl, DI.notV, DI.negV, DI.chainB, DI.slcD, DI.tupleD, DI.listD]
  · simp [-DI.ev_storeR, -DI.ev_storeV, -List.map_map, -List.length_take, -List.length_drop, -List.map_take, -List.map_drop, -Int.toNat_sub', DI.andB, DI.orB, DI.andV, DI.orV, DI.isBl, DI.notV, DI.negV, DI.chainB, DI.slcD, DI.tupleD, DI.listD, seq_str]
  · simp [-DI.ev_storeR, -DI.ev_storeV, -List.map_map, -List.length_take, -List.length_drop, -List.map_take, -List.map_drop, -Int.toNat_sub', DI.andB, DI.orB, DI.andV, DI.orV, DI.isBl, DI.notV, DI.negV, DI.chainB, DI.slcD, DI.tupleD, DI.listD]
  · simp [-DI.ev_storeR, -DI.ev_storeV, -List.map_map, -List.length_take, -List.length_drop, -List.map_take, -List.map_drop, -Int.toNat_sub', DI.andB, DI.orB, DI.andV, DI.orV, DI.isBl, DI.notV, DI.negV, DI.chainB, DI.slcD, DI.tupleD, DI.listD]
theorem val_non : F_Plan___init__ [.ref (.ins "Plan" []), .val .non] = some (.exc "BadValue" (.int 1) [(0, .ins "Plan" [])]) := by
  unfold F_Plan___init__ c_Plan___init__
  simp [-DI.ev_storeR, -DI.ev_storeV, -List.map_map, -List.length_take, -List.length_drop, -List.map_take, -List.map_drop, -Int.toNat_sub', DI.andB, DI.orB, DI.andV, DI.orV, DI.isBl, DI.notV, DI.negV, DI.chainB, DI.slcD, DI.tupleD, DI.listD, seq_non]
theorem val_int : F_Plan___init__ [.ref (.ins "Plan" []), .val (.int i)] = some (.exc "BadValue" (.int 1) [(0, .ins "Plan" [])]) := by
  unfold F_Plan___init__ c_Plan___init__
  simp [-DI.ev_storeR, -DI.ev_storeV, -List.map_map, -List.length_take, -List.length_drop, -List.map_take, -List.map_drop, -Int.toNat_sub', DI.andB, DI.orB, DI.andV, DI.orV, DI.isBl, DI.notV, DI.negV, DI.chainB, DI.slcD, DI.tupleD, DI.listD, seq_int]
theorem val_str {z : Str} : F_Plan___init__ [.ref (.ins "Plan" []), .val (.str z)] = some (.exc "BadValue" (.int 1) [(0, .ins "Plan" [])]) := by
  unfold F_Plan___init__ c_Plan___init__
  simp [-DI.ev_storeR, -DI.ev_storeV, -List.map_map, -List.length_take, -List.length_drop, -List.map_take, -List.map_drop, -Int.toNat_sub', DI.andB, DI.orB, DI.andV, DI.orV, DI.isBl, DI.notV, DI.negV, DI.chainB, DI.slcD, DI.tupleD, DI.listD, seq_str]
theorem val_len {X : List D} (h : X.length = 0 ∨ 16 < X.length) : F_Plan___init__ [.ref (.ins "Plan" []), .val (.tup X)] = some (.exc "BadValue" (.int 1) [(0, .ins "Plan" [])]) := by
  unfold F_Plan___init__ c_Plan___init__
  rcases h with h | h
  · simp [-DI.ev_storeR, -DI.ev_storeV, -List.map_map, -List.length_take, -List.length_drop, -List.map_take, -List.map_drop, -Int.toNat_sub', DI.andB, DI.orB, DI.andV, DI.orV, DI.isBl, DI.notV, DI.negV, DI.chainB, DI.slcD, DI.tupleD, DI.listD, h, con_MOST_LINES]
  · have h1 : 1 ≤ (X.length : Int) := by omega
    have h2 : ¬ (X.length : Int) ≤ 16 := by omega
    simp [-DI.ev_storeR, -DI.ev_storeV, -List.map_map, -List.length_take, -List.length_drop, -List.map_take, -List.map_drop, -Int.toNat_sub', DI.andB, DI.orB, DI.andV, DI.orV, DI.isBl, DI.notV, DI.negV, DI.chainB, DI.slcD, DI.tupleD, DI.listD, h1, h2, con_MOST_LINES]
theorem set_is {X : List D} {k : Nat} (h : k < X.length) (hl : X.length ≤ 1000) : F__law_set [.val (.tup X), .val (.int k), .val d] = some (.ret (.val (.tup (X.set k d))) []) := by
  have ix : ixN X.length (k : Int) = some k := by
    rw [ixN_in (by omega) (by omega)]
    simp
  unfold F__law_set c__law_set
  simp [-DI.ev_storeR, -DI.ev_storeV, -List.map_map, -List.length_take, -List.length_drop, -List.map_take, -List.map_drop, -Int.toNat_sub', DI.andB, DI.orB, DI.andV, DI.orV, DI.isBl, DI.notV, DI.negV, DI.chainB, DI.slcD, DI.tupleD, DI.listD, ix]
/-! ### equality of plans, of printers -/
theorem eqv_enc (x y : Ln) : eqvD (enc x) (enc y) = decide (x = y) := by
  cases x <;> cases y <;> first | rfl | (simp [enc, eqvD, toPy, toPyA, PyData.eqv, PyData.eqvAll]; done) | (simp [enc, eqvD, toPy, toPyA, PyData.eqv, PyData.eqvAll]; rfl)
end
end Lb
set_option maxRecDepth 100000
set_option maxHeartbeats 4000000
namespace Lb
open PySem PySem.Spec PyProof.Rows L2 DI
/-! ### equality of plans, of printers -/
def eqvDA (x y : List D) : Bool := match toPyA x, toPyA y with
  | some p, some q => PyData.eqvAll p q
  | _, _ => false
theorem enc_py (x : Ln) : ∃ p, toPy (enc x) = some p := by
  obtain ⟨p, e, _⟩ := sh_ok 1 _ (sh_enc x)
  exact ⟨p, e⟩
theorem encs_py (x : List Ln) : ∃ p, toPyA (x.map enc) = some p := by
  obtain ⟨p, e, _⟩ := shA_ok 1 _ (shA_map enc 1 sh_enc x)
  exact ⟨p, e⟩
theorem eqvDA_enc : ∀ a b : List Ln, eqvDA (a.map enc) (b.map enc) = decide (a = b)
  | [], [] => rfl
  | [], y :: b => by
    obtain ⟨p, e⟩ := encs_py (y :: b)
    obtain ⟨p1, e1⟩ := enc_py y
    obtain ⟨p2, e2⟩ := encs_py b
    simp [eqvDA, toPyA, e1, e2, PyData.eqvAll]
  | x :: a, [] => by
    obtain ⟨p1, e1⟩ := enc_py x
    obtain ⟨p2, e2⟩ := encs_py a
    simp [eqvDA, toPyA, e1, e2, PyData.eqvAll]
  | x :: a, y :: b => by
    obtain ⟨p1, e1⟩ := enc_py x
    obtain ⟨p2, e2⟩ := encs_py a
    obtain ⟨q1, f1⟩ := enc_py y
    obtain ⟨q2, f2⟩ := encs_py b
    have h1 := eqv_enc x y
    have h2 := eqvDA_enc a b
    unfold eqvD at h1
    unfold eqvDA at h2
    rw [e1, f1] at h1
    rw [e2, f2] at h2
    simp only at h1 h2
    simp [eqvDA, toPyA, e1, e2, f1, f2, PyData.eqvAll, h1, h2]
theorem eqD_tupL (a b : List Ln) : eqD (tupL a) (tupL b) = some (decide (a = b)) := by
  have h1 : okD (tupL a) = true := okD_sh 2 (shA_map enc 1 sh_enc a) (by omega)
  have h2 : okD (tupL b) = true := okD_sh 2 (shA_map enc 1 sh_enc b) (by omega)
  unfold eqD
  rw [h1, h2]
  obtain ⟨p, e⟩ := encs_py a
  obtain ⟨q, f⟩ := encs_py b
  have h := eqvDA_enc a b
  unfold eqvDA at h
  rw [e, f] at h
  simp only at h
  unfold eqvD tupL
  simp [toPy, e, f, PyData.eqv, h]
theorem eqD_enc (x y : Ln) : eqD (enc x) (enc y) = some (decide (x = y)) := by
  have h1 : okD (enc x) = true := okD_sh 1 (sh_enc x) (by omega)
  have h2 : okD (enc y) = true := okD_sh 1 (sh_enc y) (by omega)
  unfold eqD
  rw [h1, h2, eqv_enc]
  rfl
theorem eqD_pair {z : Str} (hz : PyData.strOk z = true) {i j : Int} : eqD (.tup [.str z, .int i]) (.tup [.str z, .int j]) = some (decide (i = j)) := by
  have k : ∀ i : Int, okD (.tup [.str z, .int i]) = true := fun i => okD_sh 1 (by simp [sh, shA, hz]) (by omega)
  unfold eqD
  rw [k, k]
  unfold eqvD
  by_cases h : i = j
  · subst h
    simp [toPy, toPyA, PyData.eqv, PyData.eqvAll]
  · simp [toPy, toPyA, PyData.eqv, PyData.eqvAll, h]
theorem ok_line_ : PyData.strOk ("line" : Str) = true := by decide +kernel
theorem ok_value_ : PyData.strOk ("value" : Str) = true := by decide +kernel
section
variable {a b : List Ln} {c r t c' r' t' : Bool} {d : D}
theorem plan_eq : F_Plan___eq__ [.val (plD a), .val (plD b)] = some (.ret (.val (.bl (decide (a = b)))) []) := by
  have e := eqD_tupL a b
  unfold F_Plan___eq__ c_Plan___eq__
  simp [-DI.ev_storeR, -DI.ev_storeV, -List.map_map, -List.length_take, -List.length_drop, -List.map_take, -List.map_drop, -Int.toNat_sub', DI.andB, DI.orB, DI.andV, DI.orV, DI.isBl, DI.notV, DI.negV, DI.chainB, DI.slcD, DI.tupleD, DI.listD, plD, isOwn, e]
theorem plan_no (h : isOwn "Plan" d = false) : F_Plan___eq__ [.val (plD a), .val d] = some (.ret (.val (.bl false)) []) := by
  unfold F_Plan___eq__ c_Plan___eq__
  simp [-DI.ev_storeR, -DI.ev_storeV, -List.map_map, -List.length_take, -List.length_drop, -List.map_take, -List.map_drop, -Int.toNat_sub', DI.andB, DI.orB, DI.andV, DI.orV, DI.isBl, DI.notV, DI.negV, DI.chainB, DI.slcD, DI.tupleD, DI.listD, h]
theorem plan_len : F_Plan___len__ [.val (plD a)] = some (.ret (.val (.int a.length)) []) := by
  unfold F_Plan___len__ c_Plan___len__
  simp [-DI.ev_storeR, -DI.ev_storeV, -List.map_map, -List.length_take, -List.length_drop, -List.map_take, -List.map_drop, -Int.toNat_sub', DI.andB, DI.orB, DI.andV, DI.orV, DI.isBl, DI.notV, DI.negV, DI.chainB, DI.slcD, DI.tupleD, DI.listD, plD, tupL]
@[simp] theorem lkp_counts {x y z : D} : List.lookup ("_counts" : Str) [(("_counts" : Str), x), (("_remembers" : Str), y), (("_tells" : Str), z)] = some x := rfl
@[simp] theorem lkp_remembers {x y z : D} : List.lookup ("_remembers" : Str) [(("_counts" : Str), x), (("_remembers" : Str), y), (("_tells" : Str), z)] = some y := rfl
@[simp] theorem lkp_tells {x y z : D} : List.lookup ("_tells" : Str) [(("_counts" : Str), x), (("_remembers" : Str), y), (("_tells" : Str), z)] = some z := rfl
theorem pr_eq : F_Printer___eq__ [.val (prD c r t), .val (prD c' r' t')] = some (.ret (.val (.bl (decide (c = c') && (decide (r = r') && decide (t = t'))))) []) := by
  unfold F_Printer___eq__ c_Printer___eq__
  cases c <;> cases c' <;> cases r <;> cases r' <;> cases t <;> cases t' <;> simp [-DI.ev_storeR, -DI.ev_storeV, -List.map_map, -List.length_take, -List.length_drop, -List.map_take, -List.map_drop, -Int.toNat_sub', DI.andB, DI.orB, DI.andV, DI.orV, DI.isBl, DI.notV, DI.negV, DI.chainB, DI.slcD, DI.tupleD, DI.listD, prD, isOwn, eqD_bl]
theorem pr_no (h : isOwn "Printer" d = false) : F_Printer___eq__ [.val (prD c r t), .val d] = some (.ret (.val (.bl false)) []) := by
  unfold F_Printer___eq__ c_Printer___eq__
  simp [-DI.ev_storeR, -DI.ev_storeV, -List.map_map, -List.length_take, -List.length_drop, -List.map_take, -List.map_drop, -Int.toNat_sub', DI.andB, DI.orB, DI.andV, DI.orV, DI.isBl, DI.notV, DI.negV, DI.chainB, DI.slcD, DI.tupleD, DI.listD, h]
/-! ### what is no flag -/
def NoFl (d : D) : Prop := F_values_is_flag [.val d] = some (.ret (.val (.bl false)) [])
theorem nf_int {i : Int} : NoFl (.int i) := rfl
theorem nf_non : NoFl .non := rfl
theorem nf_str {z : Str} : NoFl (.str z) := rfl
theorem pr_bad1 (h : NoFl d) {x y : D} : F_Printer___init__ [.ref (.ins "Printer" []), .val d, .val x, .val y] = some (.exc "BadValue" (.int 1) [(0, .ins "Printer" [])]) := by
  unfold NoFl at h
  unfold F_Printer___init__ c_Printer___init__
  simp [-DI.ev_storeR, -DI.ev_storeV, -List.map_map, -List.length_take, -List.length_drop, -List.map_take, -List.map_drop, -Int.toNat_sub', DI.andB, DI.orB, DI.andV, DI.orV, DI.isBl, DI.notV, DI.negV, DI.chainB, DI.slcD, DI.tupleD, DI.listD, h]
theorem pr_bad2 (h : NoFl d) {y : D} : F_Printer___init__ [.ref (.ins "Printer" []), .val (.bl c), .val d, .val y] = some (.exc "BadValue" (.int 2) [(0, .ins "Printer" [])]) := by
  unfold NoFl at h
  unfold F_Printer___init__ c_Printer___init__
  simp [-DI.ev_storeR, -DI.ev_storeV, -List.map_map, -List.length_take, -List.length_drop, -List.map_take, -List.map_drop, -Int.toNat_sub', DI.andB, DI.orB, DI.andV, DI.orV, DI.isBl, DI.notV, DI.negV, DI.chainB, DI.slcD, DI.tupleD, DI.listD, h]
theorem pr_bad3 (h : NoFl d) : F_Printer___init__ [.ref (.ins "Printer" []), .val (.bl c), .val (.bl r), .val d] = some (.exc "BadValue" (.int 3) [(0, .ins "Printer" [])]) := by
  unfold NoFl at h
  unfold F_Printer___init__ c_Printer___init__
  simp [-DI.ev_storeR, -DI.ev_storeV, -List.map_map, -List.length_take, -List.length_drop, -List.map_take, -List.map_drop, -Int.toNat_sub', DI.andB, DI.orB, DI.andV, DI.orV, DI.isBl, DI.notV, DI.negV, DI.chainB, DI.slcD, DI.tupleD, DI.listD, h]
theorem fault_pr {x y z : D} {k : Int} (h : F_Printer___init__ [.ref (.ins "Printer" []), .val x, .val y, .val z] = some (.exc "BadValue" (.int k) [(0, .ins "Printer" [])])) : F__law_printer_fault [.val x, .val y, .val z] = some (.ret (.val (.int k)) []) := by
  unfold F__law_printer_fault c__law_printer_fault
  simp [-DI.ev_storeR, -DI.ev_storeV, -List.map_map, -List.length_take, -List.length_drop, -List.map_take, -List.map_drop, -Int.toNat_sub', DI.andB, DI.orB, DI.andV, DI.orV, DI.isBl, DI.notV, DI.negV, DI.chainB, DI.slcD, DI.tupleD, DI.listD, dropS, h, shiftO, pk_at, HK.val]
theorem wr_at {w : Int} (h0 : 0 ≤ w) (h : w < 4) : ∃ d, L2.atI [D.int 0, .int 1, .non, .str ("True" : Str)] w = some d ∧ NoFl d := by
  have : w = 0 ∨ w = 1 ∨ w = 2 ∨ w = 3 := by omega
  rcases this with rfl | rfl | rfl | rfl
  · exact ⟨_, rfl, nf_int⟩
  · exact ⟨_, rfl, nf_int⟩
  · exact ⟨_, rfl, nf_non⟩
  · exact ⟨_, rfl, nf_str⟩
end
/-! ### no list but of numbers -/
theorem noL_ints : ∀ ns : List Int, noLA (ns.map D.int) = true
  | [] => rfl
  | n :: ns => by rw [List.map_cons, noLA, noL_ints ns]; rfl
theorem keepD_ints (ns : List Int) : keepD (ns.map D.int) = true := by cases ns <;> rfl
theorem noL_enc (l : Ln) : noL (enc l) = true := by cases l <;> rfl
theorem noL_encs : ∀ ls : List Ln, noLA (ls.map enc) = true
  | [] => rfl
  | l :: ls => by rw [List.map_cons, noLA, noL_enc, noL_encs ls]; rfl
def tl : Ln → List D
  | .go t => [.int t]
  | .ifd t => [.str "done", .int t]
  | .ifk t => [.str "ok", .int t]
  | _ => []
theorem encL_is (l : Ln) : encL l = .lst (.str (wd l) :: tl l) := by cases l <;> rfl
theorem tl_len (l : Ln) : (tl l).length ≤ 2 := by cases l <;> simp [tl]
end Lb
set_option maxRecDepth 100000
set_option maxHeartbeats 4000000
namespace Q01
open PySem PySem.Spec PyProof.Rows L2 DI Lb
def top (i : Nat) : Stmt := PySem.Challenge.pw_pagesonce_k01_printers_and_plans_as_give.main.body.getD i (.Pass ⟨0, 0, 0, 0⟩)
def inner (s : Stmt) (k : Nat) : Stmt := (DI.clsBody s).getD k (.Pass ⟨0, 0, 0, 0⟩)
def cs : List Str := [("Printer" : Str), ("Plan" : Str)]
def es : List Str := [("BadValue" : Str), ("BadLine" : Str)]
def bl : List Str := [("len" : Str), ("tuple" : Str), ("list" : Str), ("int" : Str), ("isinstance" : Str), ("range" : Str), ("str" : Str), ("bool" : Str), ("enumerate" : Str)]
def flds : List Str := [("_counts" : Str), ("_remembers" : Str), ("_tells" : Str), ("_lines" : Str)]
def cons_ : List (Str × D) := [(("MOST_LINES" : Str), con_MOST_LINES), (("BARE_WORDS" : Str), con_BARE_WORDS), (("TESTS" : Str), con_TESTS), (("LAST_WORDS" : Str), con_LAST_WORDS)]
def blt0 (x : Str) : Bool := bl.contains x
def con0 (x : Str) : Option D := cons_.lookup x
def cls0 (x : Str) : Bool := cs.contains x
def fld0 (x : Str) : Bool := flds.contains x
def exn0 (x : Str) : Bool := es.contains x
abbrev N_is_integer : List Str := ["value"]
def fns_is_integer : List (Str × FE) := []
def S_is_integer : SC := { N := N_is_integer, sc := defScope (top 5), lvl := 0, blt := blt0, con := con0, fns := fun x => (fns_is_integer).lookup x, cls := cls0, fld := fld0 }
theorem bd_is_integer : exS (S_is_integer) 20 20 (defBody (top 5)) = c_values_is_integer := by kernel_rfl
theorem sc_is_integer : FnScope N_is_integer ["value"] (defScope (top 5)) := ⟨rfl, rfl, rfl, by decide +kernel, rfl, by decide +kernel, by decide +kernel⟩
abbrev N_is_number : List Str := ["value", "least", "most"]
def fns_is_number : List (Str × FE) := [(("is_integer" : Str), ⟨1, [false], F_values_is_integer⟩)]
def S_is_number : SC := { N := N_is_number, sc := defScope (top 6), lvl := 1, blt := blt0, con := con0, fns := fun x => (fns_is_number).lookup x, cls := cls0, fld := fld0 }
theorem bd_is_number : exS (S_is_number) 20 20 (defBody (top 6)) = c_values_is_number := by kernel_rfl
theorem sc_is_number : FnScope N_is_number ["value", "least", "most"] (defScope (top 6)) := ⟨rfl, rfl, rfl, by decide +kernel, rfl, by decide +kernel, by decide +kernel⟩
abbrev N_is_flag : List Str := ["value"]
def fns_is_flag : List (Str × FE) := []
def S_is_flag : SC := { N := N_is_flag, sc := defScope (top 7), lvl := 0, blt := blt0, con := con0, fns := fun x => (fns_is_flag).lookup x, cls := cls0, fld := fld0 }
theorem bd_is_flag : exS (S_is_flag) 20 20 (defBody (top 7)) = c_values_is_flag := by kernel_rfl
theorem sc_is_flag : FnScope N_is_flag ["value"] (defScope (top 7)) := ⟨rfl, rfl, rfl, by decide +kernel, rfl, by decide +kernel, by decide +kernel⟩
abbrev N_is_sequence : List Str := ["value"]
def fns_is_sequence : List (Str × FE) := []
def S_is_sequence : SC := { N := N_is_sequence, sc := defScope (top 8), lvl := 0, blt := blt0, con := con0, fns := fun x => (fns_is_sequence).lookup x, cls := cls0, fld := fld0 }
theorem bd_is_sequence : exS (S_is_sequence) 20 20 (defBody (top 8)) = c_values_is_sequence := by kernel_rfl
theorem sc_is_sequence : FnScope N_is_sequence ["value"] (defScope (top 8)) := ⟨rfl, rfl, rfl, by decide +kernel, rfl, by decide +kernel, by decide +kernel⟩
abbrev N__is_line : List Str := ["value", "many"]
def fns__is_line : List (Str × FE) := [(("is_sequence" : Str), ⟨1, [false], F_values_is_sequence⟩), (("is_number" : Str), ⟨3, [false, false, false], F_values_is_number⟩)]
def S__is_line : SC := { N := N__is_line, sc := defScope (top 16), lvl := 2, blt := blt0, con := con0, fns := fun x => (fns__is_line).lookup x, cls := cls0, fld := fld0 }
theorem bd__is_line : exS (S__is_line) 20 20 (defBody (top 16)) = c_plans__is_line := by kernel_rfl
theorem sc__is_line : FnScope N__is_line ["value", "many"] (defScope (top 16)) := ⟨rfl, rfl, rfl, by decide +kernel, rfl, by decide +kernel, by decide +kernel⟩
abbrev N__law_so : List Str := ["found", "meant", "k"]
def fns__law_so (n : Nat) : List (Str × FE) := [(("_law_so" : Str), ⟨2, [false, false], (F__law_so n)⟩)]
def S__law_so (n : Nat) : SC := { N := N__law_so, sc := defScope (top 18), lvl := n, blt := blt0, con := con0, fns := fun x => (fns__law_so n).lookup x, cls := cls0, fld := fld0 }
theorem bd__law_so (n : Nat) : exS (S__law_so n) 20 20 (defBody (top 18)) = c__law_so (F__law_so n) := by kernel_rfl
theorem sc__law_so : FnScope N__law_so ["found", "meant"] (defScope (top 18)) := ⟨rfl, rfl, rfl, by decide +kernel, rfl, by decide +kernel, by decide +kernel⟩
abbrev N__law_numbers : List Str := ["script", "row", "cell", "left", "k", "mixed"]
def fns__law_numbers : List (Str × FE) := []
def S__law_numbers : SC := { N := N__law_numbers, sc := defScope (top 19), lvl := 0, blt := blt0, con := con0, fns := fun x => (fns__law_numbers).lookup x, cls := cls0, fld := fld0 }
theorem bd__law_numbers : exS (S__law_numbers) 20 20 (defBody (top 19)) = c__law_numbers := by kernel_rfl
theorem sc__law_numbers : FnScope N__law_numbers ["script"] (defScope (top 19)) := ⟨rfl, rfl, rfl, by decide +kernel, rfl, by decide +kernel, by decide +kernel⟩
abbrev N__law_draw : List Str := ["row", "at", "limit", "mixed"]
def fns__law_draw : List (Str × FE) := []
def S__law_draw : SC := { N := N__law_draw, sc := defScope (top 20), lvl := 0, blt := blt0, con := con0, fns := fun x => (fns__law_draw).lookup x, cls := cls0, fld := fld0 }
theorem bd__law_draw : exS (S__law_draw) 20 20 (defBody (top 20)) = c__law_draw := by kernel_rfl
theorem sc__law_draw : FnScope N__law_draw ["row", "at", "limit"] (defScope (top 20)) := ⟨rfl, rfl, rfl, by decide +kernel, rfl, by decide +kernel, by decide +kernel⟩
abbrev N__law_take : List Str := ["row", "spot", "limit"]
def fns__law_take : List (Str × FE) := [(("_law_draw" : Str), ⟨3, [false, false, false], F__law_draw⟩)]
def S__law_take : SC := { N := N__law_take, sc := defScope (top 21), lvl := 1, blt := blt0, con := con0, fns := fun x => (fns__law_take).lookup x, cls := cls0, fld := fld0 }
theorem bd__law_take : exS (S__law_take) 20 20 (defBody (top 21)) = c__law_take := by kernel_rfl
theorem sc__law_take : FnScope N__law_take ["row", "spot", "limit"] (defScope (top 21)) := ⟨rfl, rfl, rfl, by decide +kernel, rfl, by decide +kernel, by decide +kernel⟩
abbrev N__law_loose : List Str := ["value", "turn", "made", "one"]
def fns__law_loose (n : Nat) : List (Str × FE) := [(("_law_loose" : Str), ⟨2, [false, false], (F__law_loose n)⟩)]
def S__law_loose (n : Nat) : SC := { N := N__law_loose, sc := defScope (top 22), lvl := n, blt := blt0, con := con0, fns := fun x => (fns__law_loose n).lookup x, cls := cls0, fld := fld0 }
theorem bd__law_loose (n : Nat) : exS (S__law_loose n) 20 20 (defBody (top 22)) = c__law_loose (F__law_loose n) := by kernel_rfl
theorem sc__law_loose : FnScope N__law_loose ["value", "turn"] (defScope (top 22)) := ⟨rfl, rfl, rfl, by decide +kernel, rfl, by decide +kernel, by decide +kernel⟩
abbrev N__law_set : List Str := ["values", "at", "value", "made"]
def fns__law_set : List (Str × FE) := []
def S__law_set : SC := { N := N__law_set, sc := defScope (top 23), lvl := 0, blt := blt0, con := con0, fns := fun x => (fns__law_set).lookup x, cls := cls0, fld := fld0 }
theorem bd__law_set : exS (S__law_set) 20 20 (defBody (top 23)) = c__law_set := by kernel_rfl
theorem sc__law_set : FnScope N__law_set ["values", "at", "value"] (defScope (top 23)) := ⟨rfl, rfl, rfl, by decide +kernel, rfl, by decide +kernel, by decide +kernel⟩
abbrev N__law_printer : List Str := ["row", "spot"]
def fns__law_printer : List (Str × FE) := [(("_law_take" : Str), ⟨3, [false, true, false], F__law_take⟩)]
def S__law_printer : SC := { N := N__law_printer, sc := defScope (top 24), lvl := 2, blt := blt0, con := con0, fns := fun x => (fns__law_printer).lookup x, cls := cls0, fld := fld0 }
theorem bd__law_printer : exS (S__law_printer) 20 20 (defBody (top 24)) = c__law_printer := by kernel_rfl
theorem sc__law_printer : FnScope N__law_printer ["row", "spot"] (defScope (top 24)) := ⟨rfl, rfl, rfl, by decide +kernel, rfl, by decide +kernel, by decide +kernel⟩
abbrev N__law_shift : List Str := ["lines", "at", "more", "made", "one"]
def fns__law_shift : List (Str × FE) := []
def S__law_shift : SC := { N := N__law_shift, sc := defScope (top 25), lvl := 0, blt := blt0, con := con0, fns := fun x => (fns__law_shift).lookup x, cls := cls0, fld := fld0 }
theorem bd__law_shift : exS (S__law_shift) 20 20 (defBody (top 25)) = c__law_shift := by kernel_rfl
theorem sc__law_shift : FnScope N__law_shift ["lines", "at", "more"] (defScope (top 25)) := ⟨rfl, rfl, rfl, by decide +kernel, rfl, by decide +kernel, by decide +kernel⟩
abbrev N__law_line : List Str := ["row", "spot", "many", "counts", "words", "word"]
def fns__law_line : List (Str × FE) := [(("_law_take" : Str), ⟨3, [false, true, false], F__law_take⟩)]
def S__law_line : SC := { N := N__law_line, sc := defScope (top 26), lvl := 2, blt := blt0, con := con0, fns := fun x => (fns__law_line).lookup x, cls := cls0, fld := fld0 }
theorem bd__law_line : exS (S__law_line) 20 20 (defBody (top 26)) = c__law_line := by kernel_rfl
theorem sc__law_line : FnScope N__law_line ["row", "spot", "many", "counts"] (defScope (top 26)) := ⟨rfl, rfl, rfl, by decide +kernel, rfl, by decide +kernel, by decide +kernel⟩
abbrev N__law_plan : List Str := ["row", "spot", "counts", "known", "style", "lines", "k", "many", "at", "way"]
def fns__law_plan : List (Str × FE) := [(("_law_take" : Str), ⟨3, [false, true, false], F__law_take⟩), (("_law_line" : Str), ⟨4, [false, true, false, false], F__law_line⟩), (("_law_shift" : Str), ⟨3, [false, false, false], F__law_shift⟩)]
def S__law_plan : SC := { N := N__law_plan, sc := defScope (top 27), lvl := 3, blt := blt0, con := con0, fns := fun x => (fns__law_plan).lookup x, cls := cls0, fld := fld0 }
theorem bd__law_plan : exS (S__law_plan) 20 20 (defBody (top 27)) = c__law_plan := by kernel_rfl
theorem sc__law_plan : FnScope N__law_plan ["row", "spot", "counts"] (defScope (top 27)) := ⟨rfl, rfl, rfl, by decide +kernel, rfl, by decide +kernel, by decide +kernel⟩
abbrev N__law_case : List Str := ["row", "spot", "printer"]
def fns__law_case : List (Str × FE) := [(("_law_printer" : Str), ⟨2, [false, true], F__law_printer⟩), (("_law_plan" : Str), ⟨3, [false, true, false], F__law_plan⟩)]
def S__law_case : SC := { N := N__law_case, sc := defScope (top 28), lvl := 4, blt := blt0, con := con0, fns := fun x => (fns__law_case).lookup x, cls := cls0, fld := fld0 }
theorem bd__law_case : exS (S__law_case) 20 20 (defBody (top 28)) = c__law_case := by kernel_rfl
theorem sc__law_case : FnScope N__law_case ["row", "spot"] (defScope (top 28)) := ⟨rfl, rfl, rfl, by decide +kernel, rfl, by decide +kernel, by decide +kernel⟩
abbrev N_Printer___init__ : List Str := ["self", "counts", "remembers", "tells"]
def fns_Printer___init__ : List (Str × FE) := [(("is_flag" : Str), ⟨1, [false], F_values_is_flag⟩)]
def S_Printer___init__ : SC := { N := N_Printer___init__, sc := defScope (inner (top 14) 0), lvl := 2, blt := blt0, con := con0, fns := fun x => (fns_Printer___init__).lookup x, cls := cls0, fld := fld0, exn := exn0 }
theorem bd_Printer___init__ : exS (S_Printer___init__) 20 20 (defBody (inner (top 14) 0)) = c_Printer___init__ := by kernel_rfl
theorem sc_Printer___init__ : FnScope N_Printer___init__ ["self", "counts", "remembers", "tells"] (defScope (inner (top 14) 0)) := ⟨rfl, rfl, rfl, by decide +kernel, rfl, by decide +kernel, by decide +kernel⟩
abbrev N__law_machine : List Str := ["case"]
def fns__law_machine : List (Str × FE) := []
def S__law_machine : SC := { N := N__law_machine, sc := defScope (top 29), lvl := 4, blt := blt0, con := con0, fns := fun x => (fns__law_machine).lookup x, cls := cls0, fld := fld0, ctor := fun x => ([(("Printer" : Str), ⟨3, [false, false, false], F_Printer___init__⟩)] : List (Str × FE)).lookup x }
theorem bd__law_machine : exS (S__law_machine) 20 20 (defBody (top 29)) = c__law_machine := by kernel_rfl
theorem sc__law_machine : FnScope N__law_machine ["case"] (defScope (top 29)) := ⟨rfl, rfl, rfl, by decide +kernel, rfl, by decide +kernel, by decide +kernel⟩
abbrev N_Plan___init__ : List Str := ["self", "lines", "bottom", "at", "line"]
def fns_Plan___init__ : List (Str × FE) := [(("is_sequence" : Str), ⟨1, [false], F_values_is_sequence⟩), (("_is_line" : Str), ⟨2, [false, false], F_plans__is_line⟩)]
def S_Plan___init__ : SC := { N := N_Plan___init__, sc := defScope (inner (top 15) 0), lvl := 3, blt := blt0, con := con0, fns := fun x => (fns_Plan___init__).lookup x, cls := cls0, fld := fld0, exn := exn0 }
theorem bd_Plan___init__ : exS (S_Plan___init__) 20 20 (defBody (inner (top 15) 0)) = c_Plan___init__ := by kernel_rfl
theorem sc_Plan___init__ : FnScope N_Plan___init__ ["self", "lines"] (defScope (inner (top 15) 0)) := ⟨rfl, rfl, rfl, by decide +kernel, rfl, by decide +kernel, by decide +kernel⟩
abbrev N__law_plan_fault : List Str := ["lines", "error"]
def fns__law_plan_fault : List (Str × FE) := []
def S__law_plan_fault : SC := { N := N__law_plan_fault, sc := defScope (top 30), lvl := 5, blt := blt0, con := con0, fns := fun x => (fns__law_plan_fault).lookup x, cls := cls0, fld := fld0, ctor := fun x => ([(("Plan" : Str), ⟨1, [false], F_Plan___init__⟩)] : List (Str × FE)).lookup x, hdl := exn0 }
theorem bd__law_plan_fault : exS (S__law_plan_fault) 20 20 (defBody (top 30)) = c__law_plan_fault := by kernel_rfl
theorem sc__law_plan_fault : FnScope N__law_plan_fault ["lines"] (defScope (top 30)) := ⟨rfl, rfl, rfl, by decide +kernel, rfl, by decide +kernel, by decide +kernel⟩
abbrev N__law_printer_fault : List Str := ["counts", "remembers", "tells", "error"]
def fns__law_printer_fault : List (Str × FE) := []
def S__law_printer_fault : SC := { N := N__law_printer_fault, sc := defScope (top 31), lvl := 4, blt := blt0, con := con0, fns := fun x => (fns__law_printer_fault).lookup x, cls := cls0, fld := fld0, ctor := fun x => ([(("Printer" : Str), ⟨3, [false, false, false], F_Printer___init__⟩)] : List (Str × FE)).lookup x, hdl := exn0 }
theorem bd__law_printer_fault : exS (S__law_printer_fault) 20 20 (defBody (top 31)) = c__law_printer_fault := by kernel_rfl
theorem sc__law_printer_fault : FnScope N__law_printer_fault ["counts", "remembers", "tells"] (defScope (top 31)) := ⟨rfl, rfl, rfl, by decide +kernel, rfl, by decide +kernel, by decide +kernel⟩
abbrev N_Plan_lines : List Str := ["self"]
def fns_Plan_lines : List (Str × FE) := []
def S_Plan_lines : SC := { N := N_Plan_lines, sc := defScope (inner (top 15) 3), lvl := 0, blt := blt0, con := con0, fns := fun x => (fns_Plan_lines).lookup x, cls := cls0, fld := fld0 }
theorem bd_Plan_lines : exS (S_Plan_lines) 20 20 (defBody (inner (top 15) 3)) = c_Plan_lines := by kernel_rfl
theorem sc_Plan_lines : FnScope N_Plan_lines ["self"] (defScope (inner (top 15) 3)) := ⟨rfl, rfl, rfl, by decide +kernel, rfl, by decide +kernel, by decide +kernel⟩
abbrev N_Printer_counts : List Str := ["self"]
def fns_Printer_counts : List (Str × FE) := []
def S_Printer_counts : SC := { N := N_Printer_counts, sc := defScope (inner (top 14) 2), lvl := 0, blt := blt0, con := con0, fns := fun x => (fns_Printer_counts).lookup x, cls := cls0, fld := fld0 }
theorem bd_Printer_counts : exS (S_Printer_counts) 20 20 (defBody (inner (top 14) 2)) = c_Printer_counts := by kernel_rfl
theorem sc_Printer_counts : FnScope N_Printer_counts ["self"] (defScope (inner (top 14) 2)) := ⟨rfl, rfl, rfl, by decide +kernel, rfl, by decide +kernel, by decide +kernel⟩
abbrev N_Printer_remembers : List Str := ["self"]
def fns_Printer_remembers : List (Str × FE) := []
def S_Printer_remembers : SC := { N := N_Printer_remembers, sc := defScope (inner (top 14) 3), lvl := 0, blt := blt0, con := con0, fns := fun x => (fns_Printer_remembers).lookup x, cls := cls0, fld := fld0 }
theorem bd_Printer_remembers : exS (S_Printer_remembers) 20 20 (defBody (inner (top 14) 3)) = c_Printer_remembers := by kernel_rfl
theorem sc_Printer_remembers : FnScope N_Printer_remembers ["self"] (defScope (inner (top 14) 3)) := ⟨rfl, rfl, rfl, by decide +kernel, rfl, by decide +kernel, by decide +kernel⟩
abbrev N_Printer_tells : List Str := ["self"]
def fns_Printer_tells : List (Str × FE) := []
def S_Printer_tells : SC := { N := N_Printer_tells, sc := defScope (inner (top 14) 4), lvl := 0, blt := blt0, con := con0, fns := fun x => (fns_Printer_tells).lookup x, cls := cls0, fld := fld0 }
theorem bd_Printer_tells : exS (S_Printer_tells) 20 20 (defBody (inner (top 14) 4)) = c_Printer_tells := by kernel_rfl
theorem sc_Printer_tells : FnScope N_Printer_tells ["self"] (defScope (inner (top 14) 4)) := ⟨rfl, rfl, rfl, by decide +kernel, rfl, by decide +kernel, by decide +kernel⟩
abbrev N_Printer___eq__ : List Str := ["self", "other"]
def fns_Printer___eq__ : List (Str × FE) := []
def S_Printer___eq__ : SC := { N := N_Printer___eq__, sc := defScope (inner (top 14) 1), lvl := 0, blt := blt0, con := con0, fns := fun x => (fns_Printer___eq__).lookup x, cls := cls0, fld := fld0 }
theorem bd_Printer___eq__ : exS (S_Printer___eq__) 20 20 (defBody (inner (top 14) 1)) = c_Printer___eq__ := by kernel_rfl
theorem sc_Printer___eq__ : FnScope N_Printer___eq__ ["self", "other"] (defScope (inner (top 14) 1)) := ⟨rfl, rfl, rfl, by decide +kernel, rfl, by decide +kernel, by decide +kernel⟩
abbrev N_Plan___eq__ : List Str := ["self", "other"]
def fns_Plan___eq__ : List (Str × FE) := []
def S_Plan___eq__ : SC := { N := N_Plan___eq__, sc := defScope (inner (top 15) 1), lvl := 0, blt := blt0, con := con0, fns := fun x => (fns_Plan___eq__).lookup x, cls := cls0, fld := fld0 }
theorem bd_Plan___eq__ : exS (S_Plan___eq__) 20 20 (defBody (inner (top 15) 1)) = c_Plan___eq__ := by kernel_rfl
theorem sc_Plan___eq__ : FnScope N_Plan___eq__ ["self", "other"] (defScope (inner (top 15) 1)) := ⟨rfl, rfl, rfl, by decide +kernel, rfl, by decide +kernel, by decide +kernel⟩
abbrev N_Plan___len__ : List Str := ["self"]
def fns_Plan___len__ : List (Str × FE) := []
def S_Plan___len__ : SC := { N := N_Plan___len__, sc := defScope (inner (top 15) 2), lvl := 0, blt := blt0, con := con0, fns := fun x => (fns_Plan___len__).lookup x, cls := cls0, fld := fld0 }
theorem bd_Plan___len__ : exS (S_Plan___len__) 20 20 (defBody (inner (top 15) 2)) = c_Plan___len__ := by kernel_rfl
theorem sc_Plan___len__ : FnScope N_Plan___len__ ["self"] (defScope (inner (top 15) 2)) := ⟨rfl, rfl, rfl, by decide +kernel, rfl, by decide +kernel, by decide +kernel⟩
def c_law : SDen := (seqS (asgS 1 (bnd (consC (coD (frzD (slotV 0))) nilC) (runFn 1 F__law_numbers))) (seqS (asgS 2 (lstV (consA (frzD (ret (.val (.int 0)))) (ret [])))) (seqS (asgS 3 (bnd (consC (coD (frzD (slotV 1))) (consC (slotC 2) nilC)) (runFn 2 F__law_case))) (seqS (asgS 4 (lcF (itemsF (frzD (ixV (slotC 3) (frzD (ret (.val (.int 1))))))) (frzD (call1C listD (slotC 15))) (ret true) (.name 15) [15])) (seqS (asgS 5 (valD (frzD (bnd (consC (coD (frzD (slotV 4))) nilC) (newV ("Plan" : Str) 1 F_Plan___init__))))) (seqS (spoilS 4) (seqS (ifS (orB [(notB (truC (coD (frzD (bnd (consC (coD (frzD (getV P_lines (slotC 5)))) (consC (coD (frzD (ixV (slotC 3) (frzD (ret (.val (.int 1))))))) nilC)) (runFn 2 (F__law_so 8))))))), (cmpB .NotEq (frzD (lenO lenT (slotC 5))) (coD (frzD (lenO lenT (coD (frzD (ixV (slotC 3) (frzD (ret (.val (.int 1))))))))))), (notB (eqO eqT (frzD (slotV 5)) (coD (frzD (valD (frzD (bnd (consC (coD (frzD (bnd (consC (coD (frzD (ixV (slotC 3) (frzD (ret (.val (.int 1))))))) (consC (coD (frzD (ret (.val (.int 1))))) nilC)) (runFn 2 (F__law_loose 8))))) nilC) (newV ("Plan" : Str) 1 F_Plan___init__)))))))), (eqO eqT (frzD (slotV 5)) (coD (frzD (ixV (slotC 3) (frzD (ret (.val (.int 1)))))))), (eqO eqT (frzD (slotV 5)) (coD (frzD (ret (.val .non)))))])
    (seqS (retS (ret (.val (.bl false)))) nextS)
    nextS) (seqS (asgS 6 (bnd (consC (coD (frzD (slotV 1))) (consC (slotC 2) (consC (coD (frzD (lenO lenT (coD (frzD (ixV (slotC 3) (frzD (ret (.val (.int 1)))))))))) nilC))) (runFn 3 F__law_take))) (seqS (asgS 7 (ifV (cmpB .NotEq (frzD (ixV (coD (frzD (ixV (slotC 3) (frzD (ret (.val (.int 1))))))) (frzD (slotV 6)))) (coD (frzD (tupV (consA (frzD (ret (.val (.str ("end" : Str))))) (ret [])))))) (tupV (consA (frzD (ret (.val (.str ("end" : Str))))) (ret []))) (tupV (consA (frzD (ret (.val (.str ("go" : Str))))) (consA (frzD (ret (.val (.int 0)))) (ret [])))))) (seqS (ifS (eqO eqT (frzD (slotV 5)) (coD (frzD (valD (frzD (bnd (consC (coD (frzD (bnd (consC (coD (frzD (ixV (slotC 3) (frzD (ret (.val (.int 1))))))) (consC (coD (frzD (slotV 6))) (consC (coD (frzD (slotV 7))) nilC))) (runFn 3 F__law_set)))) nilC) (newV ("Plan" : Str) 1 F_Plan___init__)))))))
    (seqS (retS (ret (.val (.bl false)))) nextS)
    nextS) (seqS (asgS 8 (bnd (consC (coD (frzD (slotV 3))) nilC) (runFn 1 F__law_machine))) (seqS (ifS (orB [(notB (truC (coD (frzD (bnd (consC (coD (frzD (tupV (consA (frzD (getV P_counts (slotC 8))) (consA (frzD (getV P_remembers (slotC 8))) (consA (frzD (getV P_tells (slotC 8))) (ret []))))))) (consC (coD (frzD (ixV (slotC 3) (frzD (ret (.val (.int 0))))))) nilC)) (runFn 2 (F__law_so 8))))))), (notB (eqO eqT (frzD (slotV 8)) (coD (frzD (valD (frzD (bnd (consC (coD (frzD (ixV (coD (frzD (ixV (slotC 3) (frzD (ret (.val (.int 0))))))) (frzD (ret (.val (.int 0))))))) (consC (coD (frzD (ixV (coD (frzD (ixV (slotC 3) (frzD (ret (.val (.int 0))))))) (frzD (ret (.val (.int 1))))))) (consC (coD (frzD (ixV (coD (frzD (ixV (slotC 3) (frzD (ret (.val (.int 0))))))) (frzD (ret (.val (.int 2))))))) nilC))) (newV ("Printer" : Str) 3 F_Printer___init__))))))))])
    (seqS (retS (ret (.val (.bl false)))) nextS)
    nextS) (seqS (forF (rngF1 (frzD (ret (.val (.int 3))))) (.name 9)
    (seqS (asgS 13 (bnd (consC (coD (frzD (ixV (slotC 3) (frzD (ret (.val (.int 0))))))) (consC (coD (frzD (slotV 9))) (consC (coD (frzD (notV (ixV (coD (frzD (ixV (slotC 3) (frzD (ret (.val (.int 0))))))) (frzD (slotV 9)))))) nilC))) (runFn 3 F__law_set))) (seqS (ifS (orB [(eqO eqT (frzD (slotV 8)) (coD (frzD (valD (frzD (bnd (consC (coD (frzD (ixV (slotC 13) (frzD (ret (.val (.int 0))))))) (consC (coD (frzD (ixV (slotC 13) (frzD (ret (.val (.int 1))))))) (consC (coD (frzD (ixV (slotC 13) (frzD (ret (.val (.int 2))))))) nilC))) (newV ("Printer" : Str) 3 F_Printer___init__))))))), (eqO eqT (frzD (slotV 8)) (coD (frzD (ixV (slotC 3) (frzD (ret (.val (.int 0))))))))])
    (seqS (retS (ret (.val (.bl false)))) nextS)
    nextS) (seqS (asgS 14 (bnd (consC (coD (frzD (ixV (slotC 3) (frzD (ret (.val (.int 0))))))) (consC (coD (frzD (slotV 9))) (consC (coD (frzD (ixV (coD (frzD (lstV (consA (frzD (ret (.val (.int 0)))) (consA (frzD (ret (.val (.int 1)))) (consA (frzD (ret (.val .non))) (consA (frzD (ret (.val (.str ("True" : Str))))) (ret [])))))))) (frzD (bnd (consC (coD (frzD (slotV 1))) (consC (slotC 2) (consC (coD (frzD (ret (.val (.int 4))))) nilC))) (runFn 3 F__law_take)))))) nilC))) (runFn 3 F__law_set))) (seqS (ifS (cmpB .NotEq (frzD (bnd (consC (coD (frzD (ixV (slotC 14) (frzD (ret (.val (.int 0))))))) (consC (coD (frzD (ixV (slotC 14) (frzD (ret (.val (.int 1))))))) (consC (coD (frzD (ixV (slotC 14) (frzD (ret (.val (.int 2))))))) nilC))) (runFn 3 F__law_printer_fault))) (coD (frzD (binV .Add (slotC 9) (coD (frzD (ret (.val (.int 1)))))))))
    (seqS (retS (ret (.val (.bl false)))) nextS)
    nextS) nextS))))) (seqS (ifS (cmpB .NotEq (frzD (bnd (consC (coD (frzD (ixV (coD (frzD (lstV (consA (frzD (ret (.val .non))) (consA (frzD (tupV (ret []))) (consA (frzD (ret (.val (.int 5)))) (consA (frzD (ret (.val (.str ("end" : Str))))) (consA (frzD (call1C tupleD (coD (frzD (lcF (rngF1 (frzD (ret (.val (.int 17))))) (frzD (tupV (consA (frzD (ret (.val (.str ("end" : Str))))) (ret [])))) (ret true) (.name 9) [9]))))) (ret []))))))))) (frzD (bnd (consC (coD (frzD (slotV 1))) (consC (slotC 2) (consC (coD (frzD (ret (.val (.int 5))))) nilC))) (runFn 3 F__law_take)))))) nilC) (runFn 1 F__law_plan_fault))) (coD (frzD (tupV (consA (frzD (ret (.val (.str ("value" : Str))))) (consA (frzD (ret (.val (.int 1)))) (ret [])))))))
    (seqS (retS (ret (.val (.bl false)))) nextS)
    nextS) (seqS (asgS 10 (lstV (consA (frzD (ret (.val .non))) (consA (frzD (ret (.val (.int 5)))) (consA (frzD (tupV (ret []))) (consA (frzD (tupV (consA (frzD (ret (.val (.str ("fly" : Str))))) (ret [])))) (consA (frzD (tupV (consA (frzD (ret (.val (.str ("send" : Str))))) (consA (frzD (ret (.val (.int 1)))) (ret []))))) (consA (frzD (tupV (consA (frzD (ret (.val (.str ("go" : Str))))) (ret [])))) (consA (frzD (tupV (consA (frzD (ret (.val (.str ("go" : Str))))) (consA (frzD (lenO lenT (coD (frzD (ixV (slotC 3) (frzD (ret (.val (.int 1))))))))) (ret []))))) (consA (frzD (tupV (consA (frzD (ret (.val (.str ("go" : Str))))) (consA (frzD (negV (frzD (ret (.val (.int 1)))))) (ret []))))) (consA (frzD (tupV (consA (frzD (ret (.val (.str ("go" : Str))))) (consA (frzD (ret (.val (.bl true)))) (ret []))))) (consA (frzD (tupV (consA (frzD (ret (.val (.str ("if" : Str))))) (consA (frzD (ret (.val (.str ("done" : Str))))) (ret []))))) (consA (frzD (tupV (consA (frzD (ret (.val (.str ("if" : Str))))) (consA (frzD (ret (.val (.str ("no" : Str))))) (consA (frzD (ret (.val (.int 0)))) (ret [])))))) (consA (frzD (tupV (consA (frzD (ret (.val (.str ("if" : Str))))) (consA (frzD (ret (.val (.str ("ok" : Str))))) (consA (frzD (lenO lenT (coD (frzD (ixV (slotC 3) (frzD (ret (.val (.int 1))))))))) (ret [])))))) (ret []))))))))))))))) (seqS (asgS 10 (binV .Add (slotC 10) (coD (frzD (lstV (consA (frzD (tupV (consA (frzD (ret (.val (.str ("if" : Str))))) (consA (frzD (ret (.val (.str ("ok" : Str))))) (consA (frzD (ret (.val (.int 0)))) (consA (frzD (ret (.val (.int 0)))) (ret []))))))) (consA (frzD (ret (.val (.str ("end" : Str))))) (consA (frzD (tupV (consA (frzD (ret (.val (.str ("end" : Str))))) (consA (frzD (ret (.val (.str ("end" : Str))))) (ret []))))) (consA (frzD (tupV (consA (frzD (ret (.val (.str ("recall" : Str))))) (consA (frzD (ret (.val (.int 0)))) (ret []))))) (ret [])))))))))) (seqS (asgS 11 (bnd (consC (coD (frzD (ixV (slotC 3) (frzD (ret (.val (.int 1))))))) (consC (coD (frzD (slotV 6))) (consC (coD (frzD (ixV (slotC 10) (frzD (bnd (consC (coD (frzD (slotV 1))) (consC (slotC 2) (consC (coD (frzD (ret (.val (.int 16))))) nilC))) (runFn 3 F__law_take)))))) nilC))) (runFn 3 F__law_set))) (seqS (ifS (andB [(cmpB .Lt (frzD (slotV 6)) (coD (frzD (binV .Sub (coD (frzD (lenO lenT (slotC 11)))) (coD (frzD (ret (.val (.int 1))))))))), (eqO eqT (frzD (bnd (consC (coD (frzD (slotV 1))) (consC (slotC 2) (consC (coD (frzD (ret (.val (.int 2))))) nilC))) (runFn 3 F__law_take))) (coD (frzD (ret (.val (.int 0))))))])
    (seqS (asgS 11 (bnd (consC (coD (frzD (slotV 11))) (consC (coD (frzD (binV .Add (slotC 6) (coD (frzD (ret (.val (.int 1)))))))) (consC (coD (frzD (ret (.val .non)))) nilC))) (runFn 3 F__law_set))) nextS)
    nextS) (seqS (ifS (cmpB .NotEq (frzD (bnd (consC (coD (frzD (slotV 11))) nilC) (runFn 1 F__law_plan_fault))) (coD (frzD (tupV (consA (frzD (ret (.val (.str ("line" : Str))))) (consA (frzD (slotV 6)) (ret [])))))))
    (seqS (retS (ret (.val (.bl false)))) nextS)
    nextS) (seqS (asgS 12 (ixV (coD (frzD (lstV (consA (frzD (tupV (consA (frzD (ret (.val (.str ("add" : Str))))) (ret [])))) (consA (frzD (tupV (consA (frzD (ret (.val (.str ("send" : Str))))) (ret [])))) (consA (frzD (tupV (consA (frzD (ret (.val (.str ("if" : Str))))) (consA (frzD (ret (.val (.str ("ok" : Str))))) (consA (frzD (ret (.val (.int 0)))) (ret [])))))) (consA (frzD (tupV (consA (frzD (ret (.val (.str ("wait" : Str))))) (ret [])))) (consA (frzD (tupV (consA (frzD (ret (.val (.str ("note" : Str))))) (ret [])))) (ret []))))))))) (frzD (bnd (consC (coD (frzD (slotV 1))) (consC (slotC 2) (consC (coD (frzD (ret (.val (.int 5))))) nilC))) (runFn 3 F__law_take))))) (seqS (retS (blV (eqO eqT (frzD (bnd (consC (coD (frzD (bnd (consC (coD (frzD (ixV (slotC 3) (frzD (ret (.val (.int 1))))))) (consC (coD (frzD (binV .Sub (coD (frzD (lenO lenT (coD (frzD (ixV (slotC 3) (frzD (ret (.val (.int 1)))))))))) (coD (frzD (ret (.val (.int 1)))))))) (consC (coD (frzD (slotV 12))) nilC))) (runFn 3 F__law_set)))) nilC) (runFn 1 F__law_plan_fault))) (coD (frzD (tupV (consA (frzD (ret (.val (.str ("line" : Str))))) (consA (frzD (binV .Sub (coD (frzD (lenO lenT (coD (frzD (ixV (slotC 3) (frzD (ret (.val (.int 1)))))))))) (coD (frzD (ret (.val (.int 1))))))) (ret []))))))))) nextS)))))))))))))))))))))
def F_law : FM := semF 1 16 c_law
abbrev N_law : List Str := ["script", "row", "spot", "case", "given", "made", "at", "other", "machine", "k", "bad", "lines", "last", "bent", "wrong", "one"]
def fns_law : List (Str × FE) := [(("_law_numbers" : Str), ⟨1, [false], F__law_numbers⟩), (("_law_case" : Str), ⟨2, [false, true], F__law_case⟩), (("_law_take" : Str), ⟨3, [false, true, false], F__law_take⟩), (("_law_machine" : Str), ⟨1, [false], F__law_machine⟩), (("_law_set" : Str), ⟨3, [false, false, false], F__law_set⟩), (("_law_plan_fault" : Str), ⟨1, [false], F__law_plan_fault⟩), (("_law_so" : Str), ⟨2, [false, false], (F__law_so 8)⟩), (("_law_printer_fault" : Str), ⟨3, [false, false, false], F__law_printer_fault⟩), (("_law_loose" : Str), ⟨2, [false, false], (F__law_loose 8)⟩)]
def S_law : SC := { N := N_law, sc := defScope (top 32), lvl := 9, blt := blt0, con := con0, fns := fun x => (fns_law).lookup x, cls := cls0, fld := fld0, ctor := fun x => ([(("Plan" : Str), ⟨1, [false], F_Plan___init__⟩), (("Printer" : Str), ⟨3, [false, false, false], F_Printer___init__⟩)] : List (Str × FE)).lookup x, prp := fun x => ([(("lines" : Str), P_lines), (("counts" : Str), P_counts), (("remembers" : Str), P_remembers), (("tells" : Str), P_tells)] : List (Str × (Str → Option FM))).lookup x, oeq := some eqT, lns := some lenT, kwn := fun x => ([(("Plan" : Str), [("lines" : Str)]), (("Printer" : Str), [("counts" : Str), ("remembers" : Str), ("tells" : Str)])] : List (Str × List Str)).lookup x }
theorem bd_law : exBk (exSt (S_law) 20 (exS (S_law) 20 20)) ((defBody (top 32)).take 5) (seqS (spoilS 4) (exB (exSt (S_law) 20 (exS (S_law) 20 20)) (((defBody (top 32)).drop 5).drop 2))) = c_law := by kernel_rfl
theorem sp_law : spoilB "given" ((defBody (top 32)).drop 5) = true := by kernel_rfl
theorem sc_law : FnScope N_law ["script"] (defScope (top 32)) := ⟨rfl, rfl, rfl, by decide +kernel, rfl, by decide +kernel, by decide +kernel⟩
end Q01
set_option maxRecDepth 100000
set_option maxHeartbeats 0
namespace Q01
open PySem PySem.Spec PyProof.Rows L2 DI He Lb
def df (x : Str) (i : Nat) : DefD := ⟨(x, none), x, x, defArgs (top i), defBody (top i), defScope (top i), [], []⟩
def dm (c m : Str) (i k : Nat) : DefD := ⟨(c, some m), m, c ++ "." ++ m, defArgs (inner (top i) k), defBody (inner (top i) k), defScope (inner (top i) k), [], []⟩
def pr (c m : Str) (i k : Nat) : PrD := ⟨c, m, dm c m i k⟩
def fn : List DefD := ([df "is_integer" 5, df "is_number" 6, df "is_flag" 7, df "is_sequence" 8, df "_is_line" 16, df "_law_so" 18, df "_law_numbers" 19, df "_law_draw" 20, df "_law_take" 21, df "_law_loose" 22, df "_law_set" 23, df "_law_printer" 24, df "_law_shift" 25, df "_law_line" 26, df "_law_plan" 27, df "_law_case" 28, df "_law_machine" 29, df "_law_plan_fault" 30, df "_law_printer_fault" 31, df "law" 32, dm "BadValue" "__init__" 2 0, dm "BadLine" "__init__" 3 0, dm "Printer" "__init__" 14 0, dm "Printer" "__eq__" 14 1, dm "Plan" "__init__" 15 0, dm "Plan" "__eq__" 15 1, dm "Plan" "__len__" 15 2] : List DefD)
def prs : List PrD := [pr "Printer" "counts" 14 2, pr "Printer" "remembers" 14 3, pr "Printer" "tells" 14 4, pr "Plan" "lines" 15 3]
def globs : List Str := (["is_integer", "is_number", "is_flag", "is_sequence", "_is_line", "_law_so", "_law_numbers", "_law_draw", "_law_take", "_law_loose", "_law_set", "_law_printer", "_law_shift", "_law_line", "_law_plan", "_law_case", "_law_machine", "_law_plan_fault", "_law_printer_fault", "law", "PageError", "BadValue", "BadLine", "Printer", "Plan"] : List Str)
def fa : List Fa := globs.map Fa.glo ++ bl.map Fa.free
def exB (K : PySem.W.Frag) : Bool := ownB K cs && (fldB K cs flds && (nofB K cs && (cons_.all (conB K) && ((cs.all fun c => (Fa.mkr c).ok K) && (excB K es && ((prs.all fun p => prOk K p) && (([(("Printer" : Str), ("__eq__" : Str)), (("Plan" : Str), ("__eq__" : Str)), (("Plan" : Str), ("__len__" : Str))] : List (Str × Str)).all fun p => (Fa.meth p.1 p.2).ok K)))))))
abbrev R : PySem.W.OpenRow := PySem.W.OpenLaw.row PySem.Challenge.rw_pagesonce_k01_printers_and_plans_as_give
abbrev hk : PySem.W.Hook := hookC 5 fa fn prs exB
def ob (s : PySem.W.SharedT) : AlC := obsC 5 fa fn prs exB (HandSHeadRun.getT s)
theorem ob_eq (s : PySem.W.SharedT) : ob s = hk.obs s.abs := obsC_eq (HandSHeadRun.getT_eq s)
def loose : List Str := (["is_integer", "is_number", "is_flag", "is_sequence", "_is_line", "_law_so", "_law_numbers", "_law_draw", "_law_take", "_law_loose", "_law_set", "_law_printer", "_law_shift", "_law_line", "_law_plan", "_law_case", "_law_machine", "_law_plan_fault", "_law_printer_fault", "PageError", "BadValue", "BadLine", "Printer", "Plan", "MOST_LINES", "BARE_WORDS", "TESTS", "LAST_WORDS"] : List Str)
theorem run (w : World) : HandSHeadRun.RunEq R (PySem.W.view R.prog [32]) hk ob 6000 loose w := by
  intro os
  kernel_rfl
end Q01
set_option maxRecDepth 100000
set_option maxHeartbeats 4000000
namespace Q01
open PySem PySem.Spec PyProof.Rows L2 DI He Lb
abbrev KC (K : PySem.W.Frag) : Kc := kcOf K cs
abbrev CA (K : PySem.W.Frag) : Str → Option Addr := clOf K es
section
variable {P : Program} {w : World} {K : PySem.W.Frag} {h : Heap} {mg : Str → Option Value} {base : Heap}
theorem glob_of (kin : K.In h) (G : h.Ns mainGlobals mg) (c : SaysC fa fn prs exB K) {x : Str} (m : x ∈ globs) : mg x = some (.ref (ga K x)) := saysC_glo kin G c (List.mem_append_left _ (List.mem_map_of_mem m))
theorem blt_of (kin : K.In h) (G : h.Ns mainGlobals mg) (c : SaysC fa fn prs exB K) (x : Str) (hx : blt0 x = true) : mg x = none := saysC_free kin G c (List.mem_append_right _ (List.mem_map_of_mem (by simpa [blt0] using hx)))
theorem x_own (c : SaysC fa fn prs exB K) : OwnT (KC K) := ownB_ok (ba c.2.1).1
theorem x_fld (c : SaysC fa fn prs exB K) : fldB K cs flds = true := (ba (ba c.2.1).2).1
theorem x_nof (c : SaysC fa fn prs exB K) : nofB K cs = true := (ba (ba (ba c.2.1).2).2).1
theorem x_con (c : SaysC fa fn prs exB K) : cons_.all (conB K) = true := (ba (ba (ba (ba c.2.1).2).2).2).1
theorem x_mkr (c : SaysC fa fn prs exB K) : (cs.all fun c => (Fa.mkr c).ok K) = true := (ba (ba (ba (ba (ba c.2.1).2).2).2).2).1
theorem x_exc (c : SaysC fa fn prs exB K) : excB K es = true := (ba (ba (ba (ba (ba (ba c.2.1).2).2).2).2).2).1
theorem x_prs (c : SaysC fa fn prs exB K) {p : PrD} (i : Nat) (hp : prs[i]? = some p) : prOk K p = true := List.all_eq_true.mp (ba (ba (ba (ba (ba (ba (ba c.2.1).2).2).2).2).2).2).1 p (List.mem_of_getElem? hp)
theorem mk_of (c : SaysC fa fn prs exB K) {x : Str} (m : x ∈ cs) : (Fa.mkr x).ok K = true := List.all_eq_true.mp (x_mkr c) x m
theorem con_of (kin : K.In h) (G : h.Ns mainGlobals mg) (c : SaysC fa fn prs exB K) (x : Str) (d : D) (e : con0 x = some d) : ∃ v u, mg x = some u ∧ RelV v u ∧ ∀ H, Rp (KC K) H v d := by
  have m : (x, d) ∈ cons_ := lookup_mem e
  exact conB_ok (K := KC K) kin G (p := (x, d)) (List.all_eq_true.mp (x_con c) _ m)
theorem cls_of (kin : K.In h) (G : h.Ns mainGlobals mg) (c : SaysC fa fn prs exB K) (x : Str) (e : cls0 x = true) : ∃ A, (KC K).cl x = some A ∧ mg x = some (.ref A) := by
  have m : x ∈ cs := by simpa [cls0] using e
  have sub : ∀ y ∈ cs, y ∈ globs := by decide +kernel
  exact ⟨_, clOf_in m, glob_of kin G c (sub x m)⟩
theorem es_mg (kin : K.In h) (G : h.Ns mainGlobals mg) (c : SaysC fa fn prs exB K) : ∀ e ∈ es, mg e = some (.ref (ga K e)) := fun e m => by
  have sub : ∀ y ∈ es, y ∈ globs := by decide +kernel
  exact glob_of kin G c (sub e m)
theorem hds_ok (kin : K.In h) (G : h.Ns mainGlobals mg) (c : SaysC fa fn prs exB K) : ∀ x, exn0 x = true → ∃ Ax, mg x = some (.ref Ax) ∧ ∀ c A, CA K c = some A → (∃ f, EkC K A f) ∧ PySem.W.exmOne K (.ref A) (.ref Ax) = some (rel c x) := hds_of (es_mg kin G c) (x_exc c)
theorem x_meth (c : SaysC fa fn prs exB K) {x m : Str} (hm : (x, m) ∈ ([(("Printer" : Str), ("__eq__" : Str)), (("Plan" : Str), ("__eq__" : Str)), (("Plan" : Str), ("__len__" : Str))] : List (Str × Str))) : (Fa.meth x m).ok K = true := List.all_eq_true.mp (ba (ba (ba (ba (ba (ba (ba c.2.1).2).2).2).2).2).2).2 (x, m) hm
theorem sc_BadValue___init__ : FnScope ["self", "at"] ["self", "at"] (defScope (inner (top 2) 0)) := ⟨rfl, rfl, rfl, by decide +kernel, rfl, by decide +kernel, by decide +kernel⟩
theorem ei_BadValue (c : SaysC fa fn prs exB K) : ExI P w K mg base ("BadValue" : Str) := by
  obtain ⟨fd, F⟩ := c.1.def_ 20 (d := dm "BadValue" "__init__" 2 0) rfl
  exact ⟨fd, _, init_ok F (excB_ek (x_exc c) (by decide +kernel)) sc_BadValue___init__ rfl rfl rfl, F.bindsN fun _ _ _ _ _ _ us hl => match us, hl with | [_, _], _ => rfl⟩
theorem sc_BadLine___init__ : FnScope ["self", "at"] ["self", "at"] (defScope (inner (top 3) 0)) := ⟨rfl, rfl, rfl, by decide +kernel, rfl, by decide +kernel, by decide +kernel⟩
theorem ei_BadLine (c : SaysC fa fn prs exB K) : ExI P w K mg base ("BadLine" : Str) := by
  obtain ⟨fd, F⟩ := c.1.def_ 21 (d := dm "BadLine" "__init__" 3 0) rfl
  exact ⟨fd, _, init_ok F (excB_ek (x_exc c) (by decide +kernel)) sc_BadLine___init__ rfl rfl rfl, F.bindsN fun _ _ _ _ _ _ us hl => match us, hl with | [_, _], _ => rfl⟩
theorem exs_ok {l : Nat} (kin : K.In h) (G : h.Ns mainGlobals mg) (c : SaysC fa fn prs exB K) (hl : 2 ≤ l) : ∀ x, exn0 x = true → ∃ A f fd ps k, CA K x = some A ∧ mg x = some (.ref A) ∧ EkC K A f ∧ FnOk P w K mg base (L2N.CX P w) k f fd ps (spAt A) ∧ k + 1 ≤ l ∧ Binds K fd ps [] := exs_of (es_mg kin G c) (x_exc c) (fun e m => by
  simp only [es, List.mem_cons, List.mem_nil_iff, or_false] at m
  rcases m with rfl | rfl
  · exact ei_BadValue c
  · exact ei_BadLine c) hl
theorem cl_is_integer (kin : K.In h) (G : h.Ns mainGlobals mg) (c : SaysC fa fn prs exB K) : Cld P w (KC K) mg base (CA K) 1 "is_integer" 1 F_values_is_integer := by
  obtain ⟨fd, F⟩ := c.1.def_ 0 (d := df "is_integer" 5) rfl
  have Y : Known P w (KC K) (CA K) mg base S_is_integer := {
    O := x_own c
    blt := blt_of kin G c
    con := con_of kin G c
    fns := look_nil
    cls := cls_of kin G c
    ctr := fun _ _ h => nomatch h
    fld := fun _ hf => fldB_ok (x_fld c) hf
    prp := fun _ _ h => nomatch h
    nof := fun h => nomatch h
    oeq := fun _ h => nomatch h
    lns := fun _ h => nomatch h
    kwc := fun _ _ _ _ h => nomatch h
    kwd := fun _ _ _ _ h => nomatch h
    hds := fun _ h => nomatch h
    exs := fun _ h => nomatch h }
  have D := def_ok (ne := 20) (n := 20) Y F sc_is_integer (by decide) rfl rfl
  rw [bd_is_integer] at D
  exact ⟨_, fd, _, glob_of kin G c (by decide +kernel), F.kp, F.bindsN fun _ _ _ _ _ _ us hl => match us, hl with | [_], _ => rfl, D⟩
theorem cl_is_number (kin : K.In h) (G : h.Ns mainGlobals mg) (c : SaysC fa fn prs exB K) : Cld P w (KC K) mg base (CA K) 2 "is_number" 3 F_values_is_number := by
  obtain ⟨fd, F⟩ := c.1.def_ 1 (d := df "is_number" 6) rfl
  have Y : Known P w (KC K) (CA K) mg base S_is_number := {
    O := x_own c
    blt := blt_of kin G c
    con := con_of kin G c
    fns := look_cons ((cl_is_integer kin G c).fns (by decide)) look_nil
    cls := cls_of kin G c
    ctr := fun _ _ h => nomatch h
    fld := fun _ hf => fldB_ok (x_fld c) hf
    prp := fun _ _ h => nomatch h
    nof := fun h => nomatch h
    oeq := fun _ h => nomatch h
    lns := fun _ h => nomatch h
    kwc := fun _ _ _ _ h => nomatch h
    kwd := fun _ _ _ _ h => nomatch h
    hds := fun _ h => nomatch h
    exs := fun _ h => nomatch h }
  have D := def_ok (ne := 20) (n := 20) Y F sc_is_number (by decide) rfl rfl
  rw [bd_is_number] at D
  exact ⟨_, fd, _, glob_of kin G c (by decide +kernel), F.kp, F.bindsN fun _ _ _ _ _ _ us hl => match us, hl with | [_, _, _], _ => rfl, D⟩
theorem cl_is_flag (kin : K.In h) (G : h.Ns mainGlobals mg) (c : SaysC fa fn prs exB K) : Cld P w (KC K) mg base (CA K) 1 "is_flag" 1 F_values_is_flag := by
  obtain ⟨fd, F⟩ := c.1.def_ 2 (d := df "is_flag" 7) rfl
  have Y : Known P w (KC K) (CA K) mg base S_is_flag := {
    O := x_own c
    blt := blt_of kin G c
    con := con_of kin G c
    fns := look_nil
    cls := cls_of kin G c
    ctr := fun _ _ h => nomatch h
    fld := fun _ hf => fldB_ok (x_fld c) hf
    prp := fun _ _ h => nomatch h
    nof := fun h => nomatch h
    oeq := fun _ h => nomatch h
    lns := fun _ h => nomatch h
    kwc := fun _ _ _ _ h => nomatch h
    kwd := fun _ _ _ _ h => nomatch h
    hds := fun _ h => nomatch h
    exs := fun _ h => nomatch h }
  have D := def_ok (ne := 20) (n := 20) Y F sc_is_flag (by decide) rfl rfl
  rw [bd_is_flag] at D
  exact ⟨_, fd, _, glob_of kin G c (by decide +kernel), F.kp, F.bindsN fun _ _ _ _ _ _ us hl => match us, hl with | [_], _ => rfl, D⟩
theorem cl_is_sequence (kin : K.In h) (G : h.Ns mainGlobals mg) (c : SaysC fa fn prs exB K) : Cld P w (KC K) mg base (CA K) 1 "is_sequence" 1 F_values_is_sequence := by
  obtain ⟨fd, F⟩ := c.1.def_ 3 (d := df "is_sequence" 8) rfl
  have Y : Known P w (KC K) (CA K) mg base S_is_sequence := {
    O := x_own c
    blt := blt_of kin G c
    con := con_of kin G c
    fns := look_nil
    cls := cls_of kin G c
    ctr := fun _ _ h => nomatch h
    fld := fun _ hf => fldB_ok (x_fld c) hf
    prp := fun _ _ h => nomatch h
    nof := fun h => nomatch h
    oeq := fun _ h => nomatch h
    lns := fun _ h => nomatch h
    kwc := fun _ _ _ _ h => nomatch h
    kwd := fun _ _ _ _ h => nomatch h
    hds := fun _ h => nomatch h
    exs := fun _ h => nomatch h }
  have D := def_ok (ne := 20) (n := 20) Y F sc_is_sequence (by decide) rfl rfl
  rw [bd_is_sequence] at D
  exact ⟨_, fd, _, glob_of kin G c (by decide +kernel), F.kp, F.bindsN fun _ _ _ _ _ _ us hl => match us, hl with | [_], _ => rfl, D⟩
theorem cl__is_line (kin : K.In h) (G : h.Ns mainGlobals mg) (c : SaysC fa fn prs exB K) : Cld P w (KC K) mg base (CA K) 3 "_is_line" 2 F_plans__is_line := by
  obtain ⟨fd, F⟩ := c.1.def_ 4 (d := df "_is_line" 16) rfl
  have Y : Known P w (KC K) (CA K) mg base S__is_line := {
    O := x_own c
    blt := blt_of kin G c
    con := con_of kin G c
    fns := look_cons ((cl_is_sequence kin G c).fns (by decide)) (look_cons ((cl_is_number kin G c).fns (by decide)) look_nil)
    cls := cls_of kin G c
    ctr := fun _ _ h => nomatch h
    fld := fun _ hf => fldB_ok (x_fld c) hf
    prp := fun _ _ h => nomatch h
    nof := fun h => nomatch h
    oeq := fun _ h => nomatch h
    lns := fun _ h => nomatch h
    kwc := fun _ _ _ _ h => nomatch h
    kwd := fun _ _ _ _ h => nomatch h
    hds := fun _ h => nomatch h
    exs := fun _ h => nomatch h }
  have D := def_ok (ne := 20) (n := 20) Y F sc__is_line (by decide) rfl rfl
  rw [bd__is_line] at D
  exact ⟨_, fd, _, glob_of kin G c (by decide +kernel), F.kp, F.bindsN fun _ _ _ _ _ _ us hl => match us, hl with | [_, _], _ => rfl, D⟩
theorem cl__law_so : ∀ (n : Nat) (kin : K.In h) (G : h.Ns mainGlobals mg) (c : SaysC fa fn prs exB K), Cld P w (KC K) mg base (CA K) n "_law_so" 2 (F__law_so n)
  | 0, kin, G, c => by
    obtain ⟨fd, F⟩ := c.1.def_ 5 (d := df "_law_so" 18) rfl
    exact ⟨_, fd, ["found", "meant"], glob_of kin G c (by decide +kernel), F.kp, F.bindsN fun _ _ _ _ _ _ us hl => match us, hl with | [_, _], _ => rfl, fn_none⟩
  | n + 1, kin, G, c => by
    obtain ⟨fd, F⟩ := c.1.def_ 5 (d := df "_law_so" 18) rfl
    have Y : Known P w (KC K) (CA K) mg base (S__law_so n) := {
      O := x_own c
      blt := blt_of kin G c
      con := con_of kin G c
      fns := look_cons ((cl__law_so n kin G c).fns (Nat.le_refl _)) look_nil
      cls := cls_of kin G c
      ctr := fun _ _ h => nomatch h
      fld := fun _ hf => fldB_ok (x_fld c) hf
      prp := fun _ _ h => nomatch h
      nof := fun h => nomatch h
      oeq := fun _ h => nomatch h
      lns := fun _ h => nomatch h
      kwc := fun _ _ _ _ h => nomatch h
      kwd := fun _ _ _ _ h => nomatch h
      hds := fun _ h => nomatch h
      exs := fun _ h => nomatch h }
    have D := def_ok (ne := 20) (n := 20) Y F sc__law_so (by decide) rfl rfl
    rw [bd__law_so] at D
    exact ⟨_, fd, _, glob_of kin G c (by decide +kernel), F.kp, F.bindsN fun _ _ _ _ _ _ us hl => match us, hl with | [_, _], _ => rfl, D⟩
theorem cl__law_numbers (kin : K.In h) (G : h.Ns mainGlobals mg) (c : SaysC fa fn prs exB K) : Cld P w (KC K) mg base (CA K) 1 "_law_numbers" 1 F__law_numbers := by
  obtain ⟨fd, F⟩ := c.1.def_ 6 (d := df "_law_numbers" 19) rfl
  have Y : Known P w (KC K) (CA K) mg base S__law_numbers := {
    O := x_own c
    blt := blt_of kin G c
    con := con_of kin G c
    fns := look_nil
    cls := cls_of kin G c
    ctr := fun _ _ h => nomatch h
    fld := fun _ hf => fldB_ok (x_fld c) hf
    prp := fun _ _ h => nomatch h
    nof := fun h => nomatch h
    oeq := fun _ h => nomatch h
    lns := fun _ h => nomatch h
    kwc := fun _ _ _ _ h => nomatch h
    kwd := fun _ _ _ _ h => nomatch h
    hds := fun _ h => nomatch h
    exs := fun _ h => nomatch h }
  have D := def_ok (ne := 20) (n := 20) Y F sc__law_numbers (by decide) rfl rfl
  rw [bd__law_numbers] at D
  exact ⟨_, fd, _, glob_of kin G c (by decide +kernel), F.kp, F.bindsN fun _ _ _ _ _ _ us hl => match us, hl with | [_], _ => rfl, D⟩
theorem cl__law_draw (kin : K.In h) (G : h.Ns mainGlobals mg) (c : SaysC fa fn prs exB K) : Cld P w (KC K) mg base (CA K) 1 "_law_draw" 3 F__law_draw := by
  obtain ⟨fd, F⟩ := c.1.def_ 7 (d := df "_law_draw" 20) rfl
  have Y : Known P w (KC K) (CA K) mg base S__law_draw := {
    O := x_own c
    blt := blt_of kin G c
    con := con_of kin G c
    fns := look_nil
    cls := cls_of kin G c
    ctr := fun _ _ h => nomatch h
    fld := fun _ hf => fldB_ok (x_fld c) hf
    prp := fun _ _ h => nomatch h
    nof := fun h => nomatch h
    oeq := fun _ h => nomatch h
    lns := fun _ h => nomatch h
    kwc := fun _ _ _ _ h => nomatch h
    kwd := fun _ _ _ _ h => nomatch h
    hds := fun _ h => nomatch h
    exs := fun _ h => nomatch h }
  have D := def_ok (ne := 20) (n := 20) Y F sc__law_draw (by decide) rfl rfl
  rw [bd__law_draw] at D
  exact ⟨_, fd, _, glob_of kin G c (by decide +kernel), F.kp, F.bindsN fun _ _ _ _ _ _ us hl => match us, hl with | [_, _, _], _ => rfl, D⟩
theorem cl__law_take (kin : K.In h) (G : h.Ns mainGlobals mg) (c : SaysC fa fn prs exB K) : Cld P w (KC K) mg base (CA K) 2 "_law_take" 3 F__law_take := by
  obtain ⟨fd, F⟩ := c.1.def_ 8 (d := df "_law_take" 21) rfl
  have Y : Known P w (KC K) (CA K) mg base S__law_take := {
    O := x_own c
    blt := blt_of kin G c
    con := con_of kin G c
    fns := look_cons ((cl__law_draw kin G c).fns (by decide)) look_nil
    cls := cls_of kin G c
    ctr := fun _ _ h => nomatch h
    fld := fun _ hf => fldB_ok (x_fld c) hf
    prp := fun _ _ h => nomatch h
    nof := fun h => nomatch h
    oeq := fun _ h => nomatch h
    lns := fun _ h => nomatch h
    kwc := fun _ _ _ _ h => nomatch h
    kwd := fun _ _ _ _ h => nomatch h
    hds := fun _ h => nomatch h
    exs := fun _ h => nomatch h }
  have D := def_ok (ne := 20) (n := 20) Y F sc__law_take (by decide) rfl rfl
  rw [bd__law_take] at D
  exact ⟨_, fd, _, glob_of kin G c (by decide +kernel), F.kp, F.bindsN fun _ _ _ _ _ _ us hl => match us, hl with | [_, _, _], _ => rfl, D⟩
theorem cl__law_loose : ∀ (n : Nat) (kin : K.In h) (G : h.Ns mainGlobals mg) (c : SaysC fa fn prs exB K), Cld P w (KC K) mg base (CA K) n "_law_loose" 2 (F__law_loose n)
  | 0, kin, G, c => by
    obtain ⟨fd, F⟩ := c.1.def_ 9 (d := df "_law_loose" 22) rfl
    exact ⟨_, fd, ["value", "turn"], glob_of kin G c (by decide +kernel), F.kp, F.bindsN fun _ _ _ _ _ _ us hl => match us, hl with | [_, _], _ => rfl, fn_none⟩
  | n + 1, kin, G, c => by
    obtain ⟨fd, F⟩ := c.1.def_ 9 (d := df "_law_loose" 22) rfl
    have Y : Known P w (KC K) (CA K) mg base (S__law_loose n) := {
      O := x_own c
      blt := blt_of kin G c
      con := con_of kin G c
      fns := look_cons ((cl__law_loose n kin G c).fns (Nat.le_refl _)) look_nil
      cls := cls_of kin G c
      ctr := fun _ _ h => nomatch h
      fld := fun _ hf => fldB_ok (x_fld c) hf
      prp := fun _ _ h => nomatch h
      nof := fun h => nomatch h
      oeq := fun _ h => nomatch h
      lns := fun _ h => nomatch h
      kwc := fun _ _ _ _ h => nomatch h
      kwd := fun _ _ _ _ h => nomatch h
      hds := fun _ h => nomatch h
      exs := fun _ h => nomatch h }
    have D := def_ok (ne := 20) (n := 20) Y F sc__law_loose (by decide) rfl rfl
    rw [bd__law_loose] at D
    exact ⟨_, fd, _, glob_of kin G c (by decide +kernel), F.kp, F.bindsN fun _ _ _ _ _ _ us hl => match us, hl with | [_, _], _ => rfl, D⟩
theorem cl__law_set (kin : K.In h) (G : h.Ns mainGlobals mg) (c : SaysC fa fn prs exB K) : Cld P w (KC K) mg base (CA K) 1 "_law_set" 3 F__law_set := by
  obtain ⟨fd, F⟩ := c.1.def_ 10 (d := df "_law_set" 23) rfl
  have Y : Known P w (KC K) (CA K) mg base S__law_set := {
    O := x_own c
    blt := blt_of kin G c
    con := con_of kin G c
    fns := look_nil
    cls := cls_of kin G c
    ctr := fun _ _ h => nomatch h
    fld := fun _ hf => fldB_ok (x_fld c) hf
    prp := fun _ _ h => nomatch h
    nof := fun h => nomatch h
    oeq := fun _ h => nomatch h
    lns := fun _ h => nomatch h
    kwc := fun _ _ _ _ h => nomatch h
    kwd := fun _ _ _ _ h => nomatch h
    hds := fun _ h => nomatch h
    exs := fun _ h => nomatch h }
  have D := def_ok (ne := 20) (n := 20) Y F sc__law_set (by decide) rfl rfl
  rw [bd__law_set] at D
  exact ⟨_, fd, _, glob_of kin G c (by decide +kernel), F.kp, F.bindsN fun _ _ _ _ _ _ us hl => match us, hl with | [_, _, _], _ => rfl, D⟩
theorem cl__law_printer (kin : K.In h) (G : h.Ns mainGlobals mg) (c : SaysC fa fn prs exB K) : Cld P w (KC K) mg base (CA K) 3 "_law_printer" 2 F__law_printer := by
  obtain ⟨fd, F⟩ := c.1.def_ 11 (d := df "_law_printer" 24) rfl
  have Y : Known P w (KC K) (CA K) mg base S__law_printer := {
    O := x_own c
    blt := blt_of kin G c
    con := con_of kin G c
    fns := look_cons ((cl__law_take kin G c).fns (by decide)) look_nil
    cls := cls_of kin G c
    ctr := fun _ _ h => nomatch h
    fld := fun _ hf => fldB_ok (x_fld c) hf
    prp := fun _ _ h => nomatch h
    nof := fun h => nomatch h
    oeq := fun _ h => nomatch h
    lns := fun _ h => nomatch h
    kwc := fun _ _ _ _ h => nomatch h
    kwd := fun _ _ _ _ h => nomatch h
    hds := fun _ h => nomatch h
    exs := fun _ h => nomatch h }
  have D := def_ok (ne := 20) (n := 20) Y F sc__law_printer (by decide) rfl rfl
  rw [bd__law_printer] at D
  exact ⟨_, fd, _, glob_of kin G c (by decide +kernel), F.kp, F.bindsN fun _ _ _ _ _ _ us hl => match us, hl with | [_, _], _ => rfl, D⟩
theorem cl__law_shift (kin : K.In h) (G : h.Ns mainGlobals mg) (c : SaysC fa fn prs exB K) : Cld P w (KC K) mg base (CA K) 1 "_law_shift" 3 F__law_shift := by
  obtain ⟨fd, F⟩ := c.1.def_ 12 (d := df "_law_shift" 25) rfl
  have Y : Known P w (KC K) (CA K) mg base S__law_shift := {
    O := x_own c
    blt := blt_of kin G c
    con := con_of kin G c
    fns := look_nil
    cls := cls_of kin G c
    ctr := fun _ _ h => nomatch h
    fld := fun _ hf => fldB_ok (x_fld c) hf
    prp := fun _ _ h => nomatch h
    nof := fun h => nomatch h
    oeq := fun _ h => nomatch h
    lns := fun _ h => nomatch h
    kwc := fun _ _ _ _ h => nomatch h
    kwd := fun _ _ _ _ h => nomatch h
    hds := fun _ h => nomatch h
    exs := fun _ h => nomatch h }
  have D := def_ok (ne := 20) (n := 20) Y F sc__law_shift (by decide) rfl rfl
  rw [bd__law_shift] at D
  exact ⟨_, fd, _, glob_of kin G c (by decide +kernel), F.kp, F.bindsN fun _ _ _ _ _ _ us hl => match us, hl with | [_, _, _], _ => rfl, D⟩
theorem cl__law_line (kin : K.In h) (G : h.Ns mainGlobals mg) (c : SaysC fa fn prs exB K) : Cld P w (KC K) mg base (CA K) 3 "_law_line" 4 F__law_line := by
  obtain ⟨fd, F⟩ := c.1.def_ 13 (d := df "_law_line" 26) rfl
  have Y : Known P w (KC K) (CA K) mg base S__law_line := {
    O := x_own c
    blt := blt_of kin G c
    con := con_of kin G c
    fns := look_cons ((cl__law_take kin G c).fns (by decide)) look_nil
    cls := cls_of kin G c
    ctr := fun _ _ h => nomatch h
    fld := fun _ hf => fldB_ok (x_fld c) hf
    prp := fun _ _ h => nomatch h
    nof := fun h => nomatch h
    oeq := fun _ h => nomatch h
    lns := fun _ h => nomatch h
    kwc := fun _ _ _ _ h => nomatch h
    kwd := fun _ _ _ _ h => nomatch h
    hds := fun _ h => nomatch h
    exs := fun _ h => nomatch h }
  have D := def_ok (ne := 20) (n := 20) Y F sc__law_line (by decide) rfl rfl
  rw [bd__law_line] at D
  exact ⟨_, fd, _, glob_of kin G c (by decide +kernel), F.kp, F.bindsN fun _ _ _ _ _ _ us hl => match us, hl with | [_, _, _, _], _ => rfl, D⟩
theorem cl__law_plan (kin : K.In h) (G : h.Ns mainGlobals mg) (c : SaysC fa fn prs exB K) : Cld P w (KC K) mg base (CA K) 4 "_law_plan" 3 F__law_plan := by
  obtain ⟨fd, F⟩ := c.1.def_ 14 (d := df "_law_plan" 27) rfl
  have Y : Known P w (KC K) (CA K) mg base S__law_plan := {
    O := x_own c
    blt := blt_of kin G c
    con := con_of kin G c
    fns := look_cons ((cl__law_take kin G c).fns (by decide)) (look_cons ((cl__law_line kin G c).fns (by decide)) (look_cons ((cl__law_shift kin G c).fns (by decide)) look_nil))
    cls := cls_of kin G c
    ctr := fun _ _ h => nomatch h
    fld := fun _ hf => fldB_ok (x_fld c) hf
    prp := fun _ _ h => nomatch h
    nof := fun h => nomatch h
    oeq := fun _ h => nomatch h
    lns := fun _ h => nomatch h
    kwc := fun _ _ _ _ h => nomatch h
    kwd := fun _ _ _ _ h => nomatch h
    hds := fun _ h => nomatch h
    exs := fun _ h => nomatch h }
  have D := def_ok (ne := 20) (n := 20) Y F sc__law_plan (by decide) rfl rfl
  rw [bd__law_plan] at D
  exact ⟨_, fd, _, glob_of kin G c (by decide +kernel), F.kp, F.bindsN fun _ _ _ _ _ _ us hl => match us, hl with | [_, _, _], _ => rfl, D⟩
theorem cl__law_case (kin : K.In h) (G : h.Ns mainGlobals mg) (c : SaysC fa fn prs exB K) : Cld P w (KC K) mg base (CA K) 5 "_law_case" 2 F__law_case := by
  obtain ⟨fd, F⟩ := c.1.def_ 15 (d := df "_law_case" 28) rfl
  have Y : Known P w (KC K) (CA K) mg base S__law_case := {
    O := x_own c
    blt := blt_of kin G c
    con := con_of kin G c
    fns := look_cons ((cl__law_printer kin G c).fns (by decide)) (look_cons ((cl__law_plan kin G c).fns (by decide)) look_nil)
    cls := cls_of kin G c
    ctr := fun _ _ h => nomatch h
    fld := fun _ hf => fldB_ok (x_fld c) hf
    prp := fun _ _ h => nomatch h
    nof := fun h => nomatch h
    oeq := fun _ h => nomatch h
    lns := fun _ h => nomatch h
    kwc := fun _ _ _ _ h => nomatch h
    kwd := fun _ _ _ _ h => nomatch h
    hds := fun _ h => nomatch h
    exs := fun _ h => nomatch h }
  have D := def_ok (ne := 20) (n := 20) Y F sc__law_case (by decide) rfl rfl
  rw [bd__law_case] at D
  exact ⟨_, fd, _, glob_of kin G c (by decide +kernel), F.kp, F.bindsN fun _ _ _ _ _ _ us hl => match us, hl with | [_, _], _ => rfl, D⟩
theorem cl_Printer___init__ (kin : K.In h) (G : h.Ns mainGlobals mg) (c : SaysC fa fn prs exB K) : ClM P w (KC K) mg base (CA K) 3 (ma K (ga K ("Printer" : Str)) ("__init__" : Str)) 4 F_Printer___init__ := by
  obtain ⟨fd, F⟩ := c.1.def_ 22 (d := dm "Printer" "__init__" 14 0) rfl
  have Y : Known P w (KC K) (CA K) mg base S_Printer___init__ := {
    O := x_own c
    blt := blt_of kin G c
    con := con_of kin G c
    fns := look_cons ((cl_is_flag kin G c).fns (by decide)) look_nil
    cls := cls_of kin G c
    ctr := fun _ _ h => nomatch h
    fld := fun _ hf => fldB_ok (x_fld c) hf
    prp := fun _ _ h => nomatch h
    nof := fun h => nomatch h
    oeq := fun _ h => nomatch h
    lns := fun _ h => nomatch h
    kwc := fun _ _ _ _ h => nomatch h
    kwd := fun _ _ _ _ h => nomatch h
    hds := fun _ h => nomatch h
    exs := exs_ok kin G c (by decide) }
  have D := def_ok (ne := 20) (n := 20) Y F sc_Printer___init__ (by decide) rfl rfl
  rw [bd_Printer___init__] at D
  exact ⟨fd, _, F.bindsN fun _ _ _ _ _ _ us hl => match us, hl with | [_, _, _, _], _ => rfl, D⟩
theorem ck_Printer___init__ (kin : K.In h) (G : h.Ns mainGlobals mg) (c : SaysC fa fn prs exB K) : ClK P w (KC K) mg base (CA K) 3 (ma K (ga K ("Printer" : Str)) ("__init__" : Str)) 4 F_Printer___init__ 1 [("counts" : Str), ("remembers" : Str), ("tells" : Str)] := by
  obtain ⟨fd, F⟩ := c.1.def_ 22 (d := dm "Printer" "__init__" 14 0) rfl
  have Y : Known P w (KC K) (CA K) mg base S_Printer___init__ := {
    O := x_own c
    blt := blt_of kin G c
    con := con_of kin G c
    fns := look_cons ((cl_is_flag kin G c).fns (by decide)) look_nil
    cls := cls_of kin G c
    ctr := fun _ _ h => nomatch h
    fld := fun _ hf => fldB_ok (x_fld c) hf
    prp := fun _ _ h => nomatch h
    nof := fun h => nomatch h
    oeq := fun _ h => nomatch h
    lns := fun _ h => nomatch h
    kwc := fun _ _ _ _ h => nomatch h
    kwd := fun _ _ _ _ h => nomatch h
    hds := fun _ h => nomatch h
    exs := exs_ok kin G c (by decide) }
  have D := def_ok (ne := 20) (n := 20) Y F sc_Printer___init__ (by decide) rfl rfl
  rw [bd_Printer___init__] at D
  refine ⟨fd, _, F.kwAll fun _ _ _ _ _ _ us ws hl ht => ?_, D, rfl⟩
  match us, ws, hl, ht with
  | [_], [_, _, _], _, _ => rfl
theorem cl__law_machine (kin : K.In h) (G : h.Ns mainGlobals mg) (c : SaysC fa fn prs exB K) : Cld P w (KC K) mg base (CA K) 5 "_law_machine" 1 F__law_machine := by
  obtain ⟨fd, F⟩ := c.1.def_ 16 (d := df "_law_machine" 29) rfl
  have Y : Known P w (KC K) (CA K) mg base S__law_machine := {
    O := x_own c
    blt := blt_of kin G c
    con := con_of kin G c
    fns := look_nil
    cls := cls_of kin G c
    ctr := look_cons ((cl_Printer___init__ kin G c).ctr (by decide +kernel) (glob_of kin G c (by decide +kernel)) (mk_of c (by decide +kernel)) (by decide)) look_nil
    fld := fun _ hf => fldB_ok (x_fld c) hf
    prp := fun _ _ h => nomatch h
    nof := fun h => nomatch h
    oeq := fun _ h => nomatch h
    lns := fun _ h => nomatch h
    kwc := fun _ _ _ _ h => nomatch h
    kwd := fun _ _ _ _ h => nomatch h
    hds := fun _ h => nomatch h
    exs := fun _ h => nomatch h }
  have D := def_ok (ne := 20) (n := 20) Y F sc__law_machine (by decide) rfl rfl
  rw [bd__law_machine] at D
  exact ⟨_, fd, _, glob_of kin G c (by decide +kernel), F.kp, F.bindsN fun _ _ _ _ _ _ us hl => match us, hl with | [_], _ => rfl, D⟩
theorem cl_Plan___init__ (kin : K.In h) (G : h.Ns mainGlobals mg) (c : SaysC fa fn prs exB K) : ClM P w (KC K) mg base (CA K) 4 (ma K (ga K ("Plan" : Str)) ("__init__" : Str)) 2 F_Plan___init__ := by
  obtain ⟨fd, F⟩ := c.1.def_ 24 (d := dm "Plan" "__init__" 15 0) rfl
  have Y : Known P w (KC K) (CA K) mg base S_Plan___init__ := {
    O := x_own c
    blt := blt_of kin G c
    con := con_of kin G c
    fns := look_cons ((cl_is_sequence kin G c).fns (by decide)) (look_cons ((cl__is_line kin G c).fns (by decide)) look_nil)
    cls := cls_of kin G c
    ctr := fun _ _ h => nomatch h
    fld := fun _ hf => fldB_ok (x_fld c) hf
    prp := fun _ _ h => nomatch h
    nof := fun h => nomatch h
    oeq := fun _ h => nomatch h
    lns := fun _ h => nomatch h
    kwc := fun _ _ _ _ h => nomatch h
    kwd := fun _ _ _ _ h => nomatch h
    hds := fun _ h => nomatch h
    exs := exs_ok kin G c (by decide) }
  have D := def_ok (ne := 20) (n := 20) Y F sc_Plan___init__ (by decide) rfl rfl
  rw [bd_Plan___init__] at D
  exact ⟨fd, _, F.bindsN fun _ _ _ _ _ _ us hl => match us, hl with | [_, _], _ => rfl, D⟩
theorem ck_Plan___init__ (kin : K.In h) (G : h.Ns mainGlobals mg) (c : SaysC fa fn prs exB K) : ClK P w (KC K) mg base (CA K) 4 (ma K (ga K ("Plan" : Str)) ("__init__" : Str)) 2 F_Plan___init__ 1 [("lines" : Str)] := by
  obtain ⟨fd, F⟩ := c.1.def_ 24 (d := dm "Plan" "__init__" 15 0) rfl
  have Y : Known P w (KC K) (CA K) mg base S_Plan___init__ := {
    O := x_own c
    blt := blt_of kin G c
    con := con_of kin G c
    fns := look_cons ((cl_is_sequence kin G c).fns (by decide)) (look_cons ((cl__is_line kin G c).fns (by decide)) look_nil)
    cls := cls_of kin G c
    ctr := fun _ _ h => nomatch h
    fld := fun _ hf => fldB_ok (x_fld c) hf
    prp := fun _ _ h => nomatch h
    nof := fun h => nomatch h
    oeq := fun _ h => nomatch h
    lns := fun _ h => nomatch h
    kwc := fun _ _ _ _ h => nomatch h
    kwd := fun _ _ _ _ h => nomatch h
    hds := fun _ h => nomatch h
    exs := exs_ok kin G c (by decide) }
  have D := def_ok (ne := 20) (n := 20) Y F sc_Plan___init__ (by decide) rfl rfl
  rw [bd_Plan___init__] at D
  refine ⟨fd, _, F.kwAll fun _ _ _ _ _ _ us ws hl ht => ?_, D, rfl⟩
  match us, ws, hl, ht with
  | [_], [_], _, _ => rfl
theorem cl__law_plan_fault (kin : K.In h) (G : h.Ns mainGlobals mg) (c : SaysC fa fn prs exB K) : Cld P w (KC K) mg base (CA K) 6 "_law_plan_fault" 1 F__law_plan_fault := by
  obtain ⟨fd, F⟩ := c.1.def_ 17 (d := df "_law_plan_fault" 30) rfl
  have Y : Known P w (KC K) (CA K) mg base S__law_plan_fault := {
    O := x_own c
    blt := blt_of kin G c
    con := con_of kin G c
    fns := look_nil
    cls := cls_of kin G c
    ctr := look_cons ((cl_Plan___init__ kin G c).ctr (by decide +kernel) (glob_of kin G c (by decide +kernel)) (mk_of c (by decide +kernel)) (by decide)) look_nil
    fld := fun _ hf => fldB_ok (x_fld c) hf
    prp := fun _ _ h => nomatch h
    nof := fun h => nomatch h
    oeq := fun _ h => nomatch h
    lns := fun _ h => nomatch h
    kwc := fun _ _ _ _ h => nomatch h
    kwd := fun _ _ _ _ h => nomatch h
    hds := hds_ok kin G c
    exs := fun _ h => nomatch h }
  have D := def_ok (ne := 20) (n := 20) Y F sc__law_plan_fault (by decide) rfl rfl
  rw [bd__law_plan_fault] at D
  exact ⟨_, fd, _, glob_of kin G c (by decide +kernel), F.kp, F.bindsN fun _ _ _ _ _ _ us hl => match us, hl with | [_], _ => rfl, D⟩
theorem cl__law_printer_fault (kin : K.In h) (G : h.Ns mainGlobals mg) (c : SaysC fa fn prs exB K) : Cld P w (KC K) mg base (CA K) 5 "_law_printer_fault" 3 F__law_printer_fault := by
  obtain ⟨fd, F⟩ := c.1.def_ 18 (d := df "_law_printer_fault" 31) rfl
  have Y : Known P w (KC K) (CA K) mg base S__law_printer_fault := {
    O := x_own c
    blt := blt_of kin G c
    con := con_of kin G c
    fns := look_nil
    cls := cls_of kin G c
    ctr := look_cons ((cl_Printer___init__ kin G c).ctr (by decide +kernel) (glob_of kin G c (by decide +kernel)) (mk_of c (by decide +kernel)) (by decide)) look_nil
    fld := fun _ hf => fldB_ok (x_fld c) hf
    prp := fun _ _ h => nomatch h
    nof := fun h => nomatch h
    oeq := fun _ h => nomatch h
    lns := fun _ h => nomatch h
    kwc := fun _ _ _ _ h => nomatch h
    kwd := fun _ _ _ _ h => nomatch h
    hds := hds_ok kin G c
    exs := fun _ h => nomatch h }
  have D := def_ok (ne := 20) (n := 20) Y F sc__law_printer_fault (by decide) rfl rfl
  rw [bd__law_printer_fault] at D
  exact ⟨_, fd, _, glob_of kin G c (by decide +kernel), F.kp, F.bindsN fun _ _ _ _ _ _ us hl => match us, hl with | [_, _, _], _ => rfl, D⟩
theorem cl_Plan_lines (kin : K.In h) (G : h.Ns mainGlobals mg) (c : SaysC fa fn prs exB K) : ClM P w (KC K) mg base (CA K) 1 (gaP K ("Plan" : Str) ("lines" : Str)) 1 F_Plan_lines := by
  obtain ⟨fd, F⟩ := saysC_prop c 3 (p := pr "Plan" "lines" 15 3) rfl (prOk_ok (x_prs c 3 rfl)).2
  have Y : Known P w (KC K) (CA K) mg base S_Plan_lines := {
    O := x_own c
    blt := blt_of kin G c
    con := con_of kin G c
    fns := look_nil
    cls := cls_of kin G c
    ctr := fun _ _ h => nomatch h
    fld := fun _ hf => fldB_ok (x_fld c) hf
    prp := fun _ _ h => nomatch h
    nof := fun h => nomatch h
    oeq := fun _ h => nomatch h
    lns := fun _ h => nomatch h
    kwc := fun _ _ _ _ h => nomatch h
    kwd := fun _ _ _ _ h => nomatch h
    hds := fun _ h => nomatch h
    exs := fun _ h => nomatch h }
  have D := def_ok (ne := 20) (n := 20) Y F sc_Plan_lines (by decide) rfl rfl
  rw [bd_Plan_lines] at D
  exact ⟨fd, _, F.bindsN fun _ _ _ _ _ _ us hl => match us, hl with | [_], _ => rfl, D⟩
theorem cl_Printer_counts (kin : K.In h) (G : h.Ns mainGlobals mg) (c : SaysC fa fn prs exB K) : ClM P w (KC K) mg base (CA K) 1 (gaP K ("Printer" : Str) ("counts" : Str)) 1 F_Printer_counts := by
  obtain ⟨fd, F⟩ := saysC_prop c 0 (p := pr "Printer" "counts" 14 2) rfl (prOk_ok (x_prs c 0 rfl)).2
  have Y : Known P w (KC K) (CA K) mg base S_Printer_counts := {
    O := x_own c
    blt := blt_of kin G c
    con := con_of kin G c
    fns := look_nil
    cls := cls_of kin G c
    ctr := fun _ _ h => nomatch h
    fld := fun _ hf => fldB_ok (x_fld c) hf
    prp := fun _ _ h => nomatch h
    nof := fun h => nomatch h
    oeq := fun _ h => nomatch h
    lns := fun _ h => nomatch h
    kwc := fun _ _ _ _ h => nomatch h
    kwd := fun _ _ _ _ h => nomatch h
    hds := fun _ h => nomatch h
    exs := fun _ h => nomatch h }
  have D := def_ok (ne := 20) (n := 20) Y F sc_Printer_counts (by decide) rfl rfl
  rw [bd_Printer_counts] at D
  exact ⟨fd, _, F.bindsN fun _ _ _ _ _ _ us hl => match us, hl with | [_], _ => rfl, D⟩
theorem cl_Printer_remembers (kin : K.In h) (G : h.Ns mainGlobals mg) (c : SaysC fa fn prs exB K) : ClM P w (KC K) mg base (CA K) 1 (gaP K ("Printer" : Str) ("remembers" : Str)) 1 F_Printer_remembers := by
  obtain ⟨fd, F⟩ := saysC_prop c 1 (p := pr "Printer" "remembers" 14 3) rfl (prOk_ok (x_prs c 1 rfl)).2
  have Y : Known P w (KC K) (CA K) mg base S_Printer_remembers := {
    O := x_own c
    blt := blt_of kin G c
    con := con_of kin G c
    fns := look_nil
    cls := cls_of kin G c
    ctr := fun _ _ h => nomatch h
    fld := fun _ hf => fldB_ok (x_fld c) hf
    prp := fun _ _ h => nomatch h
    nof := fun h => nomatch h
    oeq := fun _ h => nomatch h
    lns := fun _ h => nomatch h
    kwc := fun _ _ _ _ h => nomatch h
    kwd := fun _ _ _ _ h => nomatch h
    hds := fun _ h => nomatch h
    exs := fun _ h => nomatch h }
  have D := def_ok (ne := 20) (n := 20) Y F sc_Printer_remembers (by decide) rfl rfl
  rw [bd_Printer_remembers] at D
  exact ⟨fd, _, F.bindsN fun _ _ _ _ _ _ us hl => match us, hl with | [_], _ => rfl, D⟩
theorem cl_Printer_tells (kin : K.In h) (G : h.Ns mainGlobals mg) (c : SaysC fa fn prs exB K) : ClM P w (KC K) mg base (CA K) 1 (gaP K ("Printer" : Str) ("tells" : Str)) 1 F_Printer_tells := by
  obtain ⟨fd, F⟩ := saysC_prop c 2 (p := pr "Printer" "tells" 14 4) rfl (prOk_ok (x_prs c 2 rfl)).2
  have Y : Known P w (KC K) (CA K) mg base S_Printer_tells := {
    O := x_own c
    blt := blt_of kin G c
    con := con_of kin G c
    fns := look_nil
    cls := cls_of kin G c
    ctr := fun _ _ h => nomatch h
    fld := fun _ hf => fldB_ok (x_fld c) hf
    prp := fun _ _ h => nomatch h
    nof := fun h => nomatch h
    oeq := fun _ h => nomatch h
    lns := fun _ h => nomatch h
    kwc := fun _ _ _ _ h => nomatch h
    kwd := fun _ _ _ _ h => nomatch h
    hds := fun _ h => nomatch h
    exs := fun _ h => nomatch h }
  have D := def_ok (ne := 20) (n := 20) Y F sc_Printer_tells (by decide) rfl rfl
  rw [bd_Printer_tells] at D
  exact ⟨fd, _, F.bindsN fun _ _ _ _ _ _ us hl => match us, hl with | [_], _ => rfl, D⟩
theorem cl_Printer___eq__ (kin : K.In h) (G : h.Ns mainGlobals mg) (c : SaysC fa fn prs exB K) : ClM P w (KC K) mg base (CA K) 1 (ma K (ga K ("Printer" : Str)) ("__eq__" : Str)) 2 F_Printer___eq__ := by
  obtain ⟨fd, F⟩ := c.1.def_ 23 (d := dm "Printer" "__eq__" 14 1) rfl
  have Y : Known P w (KC K) (CA K) mg base S_Printer___eq__ := {
    O := x_own c
    blt := blt_of kin G c
    con := con_of kin G c
    fns := look_nil
    cls := cls_of kin G c
    ctr := fun _ _ h => nomatch h
    fld := fun _ hf => fldB_ok (x_fld c) hf
    prp := fun _ _ h => nomatch h
    nof := fun h => nomatch h
    oeq := fun _ h => nomatch h
    lns := fun _ h => nomatch h
    kwc := fun _ _ _ _ h => nomatch h
    kwd := fun _ _ _ _ h => nomatch h
    hds := fun _ h => nomatch h
    exs := fun _ h => nomatch h }
  have D := def_ok (ne := 20) (n := 20) Y F sc_Printer___eq__ (by decide) rfl rfl
  rw [bd_Printer___eq__] at D
  exact ⟨fd, _, F.bindsN fun _ _ _ _ _ _ us hl => match us, hl with | [_, _], _ => rfl, D⟩
theorem cl_Plan___eq__ (kin : K.In h) (G : h.Ns mainGlobals mg) (c : SaysC fa fn prs exB K) : ClM P w (KC K) mg base (CA K) 1 (ma K (ga K ("Plan" : Str)) ("__eq__" : Str)) 2 F_Plan___eq__ := by
  obtain ⟨fd, F⟩ := c.1.def_ 25 (d := dm "Plan" "__eq__" 15 1) rfl
  have Y : Known P w (KC K) (CA K) mg base S_Plan___eq__ := {
    O := x_own c
    blt := blt_of kin G c
    con := con_of kin G c
    fns := look_nil
    cls := cls_of kin G c
    ctr := fun _ _ h => nomatch h
    fld := fun _ hf => fldB_ok (x_fld c) hf
    prp := fun _ _ h => nomatch h
    nof := fun h => nomatch h
    oeq := fun _ h => nomatch h
    lns := fun _ h => nomatch h
    kwc := fun _ _ _ _ h => nomatch h
    kwd := fun _ _ _ _ h => nomatch h
    hds := fun _ h => nomatch h
    exs := fun _ h => nomatch h }
  have D := def_ok (ne := 20) (n := 20) Y F sc_Plan___eq__ (by decide) rfl rfl
  rw [bd_Plan___eq__] at D
  exact ⟨fd, _, F.bindsN fun _ _ _ _ _ _ us hl => match us, hl with | [_, _], _ => rfl, D⟩
theorem cl_Plan___len__ (kin : K.In h) (G : h.Ns mainGlobals mg) (c : SaysC fa fn prs exB K) : ClM P w (KC K) mg base (CA K) 1 (ma K (ga K ("Plan" : Str)) ("__len__" : Str)) 1 F_Plan___len__ := by
  obtain ⟨fd, F⟩ := c.1.def_ 26 (d := dm "Plan" "__len__" 15 2) rfl
  have Y : Known P w (KC K) (CA K) mg base S_Plan___len__ := {
    O := x_own c
    blt := blt_of kin G c
    con := con_of kin G c
    fns := look_nil
    cls := cls_of kin G c
    ctr := fun _ _ h => nomatch h
    fld := fun _ hf => fldB_ok (x_fld c) hf
    prp := fun _ _ h => nomatch h
    nof := fun h => nomatch h
    oeq := fun _ h => nomatch h
    lns := fun _ h => nomatch h
    kwc := fun _ _ _ _ h => nomatch h
    kwd := fun _ _ _ _ h => nomatch h
    hds := fun _ h => nomatch h
    exs := fun _ h => nomatch h }
  have D := def_ok (ne := 20) (n := 20) Y F sc_Plan___len__ (by decide) rfl rfl
  rw [bd_Plan___len__] at D
  exact ⟨fd, _, F.bindsN fun _ _ _ _ _ _ us hl => match us, hl with | [_], _ => rfl, D⟩
theorem law_fact (kin : K.In h) (G : h.Ns mainGlobals mg) (c : SaysC fa fn prs exB K) : ∃ fd : FuncData, (∀ (s : Shared) (v : Value), BindsTo s fd ⟨[v], []⟩ [("script", v)]) ∧ ∀ base : Heap, FnOk P w K mg base (L2N.CX P w) 10 (ga K "law") fd ["script"] (spOfT (KC K) (CA K) 1 F_law TopH) := by
  obtain ⟨fd, F⟩ := c.1.def_ 19 (d := df "law" 32) rfl
  refine ⟨fd, fun s v => FunD.bindsA (ps := ["script"]) F (fun _ _ _ _ _ _ us hl => match us, hl with | [_], _ => rfl) s [v] rfl, fun base => ?_⟩
  have Y : Known P w (KC K) (CA K) mg base S_law := {
    O := x_own c
    blt := blt_of kin G c
    con := con_of kin G c
    fns := look_cons ((cl__law_numbers kin G c).fns (by decide)) (look_cons ((cl__law_case kin G c).fns (by decide)) (look_cons ((cl__law_take kin G c).fns (by decide)) (look_cons ((cl__law_machine kin G c).fns (by decide)) (look_cons ((cl__law_set kin G c).fns (by decide)) (look_cons ((cl__law_plan_fault kin G c).fns (by decide)) (look_cons ((cl__law_so 8 kin G c).fns (by decide)) (look_cons ((cl__law_printer_fault kin G c).fns (by decide)) (look_cons ((cl__law_loose 8 kin G c).fns (by decide)) look_nil))))))))
    cls := cls_of kin G c
    ctr := look_cons ((cl_Plan___init__ kin G c).ctr (by decide +kernel) (glob_of kin G c (by decide +kernel)) (mk_of c (by decide +kernel)) (by decide)) (look_cons ((cl_Printer___init__ kin G c).ctr (by decide +kernel) (glob_of kin G c (by decide +kernel)) (mk_of c (by decide +kernel)) (by decide)) look_nil)
    fld := fun _ hf => fldB_ok (x_fld c) hf
    prp := look_cons (fun c' f' hf' => look_cons (p := fun c'' f'' => ∃ A p g' fd k ps, (KC K).cl c'' = some A ∧ PropOf K A ("lines" : Str) p g' ∧ FnOk P w K mg base (L2N.CX P w) k g' fd ps (spOf (KC K) (CA K) 1 f'') ∧ k + 1 ≤ 9 ∧ Binds K fd ps []) ((cl_Plan_lines kin G c).prp (by decide +kernel) (x_prs c 3 rfl) (by decide)) look_nil c' f' hf') (look_cons (fun c' f' hf' => look_cons (p := fun c'' f'' => ∃ A p g' fd k ps, (KC K).cl c'' = some A ∧ PropOf K A ("counts" : Str) p g' ∧ FnOk P w K mg base (L2N.CX P w) k g' fd ps (spOf (KC K) (CA K) 1 f'') ∧ k + 1 ≤ 9 ∧ Binds K fd ps []) ((cl_Printer_counts kin G c).prp (by decide +kernel) (x_prs c 0 rfl) (by decide)) look_nil c' f' hf') (look_cons (fun c' f' hf' => look_cons (p := fun c'' f'' => ∃ A p g' fd k ps, (KC K).cl c'' = some A ∧ PropOf K A ("remembers" : Str) p g' ∧ FnOk P w K mg base (L2N.CX P w) k g' fd ps (spOf (KC K) (CA K) 1 f'') ∧ k + 1 ≤ 9 ∧ Binds K fd ps []) ((cl_Printer_remembers kin G c).prp (by decide +kernel) (x_prs c 1 rfl) (by decide)) look_nil c' f' hf') (look_cons (fun c' f' hf' => look_cons (p := fun c'' f'' => ∃ A p g' fd k ps, (KC K).cl c'' = some A ∧ PropOf K A ("tells" : Str) p g' ∧ FnOk P w K mg base (L2N.CX P w) k g' fd ps (spOf (KC K) (CA K) 1 f'') ∧ k + 1 ≤ 9 ∧ Binds K fd ps []) ((cl_Printer_tells kin G c).prp (by decide +kernel) (x_prs c 2 rfl) (by decide)) look_nil c' f' hf') look_nil)))
    nof := fun _ => nofB_ok (x_nof c)
    oeq := fun g h => by
      cases (show some Lb.eqT = some g from h)
      exact look_cons ((cl_Printer___eq__ kin G c).spc (by decide +kernel) (x_meth c (by decide +kernel)) (by decide)) (look_cons ((cl_Plan___eq__ kin G c).spc (by decide +kernel) (x_meth c (by decide +kernel)) (by decide)) look_nil)
    lns := fun g h => by
      cases (show some Lb.lenT = some g from h)
      exact look_cons ((cl_Plan___len__ kin G c).spc (by decide +kernel) (x_meth c (by decide +kernel)) (by decide)) look_nil
    kwc := fun x e ks h1 h2 => look_cons (p := fun x ks => ∀ e, (S_law).ctor x = some e → ∃ A g fd ps k, (KC K).cl x = some A ∧ mg x = some (.ref A) ∧ Mk K A g ∧ FnOk P w K mg base (L2N.CX P w) k g fd ps (spOf (KC K) (CA K) (e.n + 1) e.f) ∧ k + 1 ≤ 9 ∧ KwAll K fd ps 1 ∧ ps.drop 1 = ks) (fun e he => by
        cases (show some (⟨1, [false], F_Plan___init__⟩ : FE) = some e from he)
        obtain ⟨fd, ps, a, b, d⟩ := (ck_Plan___init__ kin G c).ex
        exact ⟨ga K ("Plan" : Str), _, fd, ps, 4, clOf_in (cs := cs) (c := ("Plan" : Str)) (by decide +kernel), glob_of kin G c (by decide +kernel), mkr_ok (mk_of c (by decide +kernel)), b, by decide, a, d⟩) (look_cons (p := fun x ks => ∀ e, (S_law).ctor x = some e → ∃ A g fd ps k, (KC K).cl x = some A ∧ mg x = some (.ref A) ∧ Mk K A g ∧ FnOk P w K mg base (L2N.CX P w) k g fd ps (spOf (KC K) (CA K) (e.n + 1) e.f) ∧ k + 1 ≤ 9 ∧ KwAll K fd ps 1 ∧ ps.drop 1 = ks) (fun e he => by
        cases (show some (⟨3, [false, false, false], F_Printer___init__⟩ : FE) = some e from he)
        obtain ⟨fd, ps, a, b, d⟩ := (ck_Printer___init__ kin G c).ex
        exact ⟨ga K ("Printer" : Str), _, fd, ps, 3, clOf_in (cs := cs) (c := ("Printer" : Str)) (by decide +kernel), glob_of kin G c (by decide +kernel), mkr_ok (mk_of c (by decide +kernel)), b, by decide, a, d⟩) look_nil) x ks h2 e h1
    kwd := fun _ _ _ _ h => nomatch h
    hds := fun _ h => nomatch h
    exs := fun _ h => nomatch h }
  have D := def_okT (ne := 20) (n := 20) (i := 4) (k := 5) (z := "given") Y F sc_law (by decide) rfl rfl (by decide) (by decide) sp_law
  rw [bd_law] at D
  exact D
end
end Q01
set_option maxRecDepth 100000
set_option maxHeartbeats 4000000
namespace Q01
open PySem PySem.Spec PyProof.Rows L2 DI Lb
def sLo_0 : SDen := (asgS 1 (bnd (consC (coD (frzD (slotV 0))) nilC) (runFn 1 F__law_numbers)))
def sLo_1 : SDen := (asgS 2 (lstV (consA (frzD (ret (.val (.int 0)))) (ret []))))
def sLo_2 : SDen := (asgS 3 (bnd (consC (coD (frzD (slotV 1))) (consC (slotC 2) nilC)) (runFn 2 F__law_case)))
def sLo_3 : SDen := (asgS 4 (lcF (itemsF (frzD (ixV (slotC 3) (frzD (ret (.val (.int 1))))))) (frzD (call1C listD (slotC 15))) (ret true) (.name 15) [15]))
def sLo_4 : SDen := (asgS 5 (valD (frzD (bnd (consC (coD (frzD (slotV 4))) nilC) (newV ("Plan" : Str) 1 F_Plan___init__)))))
def sLo_5 : SDen := (spoilS 4)
def sLo_6a_0 : SDen := (retS (ret (.val (.bl false))))
def qLo_6a : SDen := (seqS sLo_6a_0 nextS)
def tLo_6_0 : Den Bool := (notB (truC (coD (frzD (bnd (consC (coD (frzD (getV P_lines (slotC 5)))) (consC (coD (frzD (ixV (slotC 3) (frzD (ret (.val (.int 1))))))) nilC)) (runFn 2 (F__law_so 8)))))))
def tLo_6_1 : Den Bool := (cmpB .NotEq (frzD (lenO lenT (slotC 5))) (coD (frzD (lenO lenT (coD (frzD (ixV (slotC 3) (frzD (ret (.val (.int 1)))))))))))
def tLo_6_2 : Den Bool := (notB (eqO eqT (frzD (slotV 5)) (coD (frzD (valD (frzD (bnd (consC (coD (frzD (bnd (consC (coD (frzD (ixV (slotC 3) (frzD (ret (.val (.int 1))))))) (consC (coD (frzD (ret (.val (.int 1))))) nilC)) (runFn 2 (F__law_loose 8))))) nilC) (newV ("Plan" : Str) 1 F_Plan___init__))))))))
def tLo_6_3 : Den Bool := (eqO eqT (frzD (slotV 5)) (coD (frzD (ixV (slotC 3) (frzD (ret (.val (.int 1))))))))
def tLo_6_4 : Den Bool := (eqO eqT (frzD (slotV 5)) (coD (frzD (ret (.val .non)))))
def sLo_6 : SDen := (ifS (orB [tLo_6_0, tLo_6_1, tLo_6_2, tLo_6_3, tLo_6_4]) qLo_6a nextS)
def sLo_7 : SDen := (asgS 6 (bnd (consC (coD (frzD (slotV 1))) (consC (slotC 2) (consC (coD (frzD (lenO lenT (coD (frzD (ixV (slotC 3) (frzD (ret (.val (.int 1)))))))))) nilC))) (runFn 3 F__law_take)))
def sLo_8 : SDen := (asgS 7 (ifV (cmpB .NotEq (frzD (ixV (coD (frzD (ixV (slotC 3) (frzD (ret (.val (.int 1))))))) (frzD (slotV 6)))) (coD (frzD (tupV (consA (frzD (ret (.val (.str ("end" : Str))))) (ret [])))))) (tupV (consA (frzD (ret (.val (.str ("end" : Str))))) (ret []))) (tupV (consA (frzD (ret (.val (.str ("go" : Str))))) (consA (frzD (ret (.val (.int 0)))) (ret []))))))
def sLo_9a_0 : SDen := (retS (ret (.val (.bl false))))
def qLo_9a : SDen := (seqS sLo_9a_0 nextS)
def sLo_9 : SDen := (ifS (eqO eqT (frzD (slotV 5)) (coD (frzD (valD (frzD (bnd (consC (coD (frzD (bnd (consC (coD (frzD (ixV (slotC 3) (frzD (ret (.val (.int 1))))))) (consC (coD (frzD (slotV 6))) (consC (coD (frzD (slotV 7))) nilC))) (runFn 3 F__law_set)))) nilC) (newV ("Plan" : Str) 1 F_Plan___init__))))))) qLo_9a nextS)
def sLo_10 : SDen := (asgS 8 (bnd (consC (coD (frzD (slotV 3))) nilC) (runFn 1 F__law_machine)))
def sLo_11a_0 : SDen := (retS (ret (.val (.bl false))))
def qLo_11a : SDen := (seqS sLo_11a_0 nextS)
def tLo_11_0 : Den Bool := (notB (truC (coD (frzD (bnd (consC (coD (frzD (tupV (consA (frzD (getV P_counts (slotC 8))) (consA (frzD (getV P_remembers (slotC 8))) (consA (frzD (getV P_tells (slotC 8))) (ret []))))))) (consC (coD (frzD (ixV (slotC 3) (frzD (ret (.val (.int 0))))))) nilC)) (runFn 2 (F__law_so 8)))))))
def tLo_11_1 : Den Bool := (notB (eqO eqT (frzD (slotV 8)) (coD (frzD (valD (frzD (bnd (consC (coD (frzD (ixV (coD (frzD (ixV (slotC 3) (frzD (ret (.val (.int 0))))))) (frzD (ret (.val (.int 0))))))) (consC (coD (frzD (ixV (coD (frzD (ixV (slotC 3) (frzD (ret (.val (.int 0))))))) (frzD (ret (.val (.int 1))))))) (consC (coD (frzD (ixV (coD (frzD (ixV (slotC 3) (frzD (ret (.val (.int 0))))))) (frzD (ret (.val (.int 2))))))) nilC))) (newV ("Printer" : Str) 3 F_Printer___init__))))))))
def sLo_11 : SDen := (ifS (orB [tLo_11_0, tLo_11_1]) qLo_11a nextS)
def sLo_12f_0 : SDen := (asgS 13 (bnd (consC (coD (frzD (ixV (slotC 3) (frzD (ret (.val (.int 0))))))) (consC (coD (frzD (slotV 9))) (consC (coD (frzD (notV (ixV (coD (frzD (ixV (slotC 3) (frzD (ret (.val (.int 0))))))) (frzD (slotV 9)))))) nilC))) (runFn 3 F__law_set)))
def sLo_12f_1a_0 : SDen := (retS (ret (.val (.bl false))))
def qLo_12f_1a : SDen := (seqS sLo_12f_1a_0 nextS)
def tLo_12f_1_0 : Den Bool := (eqO eqT (frzD (slotV 8)) (coD (frzD (valD (frzD (bnd (consC (coD (frzD (ixV (slotC 13) (frzD (ret (.val (.int 0))))))) (consC (coD (frzD (ixV (slotC 13) (frzD (ret (.val (.int 1))))))) (consC (coD (frzD (ixV (slotC 13) (frzD (ret (.val (.int 2))))))) nilC))) (newV ("Printer" : Str) 3 F_Printer___init__)))))))
def tLo_12f_1_1 : Den Bool := (eqO eqT (frzD (slotV 8)) (coD (frzD (ixV (slotC 3) (frzD (ret (.val (.int 0))))))))
def sLo_12f_1 : SDen := (ifS (orB [tLo_12f_1_0, tLo_12f_1_1]) qLo_12f_1a nextS)
def sLo_12f_2 : SDen := (asgS 14 (bnd (consC (coD (frzD (ixV (slotC 3) (frzD (ret (.val (.int 0))))))) (consC (coD (frzD (slotV 9))) (consC (coD (frzD (ixV (coD (frzD (lstV (consA (frzD (ret (.val (.int 0)))) (consA (frzD (ret (.val (.int 1)))) (consA (frzD (ret (.val .non))) (consA (frzD (ret (.val (.str ("True" : Str))))) (ret [])))))))) (frzD (bnd (consC (coD (frzD (slotV 1))) (consC (slotC 2) (consC (coD (frzD (ret (.val (.int 4))))) nilC))) (runFn 3 F__law_take)))))) nilC))) (runFn 3 F__law_set)))
def sLo_12f_3a_0 : SDen := (retS (ret (.val (.bl false))))
def qLo_12f_3a : SDen := (seqS sLo_12f_3a_0 nextS)
def sLo_12f_3 : SDen := (ifS (cmpB .NotEq (frzD (bnd (consC (coD (frzD (ixV (slotC 14) (frzD (ret (.val (.int 0))))))) (consC (coD (frzD (ixV (slotC 14) (frzD (ret (.val (.int 1))))))) (consC (coD (frzD (ixV (slotC 14) (frzD (ret (.val (.int 2))))))) nilC))) (runFn 3 F__law_printer_fault))) (coD (frzD (binV .Add (slotC 9) (coD (frzD (ret (.val (.int 1))))))))) qLo_12f_3a nextS)
def qLo_12f : SDen := (seqS sLo_12f_0 (seqS sLo_12f_1 (seqS sLo_12f_2 (seqS sLo_12f_3 nextS))))
def sLo_12 : SDen := (forF (rngF1 (frzD (ret (.val (.int 3))))) (.name 9) qLo_12f)
def sLo_13a_0 : SDen := (retS (ret (.val (.bl false))))
def qLo_13a : SDen := (seqS sLo_13a_0 nextS)
def sLo_13 : SDen := (ifS (cmpB .NotEq (frzD (bnd (consC (coD (frzD (ixV (coD (frzD (lstV (consA (frzD (ret (.val .non))) (consA (frzD (tupV (ret []))) (consA (frzD (ret (.val (.int 5)))) (consA (frzD (ret (.val (.str ("end" : Str))))) (consA (frzD (call1C tupleD (coD (frzD (lcF (rngF1 (frzD (ret (.val (.int 17))))) (frzD (tupV (consA (frzD (ret (.val (.str ("end" : Str))))) (ret [])))) (ret true) (.name 9) [9]))))) (ret []))))))))) (frzD (bnd (consC (coD (frzD (slotV 1))) (consC (slotC 2) (consC (coD (frzD (ret (.val (.int 5))))) nilC))) (runFn 3 F__law_take)))))) nilC) (runFn 1 F__law_plan_fault))) (coD (frzD (tupV (consA (frzD (ret (.val (.str ("value" : Str))))) (consA (frzD (ret (.val (.int 1)))) (ret []))))))) qLo_13a nextS)
def sLo_14 : SDen := (asgS 10 (lstV (consA (frzD (ret (.val .non))) (consA (frzD (ret (.val (.int 5)))) (consA (frzD (tupV (ret []))) (consA (frzD (tupV (consA (frzD (ret (.val (.str ("fly" : Str))))) (ret [])))) (consA (frzD (tupV (consA (frzD (ret (.val (.str ("send" : Str))))) (consA (frzD (ret (.val (.int 1)))) (ret []))))) (consA (frzD (tupV (consA (frzD (ret (.val (.str ("go" : Str))))) (ret [])))) (consA (frzD (tupV (consA (frzD (ret (.val (.str ("go" : Str))))) (consA (frzD (lenO lenT (coD (frzD (ixV (slotC 3) (frzD (ret (.val (.int 1))))))))) (ret []))))) (consA (frzD (tupV (consA (frzD (ret (.val (.str ("go" : Str))))) (consA (frzD (negV (frzD (ret (.val (.int 1)))))) (ret []))))) (consA (frzD (tupV (consA (frzD (ret (.val (.str ("go" : Str))))) (consA (frzD (ret (.val (.bl true)))) (ret []))))) (consA (frzD (tupV (consA (frzD (ret (.val (.str ("if" : Str))))) (consA (frzD (ret (.val (.str ("done" : Str))))) (ret []))))) (consA (frzD (tupV (consA (frzD (ret (.val (.str ("if" : Str))))) (consA (frzD (ret (.val (.str ("no" : Str))))) (consA (frzD (ret (.val (.int 0)))) (ret [])))))) (consA (frzD (tupV (consA (frzD (ret (.val (.str ("if" : Str))))) (consA (frzD (ret (.val (.str ("ok" : Str))))) (consA (frzD (lenO lenT (coD (frzD (ixV (slotC 3) (frzD (ret (.val (.int 1))))))))) (ret [])))))) (ret [])))))))))))))))
def sLo_15 : SDen := (asgS 10 (binV .Add (slotC 10) (coD (frzD (lstV (consA (frzD (tupV (consA (frzD (ret (.val (.str ("if" : Str))))) (consA (frzD (ret (.val (.str ("ok" : Str))))) (consA (frzD (ret (.val (.int 0)))) (consA (frzD (ret (.val (.int 0)))) (ret []))))))) (consA (frzD (ret (.val (.str ("end" : Str))))) (consA (frzD (tupV (consA (frzD (ret (.val (.str ("end" : Str))))) (consA (frzD (ret (.val (.str ("end" : Str))))) (ret []))))) (consA (frzD (tupV (consA (frzD (ret (.val (.str ("recall" : Str))))) (consA (frzD (ret (.val (.int 0)))) (ret []))))) (ret []))))))))))
def sLo_16 : SDen := (asgS 11 (bnd (consC (coD (frzD (ixV (slotC 3) (frzD (ret (.val (.int 1))))))) (consC (coD (frzD (slotV 6))) (consC (coD (frzD (ixV (slotC 10) (frzD (bnd (consC (coD (frzD (slotV 1))) (consC (slotC 2) (consC (coD (frzD (ret (.val (.int 16))))) nilC))) (runFn 3 F__law_take)))))) nilC))) (runFn 3 F__law_set)))
def sLo_17a_0 : SDen := (asgS 11 (bnd (consC (coD (frzD (slotV 11))) (consC (coD (frzD (binV .Add (slotC 6) (coD (frzD (ret (.val (.int 1)))))))) (consC (coD (frzD (ret (.val .non)))) nilC))) (runFn 3 F__law_set)))
def qLo_17a : SDen := (seqS sLo_17a_0 nextS)
def tLo_17_0 : Den Bool := (cmpB .Lt (frzD (slotV 6)) (coD (frzD (binV .Sub (coD (frzD (lenO lenT (slotC 11)))) (coD (frzD (ret (.val (.int 1)))))))))
def tLo_17_1 : Den Bool := (eqO eqT (frzD (bnd (consC (coD (frzD (slotV 1))) (consC (slotC 2) (consC (coD (frzD (ret (.val (.int 2))))) nilC))) (runFn 3 F__law_take))) (coD (frzD (ret (.val (.int 0))))))
def sLo_17 : SDen := (ifS (andB [tLo_17_0, tLo_17_1]) qLo_17a nextS)
def sLo_18a_0 : SDen := (retS (ret (.val (.bl false))))
def qLo_18a : SDen := (seqS sLo_18a_0 nextS)
def sLo_18 : SDen := (ifS (cmpB .NotEq (frzD (bnd (consC (coD (frzD (slotV 11))) nilC) (runFn 1 F__law_plan_fault))) (coD (frzD (tupV (consA (frzD (ret (.val (.str ("line" : Str))))) (consA (frzD (slotV 6)) (ret []))))))) qLo_18a nextS)
def sLo_19 : SDen := (asgS 12 (ixV (coD (frzD (lstV (consA (frzD (tupV (consA (frzD (ret (.val (.str ("add" : Str))))) (ret [])))) (consA (frzD (tupV (consA (frzD (ret (.val (.str ("send" : Str))))) (ret [])))) (consA (frzD (tupV (consA (frzD (ret (.val (.str ("if" : Str))))) (consA (frzD (ret (.val (.str ("ok" : Str))))) (consA (frzD (ret (.val (.int 0)))) (ret [])))))) (consA (frzD (tupV (consA (frzD (ret (.val (.str ("wait" : Str))))) (ret [])))) (consA (frzD (tupV (consA (frzD (ret (.val (.str ("note" : Str))))) (ret [])))) (ret []))))))))) (frzD (bnd (consC (coD (frzD (slotV 1))) (consC (slotC 2) (consC (coD (frzD (ret (.val (.int 5))))) nilC))) (runFn 3 F__law_take)))))
def sLo_20 : SDen := (retS (blV (eqO eqT (frzD (bnd (consC (coD (frzD (bnd (consC (coD (frzD (ixV (slotC 3) (frzD (ret (.val (.int 1))))))) (consC (coD (frzD (binV .Sub (coD (frzD (lenO lenT (coD (frzD (ixV (slotC 3) (frzD (ret (.val (.int 1)))))))))) (coD (frzD (ret (.val (.int 1)))))))) (consC (coD (frzD (slotV 12))) nilC))) (runFn 3 F__law_set)))) nilC) (runFn 1 F__law_plan_fault))) (coD (frzD (tupV (consA (frzD (ret (.val (.str ("line" : Str))))) (consA (frzD (binV .Sub (coD (frzD (lenO lenT (coD (frzD (ixV (slotC 3) (frzD (ret (.val (.int 1)))))))))) (coD (frzD (ret (.val (.int 1))))))) (ret [])))))))))
def qLo : SDen := (seqS sLo_0 (seqS sLo_1 (seqS sLo_2 (seqS sLo_3 (seqS sLo_4 (seqS sLo_5 (seqS sLo_6 (seqS sLo_7 (seqS sLo_8 (seqS sLo_9 (seqS sLo_10 (seqS sLo_11 (seqS sLo_12 (seqS sLo_13 (seqS sLo_14 (seqS sLo_15 (seqS sLo_16 (seqS sLo_17 (seqS sLo_18 (seqS sLo_19 (seqS sLo_20 nextS)))))))))))))))))))))
theorem c_law_cut : c_law = qLo := rfl
section
variable {xs ns : List Int} {s : Nat} {c r t : Bool} {ls : List Ln} {l ot : Ln} {a w n pg i : Int} {k : Nat} {wD : D} {sK sB sW : Sl}
theorem e_eq : (Lb.eqT ("Plan" : Str) = some F_Plan___eq__) ∧ Lb.eqT ("Printer" : Str) = some F_Printer___eq__ := ⟨rfl, rfl⟩
theorem e_len : Lb.lenT ("Plan" : Str) = some F_Plan___len__ := rfl
theorem ls_at (g : Gd c ls) (h : k < ls.length) : ls[k]? = some (lnAt ls k) := by
  unfold lnAt
  rw [Int.toNat_natCast, List.getElem?_eq_getElem h]
  rfl
theorem a0 : sLo_0 [.val (.fls (ns.map .int)), .no, .no, .no, .no, .no, .no, .no, .no, .no, .no, .no, .no, .no, .no, .no] = some (.next [.val (.fls (ns.map .int)), .own (.lst ((numP ns).map .int)), .no, .no, .no, .no, .no, .no, .no, .no, .no, .no, .no, .no, .no, .no]) := by
  simp [-DI.ev_storeR, -DI.ev_storeV, -List.map_map, -List.length_take, -List.length_drop, -List.map_take, -List.map_drop, -Int.toNat_sub', DI.andB, DI.orB, DI.andV, DI.orV, DI.isBl, DI.notV, DI.negV, DI.chainB, DI.slcD, DI.tupleD, DI.listD, sLo_0, numbers_is]
theorem a1 : sLo_1 [.val (.fls (ns.map .int)), .own (.lst (xs.map .int)), .no, .no, .no, .no, .no, .no, .no, .no, .no, .no, .no, .no, .no, .no] = some (.next [.val (.fls (ns.map .int)), .own (.lst (xs.map .int)), .own (sp 0), .no, .no, .no, .no, .no, .no, .no, .no, .no, .no, .no, .no, .no]) := by
  simp [-DI.ev_storeR, -DI.ev_storeV, -List.map_map, -List.length_take, -List.length_drop, -List.map_take, -List.map_drop, -Int.toNat_sub', DI.andB, DI.orB, DI.andV, DI.orV, DI.isBl, DI.notV, DI.negV, DI.chainB, DI.slcD, DI.tupleD, DI.listD, sLo_1]
  rfl
theorem a2 (hn : xs ≠ []) : ∃ s c r t ls, sLo_2 [.val (.fls (ns.map .int)), .own (.lst (xs.map .int)), .own (sp 0), .no, .no, .no, .no, .no, .no, .no, .no, .no, .no, .no, .no, .no] = some (.next [.val (.fls (ns.map .int)), .val (rowD xs), .own (sp s), .val (caseD c r t ls), .no, .no, .no, .no, .no, .no, .no, .no, .no, .no, .no, .no]) ∧ Gd c ls := by
  obtain ⟨s, c, r, t, ls, e, g⟩ := case_is (xs := xs) (s := 0) hn
  refine ⟨s, c, r, t, ls, ?_, g⟩
  unfold rowD at e ⊢
  simp [-DI.ev_storeR, -DI.ev_storeV, -List.map_map, -List.length_take, -List.length_drop, -List.map_take, -List.map_drop, -Int.toNat_sub', DI.andB, DI.orB, DI.andV, DI.orV, DI.isBl, DI.notV, DI.negV, DI.chainB, DI.slcD, DI.tupleD, DI.listD, sLo_2, e]
theorem list_some : ∃ ds, listD (enc l) = some (.new (.lst ds)) ∧ .lst ds = encL l := by cases l <;> exact ⟨_, rfl, rfl⟩
def gv (d : D) : D := ((listD d).getD (.val .non)).frz
theorem gv_enc : gv (enc l) = encL l := by cases l <;> rfl
theorem a3 (g : Gd c ls) : sLo_3 [.val (.fls (ns.map .int)), .val (rowD xs), .own (sp s), .val (caseD c r t ls), .no, .no, .no, .no, .no, .no, .no, .no, .no, .no, .no, .no] = some (.next [.val (.fls (ns.map .int)), .val (rowD xs), .own (sp s), .val (caseD c r t ls), .own (.lst (ls.map encL)), .no, .no, .no, .no, .no, .no, .no, .no, .no, .no, .no]) := by
  have e4 := lcT_map (elt := frzD (call1C listD (slotC 15))) (t := .name 15) (ks := [15]) (ρ := [.val (.fls (ns.map .int)), .val (rowD xs), .own (sp s), .val (caseD c r t ls), .no, .no, .no, .no, .no, .no, .no, .no, .no, .no, .no, .no]) gv (ds := ls.map enc) (acc := []) (fun d hd => by
    obtain ⟨l, _, rfl⟩ := List.mem_map.mp hd
    obtain ⟨ds, e1, e2⟩ := @list_some l
    refine ⟨[.val (.fls (ns.map .int)), .val (rowD xs), .ref (sp s), .val (caseD c r t ls), .no, .no, .no, .no, .no, .no, .no, .no, .no, .no, .no, .val (enc l)], [.val (.fls (ns.map .int)), .val (rowD xs), .ref (sp s), .val (caseD c r t ls), .no, .no, .no, .no, .no, .no, .no, .no, .no, .no, .no, .val (enc l)], ?_, ?_, ?_⟩
    · simp [-DI.ev_storeR, -DI.ev_storeV, -List.map_map, -List.length_take, -List.length_drop, -List.map_take, -List.map_drop, -Int.toNat_sub', DI.andB, DI.orB, DI.andV, DI.orV, DI.isBl, DI.notV, DI.negV, DI.chainB, DI.slcD, DI.tupleD, DI.listD]
    · simp [e1, gv]
    · simp [-DI.ev_storeR, -DI.ev_storeV, -List.map_map, -List.length_take, -List.length_drop, -List.map_take, -List.map_drop, -Int.toNat_sub', DI.andB, DI.orB, DI.andV, DI.orV, DI.isBl, DI.notV, DI.negV, DI.chainB, DI.slcD, DI.tupleD, DI.listD]) (by have := g.hi; simp; omega)
  have eg : (ls.map enc).map gv = ls.map encL := by
    rw [List.map_map]
    exact congrArg (fun f => ls.map f) (funext fun l => gv_enc)
  rw [List.nil_append, eg] at e4
  have ei : itemsI (tupL ls) = some (ls.map enc) := rfl
  have ec : ∀ ρ : Rho, ρ[3]? = some (.val (caseD c r t ls)) → (itemsF (frzD (ixV (slotC 3) (frzD (ret (.val (.int 1))))))) ρ = some (.ok (ls.map enc) ρ) := fun ρ h => by
    simp [-DI.ev_storeR, -DI.ev_storeV, -List.map_map, -List.length_take, -List.length_drop, -List.map_take, -List.map_drop, -Int.toNat_sub', DI.andB, DI.orB, DI.andV, DI.orV, DI.isBl, DI.notV, DI.negV, DI.chainB, DI.slcD, DI.tupleD, DI.listD, h, caseD, ei]
  simp [-DI.ev_storeR, -DI.ev_storeV, -List.map_map, -List.length_take, -List.length_drop, -List.map_take, -List.map_drop, -Int.toNat_sub', DI.andB, DI.orB, DI.andV, DI.orV, DI.isBl, DI.notV, DI.negV, DI.chainB, DI.slcD, DI.tupleD, DI.listD, -ev_itemsF, sLo_3, ec, e4]
theorem given_ix : ∀ (k : Nat) (d : D), (ls.map encL)[k]? = some d → ∃ l, ls[k]? = some l ∧ Lf l d := fun k d h => by
  rw [List.getElem?_map, Option.map_eq_some_iff] at h
  obtain ⟨l, h1, rfl⟩ := h
  exact ⟨l, h1, .inr rfl⟩
theorem a4 (g : Gd c ls) : sLo_4 [.val (.fls (ns.map .int)), .val (rowD xs), .own (sp s), .val (caseD c r t ls), .own (.lst (ls.map encL)), .no, .no, .no, .no, .no, .no, .no, .no, .no, .no, .no] = some (.next [.val (.fls (ns.map .int)), .val (rowD xs), .own (sp s), .val (caseD c r t ls), .val (.lst (ls.map encL)), .val (plD ls), .no, .no, .no, .no, .no, .no, .no, .no, .no, .no]) := by
  have e := po_init (Of.lst (ls.map encL)) g (by simp) given_ix
  simp [-DI.ev_storeR, -DI.ev_storeV, -List.map_map, -List.length_take, -List.length_drop, -List.map_take, -List.map_drop, -Int.toNat_sub', DI.andB, DI.orB, DI.andV, DI.orV, DI.isBl, DI.notV, DI.negV, DI.chainB, DI.slcD, DI.tupleD, DI.listD, sLo_4, e, shiftO, plD]
theorem a5 (g : Gd c ls) : sLo_5 [.val (.fls (ns.map .int)), .val (rowD xs), .own (sp s), .val (caseD c r t ls), .val (.lst (ls.map encL)), .val (plD ls), .no, .no, .no, .no, .no, .no, .no, .no, .no, .no] = some (.next [.val (.fls (ns.map .int)), .val (rowD xs), .own (sp s), .val (caseD c r t ls), .no, .val (plD ls), .no, .no, .no, .no, .no, .no, .no, .no, .no, .no]) := by
  have lo := g.lo
  have hi := g.hi
  cases ls with
  | nil => simp at lo
  | cons l0 rest =>
    have hl : rest.length < 99999 := by simp at hi; omega
    have ht := tl_len l0
    have ht' : (tl l0).length < 99999 := by omega
    have n1 : noL (.fls (ns.map .int)) = true := by rw [noL, keepD_ints, noL_ints]; rfl
    have n2 : noL (rowD xs) = true := by unfold rowD; rw [noL, keepD_ints, noL_ints]; rfl
    have n3 : noL (caseD c r t (l0 :: rest)) = true := by
      unfold caseD tupL
      simp only [noL, noLA, noL_encs, Bool.and_self]
    have n4 : noL (plD (l0 :: rest)) = true := by
      unfold plD tupL
      simp only [noL, noLF, noL_encs, Bool.and_self]
    have n5 : noLM (sp s) = true := rfl
    have h : ([.val (.fls (ns.map .int)), .val (rowD xs), .own (sp s), .val (caseD c r t (l0 :: rest)), .no, .val (plD (l0 :: rest)), .no, .no, .no, .no, .no, .no, .no, .no, .no, .no]).all noLS = true := by
      simp only [List.all_cons, List.all_nil, noLS, n1, n2, n3, n4, n5, Bool.and_self]
    unfold sLo_5 spoilS
    rw [List.map_cons, encL_is]
    dsimp only [List.getElem?_cons_succ, List.getElem?_cons_zero]
    rw [if_pos ⟨h, ht', by simpa using hl⟩]
    rfl
theorem lo_lines : Lb.lo 7 (tupL ls) 1 = .tup (ls.map encL) := by
  unfold tupL
  rw [Lb.lo, if_neg (by decide), List.map_map]
  congr 1
  refine congrArg (fun f => ls.map f) (funext fun l => ?_)
  cases l <;> rfl
theorem pu_enc {k : Nat} : pu (k + 1) (enc l) = true := by
  cases l <;> simp [enc, pu, puA, ok_recall, ok_note, ok_count, ok_add, ok_send, ok_wait, ok_end, ok_go, ok_if, ok_done, ok_ok]
theorem pu_tupL {k : Nat} (h : ls.length ≤ 50000) : pu (k + 2) (tupL ls) = true := by
  unfold tupL
  rw [pu, puA_map enc (k + 1) (fun l => pu_enc) ls]
  simpa using h
theorem or_f {x y : Den Bool} {l : List (Den Bool)} {ρ ρ' : Rho} (h : x ρ = some (.ok false ρ')) : orB (x :: y :: l) ρ = orB (y :: l) ρ' := by
  show bnd x (fun b => if b then ret true else orB (y :: l)) ρ = _
  unfold bnd
  rw [h]
  rfl
theorem if_f {x : Den Bool} {y : SDen} {ρ ρ' : Rho} (h : x ρ = some (.ok false ρ')) : ifS x y nextS ρ = some (.next ρ') := by
  show bS x (fun b => if b then y else nextS) ρ = _
  unfold bS
  rw [h]
  rfl
theorem len_made {j : Int} (hj : F_Plan___len__ [.val (plD ls)] = some (.ret (.val (.int j)) [])) (h0 : 0 ≤ j) (h1 : j < 2 ^ 63) (ρ : Rho) (h : ρ[5]? = some (.val (plD ls))) : lenO Lb.lenT (slotC 5) ρ = some (.ok (.val (.int j)) ρ) := by
  have h1' : j < 9223372036854775808 := h1
  unfold plD at hj h
  simp [-DI.ev_storeR, -DI.ev_storeV, -List.map_map, -List.length_take, -List.length_drop, -List.map_take, -List.map_drop, -Int.toNat_sub', DI.andB, DI.orB, DI.andV, DI.orV, DI.isBl, DI.notV, DI.negV, DI.chainB, DI.slcD, DI.tupleD, DI.listD, h, e_len, hj, h0, h1']
theorem made_len (hi : ls.length ≤ 16) (ρ : Rho) (h : ρ[5]? = some (.val (plD ls))) : lenO Lb.lenT (slotC 5) ρ = some (.ok (.val (.int ls.length)) ρ) := len_made plan_len (by omega) (by omega) ρ h
theorem case_len (ρ : Rho) (h : ρ[3]? = some (.val (caseD c r t ls))) : lenO Lb.lenT (coD (frzD (ixV (slotC 3) (frzD (ret (.val (.int 1))))))) ρ = some (.ok (.val (.int ls.length)) ρ) := by
  simp [-DI.ev_storeR, -DI.ev_storeV, -List.map_map, -List.length_take, -List.length_drop, -List.map_take, -List.map_drop, -Int.toNat_sub', DI.andB, DI.orB, DI.andV, DI.orV, DI.isBl, DI.notV, DI.negV, DI.chainB, DI.slcD, DI.tupleD, DI.listD, h, caseD, tupL]
theorem case_1 (ρ : Rho) (h : ρ[3]? = some (.val (caseD c r t ls))) : ixV (slotC 3) (frzD (ret (.val (.int 1)))) ρ = some (.ok (.val (tupL ls)) ρ) := by
  simp [-DI.ev_storeR, -DI.ev_storeV, -List.map_map, -List.length_take, -List.length_drop, -List.map_take, -List.map_drop, -Int.toNat_sub', DI.andB, DI.orB, DI.andV, DI.orV, DI.isBl, DI.notV, DI.negV, DI.chainB, DI.slcD, DI.tupleD, DI.listD, h, caseD]
theorem a6_0 (g : Gd c ls) : tLo_6_0 [.val (.fls (ns.map .int)), .val (rowD xs), .own (sp s), .val (caseD c r t ls), .no, .val (plD ls), .no, .no, .no, .no, .no, .no, .no, .no, .no, .no] = some (.ok false [.val (.fls (ns.map .int)), .val (rowD xs), .own (sp s), .val (caseD c r t ls), .no, .val (plD ls), .no, .no, .no, .no, .no, .no, .no, .no, .no, .no]) := by
  have hi := g.hi
  have e1 : F_Plan_lines [.val (plD ls)] = some (.ret (.val (tupL ls)) []) := rfl
  have e2 := so_refl 7 (tupL ls) (pu_tupL (by omega))
  unfold plD at *
  simp [-DI.ev_storeR, -DI.ev_storeV, -List.map_map, -List.length_take, -List.length_drop, -List.map_take, -List.map_drop, -Int.toNat_sub', DI.andB, DI.orB, DI.andV, DI.orV, DI.isBl, DI.notV, DI.negV, DI.chainB, DI.slcD, DI.tupleD, DI.listD, tLo_6_0, p_lines, e1, e2, caseD]
theorem ne_same {X Y : Den RV} {ρ : Rho} {j : Int} (e1 : X ρ = some (.ok (.val (.int j)) ρ)) (e2 : Y ρ = some (.ok (.val (.int j)) ρ)) : cmpB .NotEq (frzD X) (coD (frzD Y)) ρ = some (.ok false ρ) := by
  simp [-DI.ev_storeR, -DI.ev_storeV, -List.map_map, -List.length_take, -List.length_drop, -List.map_take, -List.map_drop, -Int.toNat_sub', DI.andB, DI.orB, DI.andV, DI.orV, DI.isBl, DI.notV, DI.negV, DI.chainB, DI.slcD, DI.tupleD, DI.listD, e1, e2]
theorem a6_1 (g : Gd c ls) : tLo_6_1 [.val (.fls (ns.map .int)), .val (rowD xs), .own (sp s), .val (caseD c r t ls), .no, .val (plD ls), .no, .no, .no, .no, .no, .no, .no, .no, .no, .no] = some (.ok false [.val (.fls (ns.map .int)), .val (rowD xs), .own (sp s), .val (caseD c r t ls), .no, .val (plD ls), .no, .no, .no, .no, .no, .no, .no, .no, .no, .no]) := ne_same (made_len g.hi _ rfl) (case_len _ rfl)
theorem a6_2 (g : Gd c ls) : tLo_6_2 [.val (.fls (ns.map .int)), .val (rowD xs), .own (sp s), .val (caseD c r t ls), .no, .val (plD ls), .no, .no, .no, .no, .no, .no, .no, .no, .no, .no] = some (.ok false [.val (.fls (ns.map .int)), .val (rowD xs), .own (sp s), .val (caseD c r t ls), .no, .val (plD ls), .no, .no, .no, .no, .no, .no, .no, .no, .no, .no]) := by
  have hi := g.hi
  have e3 := loose_is 7 (tupL ls) 1 (pu_tupL (by omega))
  rw [lo_lines] at e3
  have e4 := po_init (Of.tup (ls.map encL)) g (by simp) given_ix
  have e5 := @plan_eq ls ls
  unfold plD at *
  simp [-DI.ev_storeR, -DI.ev_storeV, -List.map_map, -List.length_take, -List.length_drop, -List.map_take, -List.map_drop, -Int.toNat_sub', DI.andB, DI.orB, DI.andV, DI.orV, DI.isBl, DI.notV, DI.negV, DI.chainB, DI.slcD, DI.tupleD, DI.listD, tLo_6_2, e3, e4, e5, shiftO, eqF, e_eq, caseD]
theorem a6_3 (g : Gd c ls) : tLo_6_3 [.val (.fls (ns.map .int)), .val (rowD xs), .own (sp s), .val (caseD c r t ls), .no, .val (plD ls), .no, .no, .no, .no, .no, .no, .no, .no, .no, .no] = some (.ok false [.val (.fls (ns.map .int)), .val (rowD xs), .own (sp s), .val (caseD c r t ls), .no, .val (plD ls), .no, .no, .no, .no, .no, .no, .no, .no, .no, .no]) := by
  have e6 := @plan_no ls (tupL ls) rfl
  unfold plD at *
  simp [-DI.ev_storeR, -DI.ev_storeV, -List.map_map, -List.length_take, -List.length_drop, -List.map_take, -List.map_drop, -Int.toNat_sub', DI.andB, DI.orB, DI.andV, DI.orV, DI.isBl, DI.notV, DI.negV, DI.chainB, DI.slcD, DI.tupleD, DI.listD, tLo_6_3, e6, eqF, e_eq, caseD]
theorem a6_4 (g : Gd c ls) : tLo_6_4 [.val (.fls (ns.map .int)), .val (rowD xs), .own (sp s), .val (caseD c r t ls), .no, .val (plD ls), .no, .no, .no, .no, .no, .no, .no, .no, .no, .no] = some (.ok false [.val (.fls (ns.map .int)), .val (rowD xs), .own (sp s), .val (caseD c r t ls), .no, .val (plD ls), .no, .no, .no, .no, .no, .no, .no, .no, .no, .no]) := by
  have e7 := @plan_no ls .non rfl
  unfold plD at *
  simp [-DI.ev_storeR, -DI.ev_storeV, -List.map_map, -List.length_take, -List.length_drop, -List.map_take, -List.map_drop, -Int.toNat_sub', DI.andB, DI.orB, DI.andV, DI.orV, DI.isBl, DI.notV, DI.negV, DI.chainB, DI.slcD, DI.tupleD, DI.listD, tLo_6_4, e7, eqF, e_eq]
theorem a6 (g : Gd c ls) : sLo_6 [.val (.fls (ns.map .int)), .val (rowD xs), .own (sp s), .val (caseD c r t ls), .no, .val (plD ls), .no, .no, .no, .no, .no, .no, .no, .no, .no, .no] = some (.next [.val (.fls (ns.map .int)), .val (rowD xs), .own (sp s), .val (caseD c r t ls), .no, .val (plD ls), .no, .no, .no, .no, .no, .no, .no, .no, .no, .no]) :=
  if_f ((or_f (a6_0 g)).trans ((or_f (a6_1 g)).trans ((or_f (a6_2 g)).trans ((or_f (a6_3 g)).trans (a6_4 g)))))
theorem a7 (hn : xs ≠ []) (g : Gd c ls) : ∃ k : Nat, sLo_7 [.val (.fls (ns.map .int)), .val (rowD xs), .own (sp s), .val (caseD c r t ls), .no, .val (plD ls), .no, .no, .no, .no, .no, .no, .no, .no, .no, .no] = some (.next [.val (.fls (ns.map .int)), .val (rowD xs), .own (sp (s + 1)), .val (caseD c r t ls), .no, .val (plD ls), .val (.int k), .no, .no, .no, .no, .no, .no, .no, .no, .no]) ∧ k < ls.length := by
  have lo := g.lo
  have e := take_sp (xs := xs) (s := s) (l := (ls.length : Int)) hn (by omega)
  have t0 := tk_nn (xs := xs) (s := s) (l := (ls.length : Int)) (by omega)
  have t1 := tk_lt (xs := xs) (s := s) (l := (ls.length : Int)) (by omega)
  obtain ⟨k, ek⟩ := nat_of t0
  rw [ek] at e t1
  refine ⟨k, ?_, by omega⟩
  unfold caseD tupL
  simp [-DI.ev_storeR, -DI.ev_storeV, -List.map_map, -List.length_take, -List.length_drop, -List.map_take, -List.map_drop, -Int.toNat_sub', DI.andB, DI.orB, DI.andV, DI.orV, DI.isBl, DI.notV, DI.negV, DI.chainB, DI.slcD, DI.tupleD, DI.listD, sLo_7, e]
theorem case_at (g : Gd c ls) (h : k < ls.length) : L2.atI (ls.map enc) (k : Int) = some (enc (lnAt ls k)) := lnAt_at (by omega) (by omega)
def otP (l : Ln) : Ln := if l = .fin then .go 0 else .fin
theorem a8 (g : Gd c ls) (h : k < ls.length) : sLo_8 [.val (.fls (ns.map .int)), .val (rowD xs), .own (sp s), .val (caseD c r t ls), .no, .val (plD ls), .val (.int k), .no, .no, .no, .no, .no, .no, .no, .no, .no] = some (.next [.val (.fls (ns.map .int)), .val (rowD xs), .own (sp s), .val (caseD c r t ls), .no, .val (plD ls), .val (.int k), .val (enc (otP (lnAt ls k))), .no, .no, .no, .no, .no, .no, .no, .no]) := by
  have e1 := case_at g h
  generalize lnAt ls k = l at *
  have e2 := eqD_enc l .fin
  unfold caseD tupL otP
  by_cases hl : l = .fin
  · subst hl
    have e2' : eqD (.tup [.str ("end" : Str)]) (.tup [.str ("end" : Str)]) = some true := by simpa [enc] using e2
    simp [-DI.ev_storeR, -DI.ev_storeV, -List.map_map, -List.length_take, -List.length_drop, -List.map_take, -List.map_drop, -Int.toNat_sub', DI.andB, DI.orB, DI.andV, DI.orV, DI.isBl, DI.notV, DI.negV, DI.chainB, DI.slcD, DI.tupleD, DI.listD, sLo_8, e1, enc, e2']
  · have e2' : eqD (enc l) (.tup [.str ("end" : Str)]) = some false := by
      simp only [enc] at e2
      rw [show decide (l = .fin) = false by simp [hl]] at e2
      cases l <;> exact e2
    simp [-DI.ev_storeR, -DI.ev_storeV, -List.map_map, -List.length_take, -List.length_drop, -List.map_take, -List.map_drop, -Int.toNat_sub', DI.andB, DI.orB, DI.andV, DI.orV, DI.isBl, DI.notV, DI.negV, DI.chainB, DI.slcD, DI.tupleD, DI.listD, sLo_8, e1, hl, e2']
    simp [enc]
theorem set_gd (g : Gd c ls) (h : k < ls.length) (ok : ot.ok ls.length c) (hl : ot.last = true) : Gd c (ls.set k ot) := by
  refine ⟨fun l hm => ?_, by simpa using g.lo, by simpa using g.hi, ?_⟩
  · rw [List.length_set]
    rcases List.mem_or_eq_of_mem_set hm with h1 | rfl
    · exact g.ok l h1
    · exact ok
  · by_cases e : k = ls.length - 1
    · exact ⟨ot, by rw [List.length_set, ← e, List.getElem?_set_self h], hl⟩
    · obtain ⟨z, hz, hz2⟩ := g.last
      exact ⟨z, by rw [List.length_set, List.getElem?_set_ne e]; exact hz, hz2⟩
theorem otP_ok {l : Ln} (h : 0 < n) : (otP l).ok n c := by
  unfold otP
  split
  · exact ⟨by omega, h⟩
  · exact trivial
theorem otP_last {l : Ln} : (otP l).last = true := by unfold otP; split <;> rfl
theorem otP_ne {l : Ln} : otP l ≠ l := by
  unfold otP
  split
  · rename_i e; subst e; simp
  · rename_i e; exact fun z => e z.symm
theorem set_ne (h : k < ls.length) : ls ≠ ls.set k (otP (lnAt ls k)) := fun e => by
  have h1 : (ls.set k (otP (lnAt ls k)))[k]? = some (otP (lnAt ls k)) := List.getElem?_set_self h
  rw [← e] at h1
  have h2 : ls[k]? = some (lnAt ls k) := by
    unfold lnAt
    rw [Int.toNat_natCast, List.getElem?_eq_getElem h]
    rfl
  rw [h2] at h1
  exact otP_ne (Option.some.inj h1).symm
theorem enc_ix : ∀ (k : Nat) (d : D), (ls.map enc)[k]? = some d → ∃ l, ls[k]? = some l ∧ Lf l d := fun k d h => by
  rw [List.getElem?_map, Option.map_eq_some_iff] at h
  obtain ⟨l, h1, rfl⟩ := h
  exact ⟨l, h1, .inl rfl⟩
theorem set_tup (h : k < ls.length) (hi : ls.length ≤ 16) {d : D} : F__law_set [.val (tupL ls), .val (.int k), .val d] = some (.ret (.val (.tup ((ls.map enc).set k d))) []) := set_is (by simpa using h) (by simp; omega)
theorem set_enc (h : k < ls.length) (hi : ls.length ≤ 16) : F__law_set [.val (tupL ls), .val (.int k), .val (enc ot)] = some (.ret (.val (tupL (ls.set k ot))) []) := by
  rw [set_tup h hi]
  unfold tupL
  rw [List.map_set]
theorem a9 (g : Gd c ls) (h : k < ls.length) : sLo_9 [.val (.fls (ns.map .int)), .val (rowD xs), .own (sp s), .val (caseD c r t ls), .no, .val (plD ls), .val (.int k), .val (enc (otP (lnAt ls k))), .no, .no, .no, .no, .no, .no, .no, .no] = some (.next [.val (.fls (ns.map .int)), .val (rowD xs), .own (sp s), .val (caseD c r t ls), .no, .val (plD ls), .val (.int k), .val (enc (otP (lnAt ls k))), .no, .no, .no, .no, .no, .no, .no, .no]) := by
  have e1 := set_enc (ot := otP (lnAt ls k)) h g.hi
  have gs := set_gd g h (ot := otP (lnAt ls k)) (otP_ok (by omega)) otP_last
  have e2 := po_init (Of.tup ((ls.set k (otP (lnAt ls k))).map enc)) gs (by simp) enc_ix
  have e3 := @plan_eq ls (ls.set k (otP (lnAt ls k)))
  rw [show decide (ls = ls.set k (otP (lnAt ls k))) = false from decide_eq_false (set_ne h)] at e3
  have e2' : F_Plan___init__ [.ref (.ins "Plan" []), .val (tupL (ls.set k (otP (lnAt ls k))))] = _ := e2
  unfold plD at *
  simp [-DI.ev_storeR, -DI.ev_storeV, -List.map_map, -List.length_take, -List.length_drop, -List.map_take, -List.map_drop, -Int.toNat_sub', DI.andB, DI.orB, DI.andV, DI.orV, DI.isBl, DI.notV, DI.negV, DI.chainB, DI.slcD, DI.tupleD, DI.listD, sLo_9, e1, e2', e3, shiftO, eqF, e_eq, caseD]
theorem a10 : sLo_10 [.val (.fls (ns.map .int)), .val (rowD xs), .own (sp s), .val (caseD c r t ls), .no, .val (plD ls), .val (.int k), .val wD, .no, .no, .no, .no, .no, .no, .no, .no] = some (.next [.val (.fls (ns.map .int)), .val (rowD xs), .own (sp s), .val (caseD c r t ls), .no, .val (plD ls), .val (.int k), .val wD, .val (Lb.prD c r t), .no, .no, .no, .no, .no, .no, .no]) := by
  simp [-DI.ev_storeR, -DI.ev_storeV, -List.map_map, -List.length_take, -List.length_drop, -List.map_take, -List.map_drop, -Int.toNat_sub', DI.andB, DI.orB, DI.andV, DI.orV, DI.isBl, DI.notV, DI.negV, DI.chainB, DI.slcD, DI.tupleD, DI.listD, sLo_10, machine_is]
theorem get_c : F_Printer_counts [.val (Lb.prD c r t)] = some (.ret (.val (.bl c)) []) := rfl
theorem get_r : F_Printer_remembers [.val (Lb.prD c r t)] = some (.ret (.val (.bl r)) []) := rfl
theorem get_t : F_Printer_tells [.val (Lb.prD c r t)] = some (.ret (.val (.bl t)) []) := rfl
theorem pu_bls {k : Nat} : pu (k + 1) (.tup [.bl c, .bl r, .bl t]) = true := by simp [pu, puA]
theorem a11 : sLo_11 [.val (.fls (ns.map .int)), .val (rowD xs), .own (sp s), .val (caseD c r t ls), .no, .val (plD ls), .val (.int k), .val wD, .val (Lb.prD c r t), .no, .no, .no, .no, .no, .no, .no] = some (.next [.val (.fls (ns.map .int)), .val (rowD xs), .own (sp s), .val (caseD c r t ls), .no, .val (plD ls), .val (.int k), .val wD, .val (Lb.prD c r t), .no, .no, .no, .no, .no, .no, .no]) := by
  have e1 := @get_c c r t
  have e2 := @get_r c r t
  have e3 := @get_t c r t
  have e4 := so_refl 7 (.tup [.bl c, .bl r, .bl t]) pu_bls
  have e5 := @prInit c r t
  have e6 := @pr_eq c r t c r t
  unfold Lb.prD at *
  simp [-DI.ev_storeR, -DI.ev_storeV, -List.map_map, -List.length_take, -List.length_drop, -List.map_take, -List.map_drop, -Int.toNat_sub', DI.andB, DI.orB, DI.andV, DI.orV, DI.isBl, DI.notV, DI.negV, DI.chainB, DI.slcD, DI.tupleD, DI.listD, sLo_11, tLo_11_0, tLo_11_1, p_counts, p_remembers, p_tells, e1, e2, e3, e4, e5, e6, shiftO, eqF, e_eq, caseD]
theorem set3_0 {x y z d : D} : F__law_set [.val (.tup [x, y, z]), .val (.int 0), .val d] = some (.ret (.val (.tup [d, y, z])) []) := rfl
theorem set3_1 {x y z d : D} : F__law_set [.val (.tup [x, y, z]), .val (.int 1), .val d] = some (.ret (.val (.tup [x, d, z])) []) := rfl
theorem set3_2 {x y z d : D} : F__law_set [.val (.tup [x, y, z]), .val (.int 2), .val d] = some (.ret (.val (.tup [x, y, d])) []) := rfl
def P12k (Z : Nat → Sl → Sl → Sl → Rho) (ρ : Rho) : Prop := ∃ s sK sB sW, ρ = Z s sK sB sW ∧ isPl (some sK) = true ∧ isPl (some sB) = true ∧ isPl (some sW) = true
theorem t12 (hn : xs ≠ []) (d : D) (hd : d ∈ rngL 0 3) (ρ : Rho) (p : P12k (fun s sK sB sW => [.val (.fls (ns.map .int)), .val (rowD xs), .own (sp s), .val (caseD c r t ls), .no, .val (plD ls), .val (.int k), .val wD, .val (Lb.prD c r t), sK, .no, .no, .no, sB, sW, .no]) ρ) : ∃ ρ1 ρ', stT (.name 9) d ρ = some ρ1 ∧ (qLo_12f ρ1 = some (.next ρ') ∨ qLo_12f ρ1 = some (.cont ρ')) ∧ P12k (fun s sK sB sW => [.val (.fls (ns.map .int)), .val (rowD xs), .own (sp s), .val (caseD c r t ls), .no, .val (plD ls), .val (.int k), .val wD, .val (Lb.prD c r t), sK, .no, .no, .no, sB, sW, .no]) ρ' := by
  obtain ⟨s, sK, sB, sW, rfl, hK, hB, hW⟩ := p
  have hK := nr_pl hK
  have hB := nr_pl hB
  have hW := nr_pl hW
  have hd' : d = .int 0 ∨ d = .int 1 ∨ d = .int 2 := by
    have e : rngL 0 3 = [D.int 0, .int 1, .int 2] := by rfl
    rw [e] at hd
    simpa using hd
  obtain ⟨wd, ew, nf⟩ := wr_at (tk_nn (xs := xs) (s := s) (l := 4) (by omega)) (tk_lt (by omega))
  have n0 := @pr_no c r t (.tup [.bl c, .bl r, .bl t]) rfl
  rcases hd' with rfl | rfl | rfl
  · refine ⟨[.val (.fls (ns.map .int)), .val (rowD xs), .own (sp s), .val (caseD c r t ls), .no, .val (plD ls), .val (.int k), .val wD, .val (Lb.prD c r t), .val (.int 0), .no, .no, .no, sB, sW, .no], _, st_v (k := 9) (by simpa using hK), .inl ?_, s + 1, .val (.int 0), .val (.tup [.bl (!c), .bl r, .bl t]), .val (.tup [wd, .bl r, .bl t]), rfl, by simp, by simp, by simp⟩
    have e1 := @prInit (!c) r t
    have e2 := @pr_eq c r t (!c) r t
    rw [show (decide (c = !c)) = false by cases c <;> rfl] at e2
    have e3 := fault_pr (pr_bad1 nf (x := .bl r) (y := .bl t))
    unfold Lb.prD at *
    have b0 : sLo_12f_0 [.val (.fls (ns.map .int)), .val (rowD xs), .own (sp s), .val (caseD c r t ls), .no, .val (plD ls), .val (.int k), .val wD, .val (Lb.prD c r t), .val (.int 0), .no, .no, .no, sB, sW, .no] = some (.next [.val (.fls (ns.map .int)), .val (rowD xs), .own (sp s), .val (caseD c r t ls), .no, .val (plD ls), .val (.int k), .val wD, .val (Lb.prD c r t), .val (.int 0), .no, .no, .no, .val (.tup [.bl (!c), .bl r, .bl t]), sW, .no]) := by simp [-DI.ev_storeR, -DI.ev_storeV, -List.map_map, -List.length_take, -List.length_drop, -List.map_take, -List.map_drop, -Int.toNat_sub', DI.andB, DI.orB, DI.andV, DI.orV, DI.isBl, DI.notV, DI.negV, DI.chainB, DI.slcD, DI.tupleD, DI.listD, sLo_12f_0, caseD, set3_0, hB]
    have b1 : sLo_12f_1 [.val (.fls (ns.map .int)), .val (rowD xs), .own (sp s), .val (caseD c r t ls), .no, .val (plD ls), .val (.int k), .val wD, .val (Lb.prD c r t), .val (.int 0), .no, .no, .no, .val (.tup [.bl (!c), .bl r, .bl t]), sW, .no] = some (.next [.val (.fls (ns.map .int)), .val (rowD xs), .own (sp s), .val (caseD c r t ls), .no, .val (plD ls), .val (.int k), .val wD, .val (Lb.prD c r t), .val (.int 0), .no, .no, .no, .val (.tup [.bl (!c), .bl r, .bl t]), sW, .no]) := by simp [-DI.ev_storeR, -DI.ev_storeV, -List.map_map, -List.length_take, -List.length_drop, -List.map_take, -List.map_drop, -Int.toNat_sub', DI.andB, DI.orB, DI.andV, DI.orV, DI.isBl, DI.notV, DI.negV, DI.chainB, DI.slcD, DI.tupleD, DI.listD, sLo_12f_1, tLo_12f_1_0, tLo_12f_1_1, e1, e2, n0, shiftO, eqF, e_eq, caseD, Lb.prD]
    have b2 : sLo_12f_2 [.val (.fls (ns.map .int)), .val (rowD xs), .own (sp s), .val (caseD c r t ls), .no, .val (plD ls), .val (.int k), .val wD, .val (Lb.prD c r t), .val (.int 0), .no, .no, .no, .val (.tup [.bl (!c), .bl r, .bl t]), sW, .no] = some (.next [.val (.fls (ns.map .int)), .val (rowD xs), .own (sp (s + 1)), .val (caseD c r t ls), .no, .val (plD ls), .val (.int k), .val wD, .val (Lb.prD c r t), .val (.int 0), .no, .no, .no, .val (.tup [.bl (!c), .bl r, .bl t]), .val (.tup [wd, .bl r, .bl t]), .no]) := by simp [-DI.ev_storeR, -DI.ev_storeV, -List.map_map, -List.length_take, -List.length_drop, -List.map_take, -List.map_drop, -Int.toNat_sub', DI.andB, DI.orB, DI.andV, DI.orV, DI.isBl, DI.notV, DI.negV, DI.chainB, DI.slcD, DI.tupleD, DI.listD, sLo_12f_2, caseD, set3_0, take_sp hn, ew, hW]
    have b3 : sLo_12f_3 [.val (.fls (ns.map .int)), .val (rowD xs), .own (sp (s + 1)), .val (caseD c r t ls), .no, .val (plD ls), .val (.int k), .val wD, .val (Lb.prD c r t), .val (.int 0), .no, .no, .no, .val (.tup [.bl (!c), .bl r, .bl t]), .val (.tup [wd, .bl r, .bl t]), .no] = some (.next [.val (.fls (ns.map .int)), .val (rowD xs), .own (sp (s + 1)), .val (caseD c r t ls), .no, .val (plD ls), .val (.int k), .val wD, .val (Lb.prD c r t), .val (.int 0), .no, .no, .no, .val (.tup [.bl (!c), .bl r, .bl t]), .val (.tup [wd, .bl r, .bl t]), .no]) := by simp [-DI.ev_storeR, -DI.ev_storeV, -List.map_map, -List.length_take, -List.length_drop, -List.map_take, -List.map_drop, -Int.toNat_sub', DI.andB, DI.orB, DI.andV, DI.orV, DI.isBl, DI.notV, DI.negV, DI.chainB, DI.slcD, DI.tupleD, DI.listD, sLo_12f_3, e3]
    exact (seq_next b0).trans ((seq_next b1).trans ((seq_next b2).trans (seq_nil b3)))
  · refine ⟨[.val (.fls (ns.map .int)), .val (rowD xs), .own (sp s), .val (caseD c r t ls), .no, .val (plD ls), .val (.int k), .val wD, .val (Lb.prD c r t), .val (.int 1), .no, .no, .no, sB, sW, .no], _, st_v (k := 9) (by simpa using hK), .inl ?_, s + 1, .val (.int 1), .val (.tup [.bl c, .bl (!r), .bl t]), .val (.tup [.bl c, wd, .bl t]), rfl, by simp, by simp, by simp⟩
    have e1 := @prInit c (!r) t
    have e2 := @pr_eq c r t c (!r) t
    rw [show (decide (r = !r)) = false by cases r <;> rfl] at e2
    have e3 := fault_pr (pr_bad2 nf (c := c) (y := .bl t))
    unfold Lb.prD at *
    have b0 : sLo_12f_0 [.val (.fls (ns.map .int)), .val (rowD xs), .own (sp s), .val (caseD c r t ls), .no, .val (plD ls), .val (.int k), .val wD, .val (Lb.prD c r t), .val (.int 1), .no, .no, .no, sB, sW, .no] = some (.next [.val (.fls (ns.map .int)), .val (rowD xs), .own (sp s), .val (caseD c r t ls), .no, .val (plD ls), .val (.int k), .val wD, .val (Lb.prD c r t), .val (.int 1), .no, .no, .no, .val (.tup [.bl c, .bl (!r), .bl t]), sW, .no]) := by simp [-DI.ev_storeR, -DI.ev_storeV, -List.map_map, -List.length_take, -List.length_drop, -List.map_take, -List.map_drop, -Int.toNat_sub', DI.andB, DI.orB, DI.andV, DI.orV, DI.isBl, DI.notV, DI.negV, DI.chainB, DI.slcD, DI.tupleD, DI.listD, sLo_12f_0, caseD, set3_1, hB]
    have b1 : sLo_12f_1 [.val (.fls (ns.map .int)), .val (rowD xs), .own (sp s), .val (caseD c r t ls), .no, .val (plD ls), .val (.int k), .val wD, .val (Lb.prD c r t), .val (.int 1), .no, .no, .no, .val (.tup [.bl c, .bl (!r), .bl t]), sW, .no] = some (.next [.val (.fls (ns.map .int)), .val (rowD xs), .own (sp s), .val (caseD c r t ls), .no, .val (plD ls), .val (.int k), .val wD, .val (Lb.prD c r t), .val (.int 1), .no, .no, .no, .val (.tup [.bl c, .bl (!r), .bl t]), sW, .no]) := by simp [-DI.ev_storeR, -DI.ev_storeV, -List.map_map, -List.length_take, -List.length_drop, -List.map_take, -List.map_drop, -Int.toNat_sub', DI.andB, DI.orB, DI.andV, DI.orV, DI.isBl, DI.notV, DI.negV, DI.chainB, DI.slcD, DI.tupleD, DI.listD, sLo_12f_1, tLo_12f_1_0, tLo_12f_1_1, e1, e2, n0, shiftO, eqF, e_eq, caseD, Lb.prD]
    have b2 : sLo_12f_2 [.val (.fls (ns.map .int)), .val (rowD xs), .own (sp s), .val (caseD c r t ls), .no, .val (plD ls), .val (.int k), .val wD, .val (Lb.prD c r t), .val (.int 1), .no, .no, .no, .val (.tup [.bl c, .bl (!r), .bl t]), sW, .no] = some (.next [.val (.fls (ns.map .int)), .val (rowD xs), .own (sp (s + 1)), .val (caseD c r t ls), .no, .val (plD ls), .val (.int k), .val wD, .val (Lb.prD c r t), .val (.int 1), .no, .no, .no, .val (.tup [.bl c, .bl (!r), .bl t]), .val (.tup [.bl c, wd, .bl t]), .no]) := by simp [-DI.ev_storeR, -DI.ev_storeV, -List.map_map, -List.length_take, -List.length_drop, -List.map_take, -List.map_drop, -Int.toNat_sub', DI.andB, DI.orB, DI.andV, DI.orV, DI.isBl, DI.notV, DI.negV, DI.chainB, DI.slcD, DI.tupleD, DI.listD, sLo_12f_2, caseD, set3_1, take_sp hn, ew, hW]
    have b3 : sLo_12f_3 [.val (.fls (ns.map .int)), .val (rowD xs), .own (sp (s + 1)), .val (caseD c r t ls), .no, .val (plD ls), .val (.int k), .val wD, .val (Lb.prD c r t), .val (.int 1), .no, .no, .no, .val (.tup [.bl c, .bl (!r), .bl t]), .val (.tup [.bl c, wd, .bl t]), .no] = some (.next [.val (.fls (ns.map .int)), .val (rowD xs), .own (sp (s + 1)), .val (caseD c r t ls), .no, .val (plD ls), .val (.int k), .val wD, .val (Lb.prD c r t), .val (.int 1), .no, .no, .no, .val (.tup [.bl c, .bl (!r), .bl t]), .val (.tup [.bl c, wd, .bl t]), .no]) := by simp [-DI.ev_storeR, -DI.ev_storeV, -List.map_map, -List.length_take, -List.length_drop, -List.map_take, -List.map_drop, -Int.toNat_sub', DI.andB, DI.orB, DI.andV, DI.orV, DI.isBl, DI.notV, DI.negV, DI.chainB, DI.slcD, DI.tupleD, DI.listD, sLo_12f_3, e3]
    exact (seq_next b0).trans ((seq_next b1).trans ((seq_next b2).trans (seq_nil b3)))
  · refine ⟨[.val (.fls (ns.map .int)), .val (rowD xs), .own (sp s), .val (caseD c r t ls), .no, .val (plD ls), .val (.int k), .val wD, .val (Lb.prD c r t), .val (.int 2), .no, .no, .no, sB, sW, .no], _, st_v (k := 9) (by simpa using hK), .inl ?_, s + 1, .val (.int 2), .val (.tup [.bl c, .bl r, .bl (!t)]), .val (.tup [.bl c, .bl r, wd]), rfl, by simp, by simp, by simp⟩
    have e1 := @prInit c r (!t)
    have e2 := @pr_eq c r t c r (!t)
    rw [show (decide (t = !t)) = false by cases t <;> rfl] at e2
    have e3 := fault_pr (pr_bad3 nf (c := c) (r := r))
    unfold Lb.prD at *
    have b0 : sLo_12f_0 [.val (.fls (ns.map .int)), .val (rowD xs), .own (sp s), .val (caseD c r t ls), .no, .val (plD ls), .val (.int k), .val wD, .val (Lb.prD c r t), .val (.int 2), .no, .no, .no, sB, sW, .no] = some (.next [.val (.fls (ns.map .int)), .val (rowD xs), .own (sp s), .val (caseD c r t ls), .no, .val (plD ls), .val (.int k), .val wD, .val (Lb.prD c r t), .val (.int 2), .no, .no, .no, .val (.tup [.bl c, .bl r, .bl (!t)]), sW, .no]) := by simp [-DI.ev_storeR, -DI.ev_storeV, -List.map_map, -List.length_take, -List.length_drop, -List.map_take, -List.map_drop, -Int.toNat_sub', DI.andB, DI.orB, DI.andV, DI.orV, DI.isBl, DI.notV, DI.negV, DI.chainB, DI.slcD, DI.tupleD, DI.listD, sLo_12f_0, caseD, set3_2, hB]
    have b1 : sLo_12f_1 [.val (.fls (ns.map .int)), .val (rowD xs), .own (sp s), .val (caseD c r t ls), .no, .val (plD ls), .val (.int k), .val wD, .val (Lb.prD c r t), .val (.int 2), .no, .no, .no, .val (.tup [.bl c, .bl r, .bl (!t)]), sW, .no] = some (.next [.val (.fls (ns.map .int)), .val (rowD xs), .own (sp s), .val (caseD c r t ls), .no, .val (plD ls), .val (.int k), .val wD, .val (Lb.prD c r t), .val (.int 2), .no, .no, .no, .val (.tup [.bl c, .bl r, .bl (!t)]), sW, .no]) := by simp [-DI.ev_storeR, -DI.ev_storeV, -List.map_map, -List.length_take, -List.length_drop, -List.map_take, -List.map_drop, -Int.toNat_sub', DI.andB, DI.orB, DI.andV, DI.orV, DI.isBl, DI.notV, DI.negV, DI.chainB, DI.slcD, DI.tupleD, DI.listD, sLo_12f_1, tLo_12f_1_0, tLo_12f_1_1, e1, e2, n0, shiftO, eqF, e_eq, caseD, Lb.prD]
    have b2 : sLo_12f_2 [.val (.fls (ns.map .int)), .val (rowD xs), .own (sp s), .val (caseD c r t ls), .no, .val (plD ls), .val (.int k), .val wD, .val (Lb.prD c r t), .val (.int 2), .no, .no, .no, .val (.tup [.bl c, .bl r, .bl (!t)]), sW, .no] = some (.next [.val (.fls (ns.map .int)), .val (rowD xs), .own (sp (s + 1)), .val (caseD c r t ls), .no, .val (plD ls), .val (.int k), .val wD, .val (Lb.prD c r t), .val (.int 2), .no, .no, .no, .val (.tup [.bl c, .bl r, .bl (!t)]), .val (.tup [.bl c, .bl r, wd]), .no]) := by simp [-DI.ev_storeR, -DI.ev_storeV, -List.map_map, -List.length_take, -List.length_drop, -List.map_take, -List.map_drop, -Int.toNat_sub', DI.andB, DI.orB, DI.andV, DI.orV, DI.isBl, DI.notV, DI.negV, DI.chainB, DI.slcD, DI.tupleD, DI.listD, sLo_12f_2, caseD, set3_2, take_sp hn, ew, hW]
    have b3 : sLo_12f_3 [.val (.fls (ns.map .int)), .val (rowD xs), .own (sp (s + 1)), .val (caseD c r t ls), .no, .val (plD ls), .val (.int k), .val wD, .val (Lb.prD c r t), .val (.int 2), .no, .no, .no, .val (.tup [.bl c, .bl r, .bl (!t)]), .val (.tup [.bl c, .bl r, wd]), .no] = some (.next [.val (.fls (ns.map .int)), .val (rowD xs), .own (sp (s + 1)), .val (caseD c r t ls), .no, .val (plD ls), .val (.int k), .val wD, .val (Lb.prD c r t), .val (.int 2), .no, .no, .no, .val (.tup [.bl c, .bl r, .bl (!t)]), .val (.tup [.bl c, .bl r, wd]), .no]) := by simp [-DI.ev_storeR, -DI.ev_storeV, -List.map_map, -List.length_take, -List.length_drop, -List.map_take, -List.map_drop, -Int.toNat_sub', DI.andB, DI.orB, DI.andV, DI.orV, DI.isBl, DI.notV, DI.negV, DI.chainB, DI.slcD, DI.tupleD, DI.listD, sLo_12f_3, e3]
    exact (seq_next b0).trans ((seq_next b1).trans ((seq_next b2).trans (seq_nil b3)))
theorem a12 (hn : xs ≠ []) : ∃ s' sK sB sW, sLo_12 [.val (.fls (ns.map .int)), .val (rowD xs), .own (sp s), .val (caseD c r t ls), .no, .val (plD ls), .val (.int k), .val wD, .val (Lb.prD c r t), .no, .no, .no, .no, .no, .no, .no] = some (.next [.val (.fls (ns.map .int)), .val (rowD xs), .own (sp s'), .val (caseD c r t ls), .no, .val (plD ls), .val (.int k), .val wD, .val (Lb.prD c r t), sK, .no, .no, .no, sB, sW, .no]) ∧ isPl (some sK) = true ∧ isPl (some sB) = true ∧ isPl (some sW) = true := by
  obtain ⟨ρ', e, s', sK, sB, sW, rfl, hK, hB, hW⟩ := forL_inv (P12k (fun s sK sB sW => [.val (.fls (ns.map .int)), .val (rowD xs), .own (sp s), .val (caseD c r t ls), .no, .val (plD ls), .val (.int k), .val wD, .val (Lb.prD c r t), sK, .no, .no, .no, sB, sW, .no])) (t12 (ns := ns) (c := c) (r := r) (t := t) (ls := ls) (k := k) (wD := wD) hn) (ρ := [.val (.fls (ns.map .int)), .val (rowD xs), .own (sp s), .val (caseD c r t ls), .no, .val (plD ls), .val (.int k), .val wD, .val (Lb.prD c r t), .no, .no, .no, .no, .no, .no, .no]) ⟨s, .no, .no, .no, rfl, by simp, by simp, by simp⟩
  have rok : rngOk 3 = true := by decide
  exact ⟨s', sK, sB, sW, by simp [-DI.ev_storeR, -DI.ev_storeV, -List.map_map, -List.length_take, -List.length_drop, -List.map_take, -List.map_drop, -Int.toNat_sub', DI.andB, DI.orB, DI.andV, DI.orV, DI.isBl, DI.notV, DI.negV, DI.chainB, DI.slcD, DI.tupleD, DI.listD, sLo_12, rok, e], hK, hB, hW⟩
def ends : List D := (rngL 0 17).map fun _ => D.tup [.str ("end" : Str)]
theorem end_len : ends.length = 17 := by
  unfold ends
  rw [List.length_map, rngL_len]
theorem ends_is {mD : D} (hB : isPl (some sB) = true) (hW : isPl (some sW) = true) : lcT (frzD (tupV (consA (frzD (ret (.val (.str ("end" : Str))))) (ret [])))) (ret true) (.name 9) [9] [] (rngL 0 17) [.val (.fls (ns.map .int)), .val (rowD xs), .own (sp s), .val (caseD c r t ls), .no, .val (plD ls), .val (.int k), .val wD, .val mD, .no, .no, .no, .no, sB, sW, .no] = some (ends, [.val (.fls (ns.map .int)), .val (rowD xs), .own (sp s), .val (caseD c r t ls), .no, .val (plD ls), .val (.int k), .val wD, .val mD, .no, .no, .no, .no, sB, sW, .no]) := by
  have e := lcT_map (elt := frzD (tupV (consA (frzD (ret (.val (.str ("end" : Str))))) (ret [])))) (t := .name 9) (ks := [9]) (ρ := [.val (.fls (ns.map .int)), .val (rowD xs), .own (sp s), .val (caseD c r t ls), .no, .val (plD ls), .val (.int k), .val wD, .val mD, .no, .no, .no, .no, sB, sW, .no]) (fun _ => D.tup [.str ("end" : Str)]) (ds := rngL 0 17) (acc := []) (fun d hd => by
    refine ⟨[.val (.fls (ns.map .int)), .val (rowD xs), .ref (sp s), .val (caseD c r t ls), .no, .val (plD ls), .val (.int k), .val wD, .val mD, .val d, .no, .no, .no, sB, sW, .no], [.val (.fls (ns.map .int)), .val (rowD xs), .ref (sp s), .val (caseD c r t ls), .no, .val (plD ls), .val (.int k), .val wD, .val mD, .val d, .no, .no, .no, sB, sW, .no], ?_, ?_, ?_⟩
    · simp [-DI.ev_storeR, -DI.ev_storeV, -List.map_map, -List.length_take, -List.length_drop, -List.map_take, -List.map_drop, -Int.toNat_sub', DI.andB, DI.orB, DI.andV, DI.orV, DI.isBl, DI.notV, DI.negV, DI.chainB, DI.slcD, DI.tupleD, DI.listD, inn_pl hB, inn_pl hW]
    · simp [-DI.ev_storeR, -DI.ev_storeV, -List.map_map, -List.length_take, -List.length_drop, -List.map_take, -List.map_drop, -Int.toNat_sub', DI.andB, DI.orB, DI.andV, DI.orV, DI.isBl, DI.notV, DI.negV, DI.chainB, DI.slcD, DI.tupleD, DI.listD]
    · simp [-DI.ev_storeR, -DI.ev_storeV, -List.map_map, -List.length_take, -List.length_drop, -List.map_take, -List.map_drop, -Int.toNat_sub', DI.andB, DI.orB, DI.andV, DI.orV, DI.isBl, DI.notV, DI.negV, DI.chainB, DI.slcD, DI.tupleD, DI.listD, out_pl hB, out_pl hW]) (by rw [rngL_len]; decide)
  rw [List.nil_append] at e
  exact e
theorem a13 {mD : D} (hn : xs ≠ []) (hK : isPl (some sK) = true) (hB : isPl (some sB) = true) (hW : isPl (some sW) = true) : sLo_13 [.val (.fls (ns.map .int)), .val (rowD xs), .own (sp s), .val (caseD c r t ls), .no, .val (plD ls), .val (.int k), .val wD, .val mD, sK, .no, .no, .no, sB, sW, .no] = some (.next [.val (.fls (ns.map .int)), .val (rowD xs), .own (sp (s + 1)), .val (caseD c r t ls), .no, .val (plD ls), .val (.int k), .val wD, .val mD, sK, .no, .no, .no, sB, sW, .no]) := by
  have t0 := tk_nn (xs := xs) (s := s) (l := 5) (by omega)
  have t1 := tk_lt (xs := xs) (s := s) (l := 5) (by omega)
  have e0 := ends_is (xs := xs) (ns := ns) (s := s) (c := c) (r := r) (t := t) (ls := ls) (k := k) (wD := wD) (mD := mD) hB hW
  have rok : rngOk 17 = true := by decide
  have f0 := fault_value val_non
  have f1 := fault_value (val_len (X := []) (.inl rfl))
  have f2 := fault_value (@val_int 5)
  have f3 := fault_value (@val_str "end")
  have f4 := fault_value (val_len (X := ends) (.inr (by rw [end_len]; decide)))
  have q := @eqD_pair "value" ok_value_ 1 1
  have hh : tk xs s 5 = 0 ∨ tk xs s 5 = 1 ∨ tk xs s 5 = 2 ∨ tk xs s 5 = 3 ∨ tk xs s 5 = 4 := by omega
  rcases hh with h | h | h | h | h
  · simp [-DI.ev_storeR, -DI.ev_storeV, -List.map_map, -List.length_take, -List.length_drop, -List.map_take, -List.map_drop, -Int.toNat_sub', DI.andB, DI.orB, DI.andV, DI.orV, DI.isBl, DI.notV, DI.negV, DI.chainB, DI.slcD, DI.tupleD, DI.listD, sLo_13, rok, hK, e0, take_sp hn, h, f0, q]
  · simp [-DI.ev_storeR, -DI.ev_storeV, -List.map_map, -List.length_take, -List.length_drop, -List.map_take, -List.map_drop, -Int.toNat_sub', DI.andB, DI.orB, DI.andV, DI.orV, DI.isBl, DI.notV, DI.negV, DI.chainB, DI.slcD, DI.tupleD, DI.listD, sLo_13, rok, hK, e0, take_sp hn, h, f1, q]
  · simp [-DI.ev_storeR, -DI.ev_storeV, -List.map_map, -List.length_take, -List.length_drop, -List.map_take, -List.map_drop, -Int.toNat_sub', DI.andB, DI.orB, DI.andV, DI.orV, DI.isBl, DI.notV, DI.negV, DI.chainB, DI.slcD, DI.tupleD, DI.listD, sLo_13, rok, hK, e0, take_sp hn, h, f2, q]
  · simp [-DI.ev_storeR, -DI.ev_storeV, -List.map_map, -List.length_take, -List.length_drop, -List.map_take, -List.map_drop, -Int.toNat_sub', DI.andB, DI.orB, DI.andV, DI.orV, DI.isBl, DI.notV, DI.negV, DI.chainB, DI.slcD, DI.tupleD, DI.listD, sLo_13, rok, hK, e0, take_sp hn, h, f3, q]
  · simp [-DI.ev_storeR, -DI.ev_storeV, -List.map_map, -List.length_take, -List.length_drop, -List.map_take, -List.map_drop, -Int.toNat_sub', DI.andB, DI.orB, DI.andV, DI.orV, DI.isBl, DI.notV, DI.negV, DI.chainB, DI.slcD, DI.tupleD, DI.listD, sLo_13, rok, hK, e0, take_sp hn, h, f4, q]
def bads12 (n : Int) : List D := [.non, .int 5, .tup [], .tup [.str "fly"], .tup [.str "send", .int 1], .tup [.str "go"], .tup [.str "go", .int n], .tup [.str "go", .int (-1)], .tup [.str "go", .bl true], .tup [.str "if", .str "done"], .tup [.str "if", .str "no", .int 0], .tup [.str "if", .str "ok", .int n]]
theorem a14 {mD : D} : sLo_14 [.val (.fls (ns.map .int)), .val (rowD xs), .own (sp s), .val (caseD c r t ls), .no, .val (plD ls), .val (.int k), .val wD, .val mD, sK, .no, .no, .no, sB, sW, .no] = some (.next [.val (.fls (ns.map .int)), .val (rowD xs), .own (sp s), .val (caseD c r t ls), .no, .val (plD ls), .val (.int k), .val wD, .val mD, sK, .own (.lst (bads12 ls.length)), .no, .no, sB, sW, .no]) := by
  simp [-DI.ev_storeR, -DI.ev_storeV, -List.map_map, -List.length_take, -List.length_drop, -List.map_take, -List.map_drop, -Int.toNat_sub', DI.andB, DI.orB, DI.andV, DI.orV, DI.isBl, DI.notV, DI.negV, DI.chainB, DI.slcD, DI.tupleD, DI.listD, sLo_14, caseD, tupL, bads12]
theorem a15 {mD : D} : sLo_15 [.val (.fls (ns.map .int)), .val (rowD xs), .own (sp s), .val (caseD c r t ls), .no, .val (plD ls), .val (.int k), .val wD, .val mD, sK, .own (.lst (bads12 ls.length)), .no, .no, sB, sW, .no] = some (.next [.val (.fls (ns.map .int)), .val (rowD xs), .own (sp s), .val (caseD c r t ls), .no, .val (plD ls), .val (.int k), .val wD, .val mD, sK, .own (.lst (bads ls.length)), .no, .no, sB, sW, .no]) := by
  have e : ∀ n, bads n = bads12 n ++ [.tup [.str "if", .str "ok", .int 0, .int 0], .str "end", .tup [.str "end", .str "end"], .tup [.str "recall", .int 0]] := fun n => rfl
  have hl : ∀ n, (bads12 n).length = 12 := fun n => rfl
  rw [e]
  simp [-DI.ev_storeR, -DI.ev_storeV, -List.map_map, -List.length_take, -List.length_drop, -List.map_take, -List.map_drop, -Int.toNat_sub', DI.andB, DI.orB, DI.andV, DI.orV, DI.isBl, DI.notV, DI.negV, DI.chainB, DI.slcD, DI.tupleD, DI.listD, sLo_15, hl]
theorem bads_at {w : Int} (h0 : 0 ≤ w) (h1 : w < 16) : ∃ b ∈ bads n, L2.atI (bads n) w = some b := by
  have hl : (bads n).length = 16 := rfl
  refine ⟨(bads n)[w.toNat]'(by omega), List.getElem_mem _, atI_in h0 (List.getElem?_eq_getElem _)⟩
theorem a16 {mD : D} (hn : xs ≠ []) (g : Gd c ls) (h : k < ls.length) : ∃ b ∈ bads ls.length, sLo_16 [.val (.fls (ns.map .int)), .val (rowD xs), .own (sp s), .val (caseD c r t ls), .no, .val (plD ls), .val (.int k), .val wD, .val mD, sK, .own (.lst (bads ls.length)), .no, .no, sB, sW, .no] = some (.next [.val (.fls (ns.map .int)), .val (rowD xs), .own (sp (s + 1)), .val (caseD c r t ls), .no, .val (plD ls), .val (.int k), .val wD, .val mD, sK, .own (.lst (bads ls.length)), .val (.tup ((ls.map enc).set k b)), .no, sB, sW, .no]) := by
  obtain ⟨b, hb, e1⟩ := bads_at (n := (ls.length : Int)) (tk_nn (xs := xs) (s := s) (l := 16) (by omega)) (tk_lt (by omega))
  have e2 := set_tup (d := b) h g.hi
  refine ⟨b, hb, ?_⟩
  generalize bads (ls.length : Int) = bb at *
  simp [-DI.ev_storeR, -DI.ev_storeV, -List.map_map, -List.length_take, -List.length_drop, -List.map_take, -List.map_drop, -Int.toNat_sub', DI.andB, DI.orB, DI.andV, DI.orV, DI.isBl, DI.notV, DI.negV, DI.chainB, DI.slcD, DI.tupleD, DI.listD, sLo_16, caseD, take_sp hn, e1, e2]
theorem set_app {A B : List D} {b : D} (hA : A.length = k) : ∀ d : D, ∃ B', (A ++ b :: B).set (k + 1) d = A ++ b :: B' := fun d => by
  rw [List.set_append_right _ _ (by omega), hA, show k + 1 - k = 1 by omega]
  exact ⟨B.set 0 d, rfl⟩
theorem a17 {mD b : D} {bS : Sl} (hn : xs ≠ []) (g : Gd c ls) (h : k < ls.length) : ∃ s' X B, sLo_17 [.val (.fls (ns.map .int)), .val (rowD xs), .own (sp s), .val (caseD c r t ls), .no, .val (plD ls), .val (.int k), .val wD, .val mD, sK, bS, .val (.tup ((ls.map enc).set k b)), .no, sB, sW, .no] = some (.next [.val (.fls (ns.map .int)), .val (rowD xs), .own (sp s'), .val (caseD c r t ls), .no, .val (plD ls), .val (.int k), .val wD, .val mD, sK, bS, .val (.tup X), .no, sB, sW, .no]) ∧ X = (ls.take k).map enc ++ b :: B ∧ X.length = ls.length := by
  have hX : (ls.map enc).set k b = (ls.take k).map enc ++ b :: (ls.drop (k + 1)).map enc := by
    rw [List.set_eq_take_append_cons_drop, if_pos (by simpa using h), List.map_take, List.map_drop]
  have hA : ((ls.take k).map enc).length = k := by simp; omega
  have hlX : ((ls.map enc).set k b).length = ls.length := by simp
  by_cases h1 : k + 1 < ls.length
  · have h1' : (k : Int) < (ls.length : Int) - 1 := by omega
    by_cases h2 : tk xs s 2 = 0
    · obtain ⟨B', e⟩ := set_app (B := (ls.drop (k + 1)).map enc) (b := b) hA .non
      rw [← hX] at e
      have e2 : F__law_set [.val (.tup ((ls.map enc).set k b)), .val (.int ((k : Int) + 1)), .val .non] = some (.ret (.val (.tup (((ls.map enc).set k b).set (k + 1) .non))) []) := by
        have := set_is (X := (ls.map enc).set k b) (k := k + 1) (d := .non) (by rw [hlX]; omega) (by rw [hlX]; have := g.hi; omega)
        rw [show (((k + 1 : Nat) : Int)) = (k : Int) + 1 by omega] at this
        exact this
      refine ⟨s + 1, _, B', ?_, e, by simp⟩
      simp [-DI.ev_storeR, -DI.ev_storeV, -List.map_map, -List.length_take, -List.length_drop, -List.map_take, -List.map_drop, -Int.toNat_sub', DI.andB, DI.orB, DI.andV, DI.orV, DI.isBl, DI.notV, DI.negV, DI.chainB, DI.slcD, DI.tupleD, DI.listD, sLo_17, tLo_17_0, tLo_17_1, qLo_17a, sLo_17a_0, hlX, h1', take_sp hn, h2, e2]
    · exact ⟨s + 1, _, _, by simp [-DI.ev_storeR, -DI.ev_storeV, -List.map_map, -List.length_take, -List.length_drop, -List.map_take, -List.map_drop, -Int.toNat_sub', DI.andB, DI.orB, DI.andV, DI.orV, DI.isBl, DI.notV, DI.negV, DI.chainB, DI.slcD, DI.tupleD, DI.listD, sLo_17, tLo_17_0, tLo_17_1, hlX, h1', take_sp hn, h2], hX, hlX⟩
  · have h1' : ¬ (k : Int) < (ls.length : Int) - 1 := by omega
    exact ⟨s, _, _, by simp [-DI.ev_storeR, -DI.ev_storeV, -List.map_map, -List.length_take, -List.length_drop, -List.map_take, -List.map_drop, -Int.toNat_sub', DI.andB, DI.orB, DI.andV, DI.orV, DI.isBl, DI.notV, DI.negV, DI.chainB, DI.slcD, DI.tupleD, DI.listD, sLo_17, tLo_17_0, tLo_17_1, hlX, h1'], hX, hlX⟩
theorem a18 {mD b : D} {X B : List D} {bS : Sl} (g : Gd c ls) (h : k < ls.length) (hb : b ∈ bads ls.length) (hX : X = (ls.take k).map enc ++ b :: B) (hl : X.length = ls.length) : sLo_18 [.val (.fls (ns.map .int)), .val (rowD xs), .own (sp s), .val (caseD c r t ls), .no, .val (plD ls), .val (.int k), .val wD, .val mD, sK, bS, .val (.tup X), .no, sB, sW, .no] = some (.next [.val (.fls (ns.map .int)), .val (rowD xs), .own (sp s), .val (caseD c r t ls), .no, .val (plD ls), .val (.int k), .val wD, .val mD, sK, bS, .val (.tup X), .no, sB, sW, .no]) := by
  have lo := g.lo
  have hA : ((ls.take k).map enc).length = k := by simp; omega
  have e1 := fault_line (po_exc (Of.tup X) (by rw [hl]; exact g.lo) (by rw [hl]; exact g.hi) hX (fun d hd => by
    obtain ⟨l, hl', rfl⟩ := List.mem_map.mp hd
    rw [hl]
    exact line_ok (g.ok l (List.mem_of_mem_take hl'))) (by rw [hl]; exact bad_is (by omega) b hb))
  rw [hA] at e1
  have q := @eqD_pair "line" ok_line_ (k : Int) (k : Int)
  simp [-DI.ev_storeR, -DI.ev_storeV, -List.map_map, -List.length_take, -List.length_drop, -List.map_take, -List.map_drop, -Int.toNat_sub', DI.andB, DI.orB, DI.andV, DI.orV, DI.isBl, DI.notV, DI.negV, DI.chainB, DI.slcD, DI.tupleD, DI.listD, sLo_18, e1, q]
def lasts : List Ln := [.add, .send, .ifk 0, .wait, .note]
theorem lasts_at {w : Int} (h0 : 0 ≤ w) (h1 : w < 5) : ∃ z ∈ lasts, L2.atI [D.tup [.str ("add" : Str)], .tup [.str ("send" : Str)], .tup [.str ("if" : Str), .str ("ok" : Str), .int 0], .tup [.str ("wait" : Str)], .tup [.str ("note" : Str)]] w = some (enc z) := by
  have : w = 0 ∨ w = 1 ∨ w = 2 ∨ w = 3 ∨ w = 4 := by omega
  rcases this with rfl | rfl | rfl | rfl | rfl
  · exact ⟨.add, by decide, rfl⟩
  · exact ⟨.send, by decide, rfl⟩
  · exact ⟨.ifk 0, by decide, rfl⟩
  · exact ⟨.wait, by decide, rfl⟩
  · exact ⟨.note, by decide, rfl⟩
theorem lasts_ok {z : Ln} (h : z ∈ lasts) (hn : 0 < n) : z.ok n c ∧ z.last = false := by
  simp only [lasts, List.mem_cons, List.not_mem_nil, or_false] at h
  rcases h with rfl | rfl | rfl | rfl | rfl
  · exact ⟨trivial, rfl⟩
  · exact ⟨trivial, rfl⟩
  · exact ⟨⟨by omega, hn⟩, rfl⟩
  · exact ⟨trivial, rfl⟩
  · exact ⟨trivial, rfl⟩
theorem a19 {mD : D} {X : List D} {bS : Sl} (hn : xs ≠ []) : ∃ z ∈ lasts, sLo_19 [.val (.fls (ns.map .int)), .val (rowD xs), .own (sp s), .val (caseD c r t ls), .no, .val (plD ls), .val (.int k), .val wD, .val mD, sK, bS, .val (.tup X), .no, sB, sW, .no] = some (.next [.val (.fls (ns.map .int)), .val (rowD xs), .own (sp (s + 1)), .val (caseD c r t ls), .no, .val (plD ls), .val (.int k), .val wD, .val mD, sK, bS, .val (.tup X), .val (enc z), sB, sW, .no]) := by
  obtain ⟨z, hz, e⟩ := lasts_at (tk_nn (xs := xs) (s := s) (l := 5) (by omega)) (tk_lt (by omega))
  exact ⟨z, hz, by simp [-DI.ev_storeR, -DI.ev_storeV, -List.map_map, -List.length_take, -List.length_drop, -List.map_take, -List.map_drop, -Int.toNat_sub', DI.andB, DI.orB, DI.andV, DI.orV, DI.isBl, DI.notV, DI.negV, DI.chainB, DI.slcD, DI.tupleD, DI.listD, sLo_19, take_sp hn, e]⟩
theorem a20 {mD : D} {X : List D} {bS : Sl} {z : Ln} (g : Gd c ls) (hz : z ∈ lasts) : sLo_20 [.val (.fls (ns.map .int)), .val (rowD xs), .own (sp s), .val (caseD c r t ls), .no, .val (plD ls), .val (.int k), .val wD, .val mD, sK, bS, .val (.tup X), .val (enc z), sB, sW, .no] = some (.ret (.val (.bl true)) [.val (.fls (ns.map .int)), .val (rowD xs), .own (sp s), .val (caseD c r t ls), .no, .val (plD ls), .val (.int k), .val wD, .val mD, sK, bS, .val (.tup X), .val (enc z), sB, sW, .no]) := by
  have lo := g.lo
  have hi := g.hi
  obtain ⟨ok, hlast⟩ := lasts_ok (c := c) (n := (ls.length : Int)) hz (by omega)
  have hk : (ls.length : Int) - 1 = ((ls.length - 1 : Nat) : Int) := by omega
  have e1 : F__law_set [.val (tupL ls), .val (.int ((ls.length : Int) - 1)), .val (enc z)] = some (.ret (.val (tupL (ls.set (ls.length - 1) z))) []) := by
    rw [hk]
    exact set_enc (by omega) hi
  have hl : ((ls.set (ls.length - 1) z).map enc).length = ls.length := by simp
  have e2 := fault_line (po_last (z := z) (dz := enc z) (Of.tup ((ls.set (ls.length - 1) z).map enc)) (by rw [hl]; omega) (by rw [hl]; omega) (fun d hd => by
    obtain ⟨l, hl', rfl⟩ := List.mem_map.mp hd
    rw [hl]
    rcases List.mem_or_eq_of_mem_set hl' with h1 | rfl
    · exact line_ok (g.ok l h1)
    · exact line_ok ok) (by rw [hl, List.getElem?_map, List.getElem?_set_self (by omega)]; rfl) (.inl rfl) hlast)
  rw [hl] at e2
  have q := @eqD_pair "line" ok_line_ ((ls.length : Int) - 1) ((ls.length : Int) - 1)
  have e2' : F__law_plan_fault [.val (tupL (ls.set (ls.length - 1) z))] = _ := e2
  have c1 := case_1 (c := c) (r := r) (t := t) (ls := ls)
  have el : lenD (tupL ls) = some (.val (.int ls.length)) := by unfold tupL; simp
  unfold tupL at *
  simp [-DI.ev_storeR, -DI.ev_storeV, -List.map_map, -List.length_take, -List.length_drop, -List.map_take, -List.map_drop, -Int.toNat_sub', DI.andB, DI.orB, DI.andV, DI.orV, DI.isBl, DI.notV, DI.negV, DI.chainB, DI.slcD, DI.tupleD, DI.listD, -List.map_set, sLo_20, caseD, tupL, e1, e2', q]
theorem semF_ret {n tot : Nat} {bd : SDen} {as : List DI.Arg} {r : RV} {ρ' : Rho} {outs : List (Nat × M)} (hl : as.length = n) (h : bd (as.map DI.Arg.sl ++ List.replicate (tot - n) .no) = some (.ret r ρ')) (ho : outsAt 0 as ρ' = some outs) : semF n tot bd as = some (.ret r outs) := by
  simp [hl, h, ho]
theorem law_is (ns : List Int) : F_law [.val (.fls (ns.map .int))] = some (.ret (.val (.bl true)) []) := by
  have hn := numP_ne ns
  obtain ⟨s1, c, r, t, ls, e2, g⟩ := a2 (ns := ns) hn
  obtain ⟨k, e7, hk⟩ := a7 (ns := ns) (s := s1) (r := r) (t := t) hn g
  obtain ⟨s2, sK, sB, sW, e12, hK, hB, hW⟩ := a12 (ns := ns) (s := s1 + 1) (c := c) (r := r) (t := t) (ls := ls) (k := k) (wD := enc (otP (lnAt ls k))) hn
  obtain ⟨b, hb, e16⟩ := a16 (ns := ns) (s := s2 + 1) (r := r) (t := t) (wD := enc (otP (lnAt ls k))) (sK := sK) (sB := sB) (sW := sW) (mD := Lb.prD c r t) hn g hk
  obtain ⟨s3, X, B, e17, hX, hl⟩ := a17 (ns := ns) (s := s2 + 1 + 1) (r := r) (t := t) (wD := enc (otP (lnAt ls k))) (sK := sK) (sB := sB) (sW := sW) (mD := Lb.prD c r t) (b := b) (bS := .own (.lst (bads ls.length))) hn g hk
  obtain ⟨z, hz, e19⟩ := a19 (ns := ns) (s := s3) (c := c) (r := r) (t := t) (ls := ls) (k := k) (wD := enc (otP (lnAt ls k))) (sK := sK) (sB := sB) (sW := sW) (mD := Lb.prD c r t) (X := X) (bS := .own (.lst (bads ls.length))) hn
  have q := show qLo [.val (.fls (ns.map .int)), .no, .no, .no, .no, .no, .no, .no, .no, .no, .no, .no, .no, .no, .no, .no] = some (.ret _ _) from
    (seq_next a0).trans ((seq_next a1).trans ((seq_next e2).trans ((seq_next (a3 g)).trans ((seq_next (a4 g)).trans ((seq_next (a5 g)).trans ((seq_next (a6 g)).trans ((seq_next e7).trans ((seq_next (a8 g hk)).trans ((seq_next (a9 g hk)).trans ((seq_next a10).trans ((seq_next a11).trans ((seq_next e12).trans ((seq_next (a13 hn hK hB hW)).trans ((seq_next a14).trans ((seq_next a15).trans ((seq_next e16).trans ((seq_next e17).trans ((seq_next (a18 g hk hb hX hl)).trans ((seq_next e19).trans (seq_ret (a20 g hz)))))))))))))))))))))
  unfold F_law
  rw [c_law_cut]
  exact semF_ret rfl q rfl
end
end Q01
set_option maxRecDepth 100000
set_option maxHeartbeats 0
namespace Q01
open PySem PySem.Spec PyProof.Rows L2 DI He Lb
theorem facts {P : Program} {w : World} {K : PySem.W.Frag} {h : Heap} {mg : Str → Option Value} {fa' : Addr} (kin : K.In h) (G : h.Ns mainGlobals mg) (hfa : mg ("law" : Str) = some (.ref fa')) (c : SaysC fa fn prs exB K) :
    ∃ fd : FuncData, (∀ (s : Shared) (v : Value), BindsTo s fd ⟨[v], []⟩ [("script", v)]) ∧ ∀ base : Heap, K.In base → base.Ns mainGlobals mg → FnOk P w K mg base CX0 10 fa' fd ["script"] (spLaw K) := by
  have e := hfa.symm.trans (glob_of kin G c (by decide +kernel))
  cases e
  obtain ⟨fd, b, F⟩ := law_fact (P := P) (w := w) kin G c
  exact ⟨fd, b, fun base _ _ => law_endT (K := KC K) (F base) law_is⟩
end Q01
open PySem PySem.W PySem.Calls PyProof.Rows
theorem PySem.Challenge.cw_pagesonce_k01_printers_and_plans_as_give_holds : PySem.Challenge.rw_pagesonce_k01_printers_and_plans_as_give.Holds := by
  w_on; o_law
  refine HandSHeadRun.head_any (r := OpenLaw.row PySem.Challenge.rw_pagesonce_k01_printers_and_plans_as_give) (q := view (OpenLaw.row PySem.Challenge.rw_pagesonce_k01_printers_and_plans_as_give).prog [32]) (H := Q01.hk) (ob := Q01.ob) (M := 6000) (loose := Q01.loose) (d := HandSHeadRun.topDef (OpenLaw.row PySem.Challenge.rw_pagesonce_k01_printers_and_plans_as_give).prog 32) (kwd := []) Q01.ob_eq
    (by kernel_rfl) (fun s => by kernel_rfl) Q01.run (by kernel_rfl) (by kernel_rfl) (by kernel_rfl) (by rfl) (by first | assumption | decide +kernel) (by decide +kernel) ⟨rfl, rfl, rfl, rfl, rfl, by decide +kernel⟩ ?hw ?hc
  case hw => w_witness2
  case hc =>
    refine L2.walk_ofE (l := PySem.Challenge.rw_pagesonce_k01_printers_and_plans_as_give) (n := 63) (k := 10) (x := "script") (CX := L2.CX0) rfl (by decide) (by kernel_rfl) ⟨rfl, by decide, by decide⟩ ?F (fun _ _ _ _ z => z)
    intro w mg fa' h Y G hmg0
    obtain ⟨K, kin, c⟩ := Y
    have hmg : mg ("law" : PySem.Str) = some (.ref fa') := by
      have e : (HandSHeadRun.topDef (OpenLaw.row PySem.Challenge.rw_pagesonce_k01_printers_and_plans_as_give).prog 32).name = ("law" : PySem.Str) := by kernel_rfl
      rw [← e]
      exact hmg0
    obtain ⟨fd, hb, hF⟩ := Q01.facts (P := (PySem.Challenge.rw_pagesonce_k01_printers_and_plans_as_give).prog) (w := w) kin G hmg c
    exact ⟨K, fd, DI.spLaw K, kin, hb, fun H a ns hl _ hS => ⟨a, ns, rfl, hS, fun _ => rfl⟩, hF⟩
