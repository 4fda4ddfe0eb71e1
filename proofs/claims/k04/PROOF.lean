import PyProof.Rows.All
import Wide.All
import OpenK.AllK
import Wide.FinOn
import OpenK.KOwn
import KE.KExcLine
import HandS.EndBits
import HandS.ForMost
import HandS.ForExc
import HandS.CallSlots
import HandS.Gcd
import HandS.Wide
import HandS.Style
import HandS.StrMore
import HandS.FStr
import HandS.IsInst
import HandS.Property
import HandS.Defaults
import HandS.MakeKw
import HandS.ExcCtx
import HandS.WordsExc
import HandS.ClsMeth
import KE.KOpsOwn
import HandS.SlotsOwn
import HandS.Zip
import HandS.OwnEq
import PyProof.MeetsIn
import HandS.ExcInit
import HandS.Hot
import HandS.HotCalls
import PyProof.TupleIter
import HandS.Comp
import HandS.RaiseOp
import HandS.ExcField
import HandS.TupAny
import HandS.Dict
import HandS.Text
import HandS.RaiseMore
import PyProof.InstNe
import PyProof.FactsAll.object_2
import PySem.Challenge.RW_tandems_k04_parts_and_backwards
set_option Elab.async false
set_option linter.all false
set_option maxRecDepth 100000
set_option maxHeartbeats 2000000
/-! TL0: values as trees, what is shared and what is one's own; readings by functions of trees -/
namespace TL
open PySem PySem.Spec PyProof.Rows L2

/-- a value as a tree -/
inductive D where
  | non | bl (b : Bool) | int (i : Int) | str (x : Str) | ty (n : String) | at_ (n : Nat)
  | lst (xs : List D) | tup (xs : List D) | obj (c : Nat) (fs : List D) | part (c : Nat) (fs : List D)
  | dic (ks : List Key) (vs : List D)
  deriving Inhabited

/-- own classes and defs as values, classes of instances, their fields -/
structure Tb where
  K : PySem.W.Frag
  at_ : Nat → Addr
  cl : Nat → Addr
  fl : Nat → List Str

mutual
def Rep (T : Tb) (F : Hp) : D → V → Prop
  | .non, v => v = .non
  | .bl b, v => v = .bl b
  | .int i, v => v = .int i
  | .str x, v => v = .str x
  | .ty n, v => v = .ty n
  | .at_ n, v => v = .ref (T.at_ n)
  | .lst ds, v => ∃ a vs, v = .ref a ∧ F a = some (.lst vs) ∧ RepL T F ds vs
  | .tup ds, v => ∃ a vs, v = .ref a ∧ SqT T.K F a vs ∧ RepL T F ds vs
  | .obj c ds, v => ∃ a dx vs, v = .ref a ∧ F a = some (.ins (T.cl c) dx ((T.fl c).zip vs)) ∧ vs.length = (T.fl c).length ∧ RepL T F ds vs
  | .part _ ds, v => ∃ a vs, v = .ref a ∧ SqL T.K F a vs ∧ RepL T F ds vs
  | .dic ks ds, v => ∃ a od vs, v = .ref a ∧ F a = some (.frz od (.dK (ks.zip vs))) ∧ vs.length = ks.length ∧ RepL T F ds vs
def RepL (T : Tb) (F : Hp) : List D → List V → Prop
  | [], vs => vs = []
  | d :: ds, vs => ∃ v r, vs = v :: r ∧ Rep T F d v ∧ RepL T F ds r
end

abbrev Env := List (Option D)
abbrev Ad := Addr → Prop

/-- own trees: P of each item, their addresses apart -/
def OwnL (P : D → V → Ad → Prop) : List D → List V → Ad → Prop
  | [], vs, fp => vs = [] ∧ ∀ a, ¬ fp a
  | d :: ds, vs, fp => ∃ v r f1 f2, vs = v :: r ∧ (∀ a, fp a ↔ f1 a ∨ f2 a) ∧ (∀ a, f1 a → f2 a → False) ∧ P d v f1 ∧ OwnL P ds r f2

/-- shared; one's own, with what is in it; an instance in the making; a caught exception at a, its dict at dd -/
inductive Mode where
  | sh | own (m : Mode) | part | exc (a dd : Nat) | prt (m : Mode)
  deriving DecidableEq
instance : Inhabited Mode := ⟨.sh⟩
def Mode.ok : Mode → Bool
  | .sh => true
  | .own m => m.ok
  | .part => false
  | .exc _ _ => false
  | .prt _ => false

def Own (T : Tb) (F H : Hp) : Mode → D → V → Ad → Prop
  | .sh, d, v, fp => (∀ a, ¬ fp a) ∧ Rep T F d v
  | .own m, .lst ds, v, fp => ∃ a vs R, v = .ref a ∧ H a = some (.lst vs) ∧ ¬ R a ∧ (∀ b, fp b ↔ b = a ∨ R b) ∧ OwnL (Own T F H m) ds vs R
  | .own m, .obj c ds, v, fp => ∃ a dx vs R, v = .ref a ∧ H a = some (.ins (T.cl c) dx ((T.fl c).zip vs)) ∧ ¬ R a ∧ (∀ b, fp b ↔ b = a ∨ R b) ∧ vs.length = (T.fl c).length ∧ OwnL (Own T F H m) ds vs R
  | .own _, _, _, _ => False
  | .part, .part c ds, v, fp => ∃ a dx vs, v = .ref a ∧ H a = some (.ins (T.cl c) dx ((T.fl c).zip vs)) ∧ (∀ b, fp b ↔ b = a) ∧ vs.length ≤ (T.fl c).length ∧ RepL T F ds vs
  | .part, _, _, _ => False
  | .prt m, .part c ds, v, fp => ∃ a dx vs R, v = .ref a ∧ H a = some (.ins (T.cl c) dx ((T.fl c).zip vs)) ∧ ¬ R a ∧ (∀ b, fp b ↔ b = a ∨ R b) ∧ vs.length ≤ (T.fl c).length ∧ OwnL (Own T F H m) ds vs R
  | .prt _, _, _, _ => False
  | .exc a dd, d, v, fp => v = .ref a ∧ (∀ b, ¬ fp b) ∧ ∃ f g u, d = .part 0 [.str f, g] ∧ F dd = some (.xd [(f, u)]) ∧ Rep T F g u

section
variable {T : Tb} {F F' H H' : Hp}

theorem sqL_mono {K : PySem.W.Frag} {a : Addr} {vs : List V} (g : Same F F') (h : SqL K F a vs) : SqL K F' a vs := g.seq h
theorem sqT_mono {K : PySem.W.Frag} {a : Addr} {vs : List V} (g : Same F F') (h : SqT K F a vs) : SqT K F' a vs := by
  rcases h with (h | ⟨o, h⟩) | h
  · exact .inl (.inl (g _ _ h))
  · exact .inl (.inr ⟨o, g _ _ h⟩)
  · exact .inr h

mutual
theorem Rep.mono (g : Same F F') : ∀ {d : D} {v : V}, Rep T F d v → Rep T F' d v
  | .non, _, h => h
  | .bl _, _, h => h
  | .int _, _, h => h
  | .str _, _, h => h
  | .ty _, _, h => h
  | .at_ _, _, h => h
  | .lst ds, v, h => by
    unfold Rep at h ⊢
    obtain ⟨a, vs, e, q, r⟩ := h
    exact ⟨a, vs, e, g _ _ q, RepL.mono g r⟩
  | .tup ds, v, h => by
    unfold Rep at h ⊢
    obtain ⟨a, vs, e, q, r⟩ := h
    exact ⟨a, vs, e, sqT_mono g q, RepL.mono g r⟩
  | .obj c ds, v, h => by
    unfold Rep at h ⊢
    obtain ⟨a, dx, vs, e, q, l, r⟩ := h
    exact ⟨a, dx, vs, e, g _ _ q, l, RepL.mono g r⟩
  | .part c ds, v, h => by
    unfold Rep at h ⊢
    obtain ⟨a, vs, e, q, r⟩ := h
    exact ⟨a, vs, e, sqL_mono g q, RepL.mono g r⟩
  | .dic ks ds, v, h => by
    unfold Rep at h ⊢
    obtain ⟨a, od, vs, e, q, l, r⟩ := h
    exact ⟨a, od, vs, e, g _ _ q, l, RepL.mono g r⟩
theorem RepL.mono (g : Same F F') : ∀ {ds : List D} {vs : List V}, RepL T F ds vs → RepL T F' ds vs
  | [], _, h => h
  | d :: ds, vs, h => by
    unfold RepL at h ⊢
    obtain ⟨v, r, e, q, t⟩ := h
    exact ⟨v, r, e, Rep.mono g q, RepL.mono g t⟩
end

theorem OwnL.imp {P P' : D → V → Ad → Prop} : ∀ {ds : List D} {vs : List V} {fp : Ad}, OwnL P ds vs fp → (∀ d v f, (∀ a, f a → fp a) → P d v f → P' d v f) → OwnL P' ds vs fp
  | [], _, _, h, _ => h
  | d :: ds, vs, fp, ⟨v, r, f1, f2, e, hf, dj, p, t⟩, k => ⟨v, r, f1, f2, e, hf, dj, k d v f1 (fun a h => (hf a).mpr (.inl h)) p, OwnL.imp t fun d v f hs => k d v f fun a h => (hf a).mpr (.inr (hs a h))⟩

theorem Own.mono (g : Same F F') : ∀ {n : Mode} {d : D} {v : V} {fp : Ad}, (∀ a, fp a → H' a = H a) → Own T F H n d v fp → Own T F' H' n d v fp
  | .sh, d, v, fp, _, h => ⟨h.1, Rep.mono g h.2⟩
  | .own n, d, v, fp, k, h => by
    cases d with
    | lst ds =>
      unfold Own at h ⊢
      obtain ⟨a, vs, R, e, q, na, hf, o⟩ := h
      exact ⟨a, vs, R, e, by rw [k a ((hf a).mpr (.inl rfl))]; exact q, na, hf, o.imp fun d v f hs p => Own.mono g (fun a ha => k a ((hf a).mpr (.inr (hs a ha)))) p⟩
    | obj c ds =>
      unfold Own at h ⊢
      obtain ⟨a, dx, vs, R, e, q, na, hf, l, o⟩ := h
      exact ⟨a, dx, vs, R, e, by rw [k a ((hf a).mpr (.inl rfl))]; exact q, na, hf, l, o.imp fun d v f hs p => Own.mono g (fun a ha => k a ((hf a).mpr (.inr (hs a ha)))) p⟩
    | _ => exact h.elim
  | .part, d, v, fp, k, h => by
    cases d with
    | part c ds =>
      unfold Own at h ⊢
      obtain ⟨a, dx, vs, e, q, hf, l, o⟩ := h
      exact ⟨a, dx, vs, e, by rw [k a ((hf a).mpr rfl)]; exact q, hf, l, RepL.mono g o⟩
    | _ => exact h.elim
  | .prt n, d, v, fp, k, h => by
    cases d with
    | part c ds =>
      unfold Own at h ⊢
      obtain ⟨a, dx, vs, R, e, q, na, hf, l, o⟩ := h
      exact ⟨a, dx, vs, R, e, by rw [k a ((hf a).mpr (.inl rfl))]; exact q, na, hf, l, o.imp fun d v f hs p => Own.mono g (fun a ha => k a ((hf a).mpr (.inr (hs a ha)))) p⟩
    | _ => exact h.elim
  | .exc a dd, d, v, fp, k, h => by
    unfold Own at h ⊢
    obtain ⟨e, n, f, x, u, ed, q, r⟩ := h
    exact ⟨e, n, f, x, u, ed, g _ _ q, Rep.mono g r⟩

open Classical in
/-- the shared part with what was one's own -/
noncomputable def frz (F H : Hp) (P : Ad) : Hp := fun a => if P a then H a else F a
theorem frz_in {P : Ad} {a : Addr} (h : P a) : frz F H P a = H a := by unfold frz; rw [if_pos h]
theorem frz_out {P : Ad} {a : Addr} (h : ¬ P a) : frz F H P a = F a := by unfold frz; rw [if_neg h]
theorem frz_same {P : Ad} (off : ∀ a, P a → F a = none) : Same F (frz F H P) := fun b o h => by
  by_cases hp : P b
  · rw [off b hp] at h; cases h
  · rw [frz_out hp]; exact h
theorem frz_up {P P' : Ad} (s : ∀ a, P a → P' a) (hF : ∀ a o, F a = some o → H a = some o) : Same (frz F H P) (frz F H P') := fun b o h => by
  by_cases hp : P b
  · rw [frz_in hp] at h; rw [frz_in (s b hp)]; exact h
  · rw [frz_out hp] at h
    by_cases hp' : P' b
    · rw [frz_in hp']; exact hF b o h
    · rw [frz_out hp']; exact h

theorem OwnL.rep {P : D → V → Ad → Prop} : ∀ {ds : List D} {vs : List V} {fp : Ad}, OwnL P ds vs fp → (∀ d v f, (∀ a, f a → fp a) → P d v f → Rep T F d v) → RepL T F ds vs
  | [], _, _, h, _ => by unfold RepL; exact h.1
  | d :: ds, vs, fp, ⟨v, r, f1, f2, e, hf, dj, p, t⟩, k => by
    unfold RepL
    exact ⟨v, r, e, k d v f1 (fun a h => (hf a).mpr (.inl h)) p, OwnL.rep t fun d v f hs => k d v f fun a h => (hf a).mpr (.inr (hs a h))⟩

/-- what is one's own is shared from now on -/
theorem Own.freeze (sub : ∀ a o, F a = some o → H a = some o) : ∀ {n : Mode} {d : D} {v : V} {fp : Ad}, n.ok = true → (∀ a, fp a → F a = none) → Own T F H n d v fp → Rep T (frz F H fp) d v
  | .sh, d, v, fp, _, off, h => Rep.mono (frz_same off) h.2
  | .part, d, v, fp, hm, _, _ => by cases hm
  | .exc _ _, d, v, fp, hm, _, _ => by cases hm
  | .prt _, d, v, fp, hm, _, _ => by cases hm
  | .own n, d, v, fp, hm, off, h => by
    have items : ∀ {R : Ad} {ds : List D} {vs : List V}, (∀ b, R b → fp b) → OwnL (Own T F H n) ds vs R → RepL T (frz F H fp) ds vs := by
      intro R ds vs hR o
      refine o.rep fun d v f hs p => ?_
      exact Rep.mono (frz_up (fun a ha => hR a (hs a ha)) sub) (Own.freeze (n := n) sub hm (fun a ha => off a (hR a (hs a ha))) p)
    cases d with
    | lst ds =>
      unfold Own at h; unfold Rep
      obtain ⟨a, vs, R, e, q, na, hf, o⟩ := h
      exact ⟨a, vs, e, by rw [frz_in ((hf a).mpr (.inl rfl))]; exact q, items (fun b hb => (hf b).mpr (.inr hb)) o⟩
    | obj c ds =>
      unfold Own at h; unfold Rep
      obtain ⟨a, dx, vs, R, e, q, na, hf, l, o⟩ := h
      exact ⟨a, dx, vs, e, by rw [frz_in ((hf a).mpr (.inl rfl))]; exact q, l, items (fun b hb => (hf b).mpr (.inr hb)) o⟩
    | _ => exact h.elim
end

/-! ### a state: the slots' trees -/
structure Good (T : Tb) (ms : List Mode) (env : Env) (σ : L2.St) (H F : Hp) (fp : Nat → Ad) : Prop where
  len : env.length = σ.length
  sub : Same F H
  slot : ∀ i d, env[i]? = some (some d) → ∃ v, σ[i]? = some (some v) ∧ Own T F H (ms.getD i .sh) d v (fp i)
  dis : ∀ i j a, i ≠ j → fp i a → fp j a → False
  off : ∀ i a, fp i a → F a = none ∧ H a ≠ none
abbrev All (fp : Nat → Ad) : Ad := fun a => ∃ i, fp i a
/-- what happens to heap and shared part, where P is one's own ahead of it, P' behind it -/
structure Step (H F : Hp) (P : Ad) (H' F' : Hp) (P' : Ad) : Prop where
  keep : ∀ b o, H b = some o → ¬ P b → H' b = some o
  grow : Same F F'
  new : ∀ b, F' b ≠ none → F b ≠ none ∨ H b = none ∨ P b
  fpn : ∀ b, P' b → P b ∨ H b = none
theorem Step.refl {H F : Hp} {P : Ad} : Step H F P H F P := ⟨fun _ _ h _ => h, Same.refl _, fun _ h => .inl h, fun _ h => .inl h⟩
theorem Step.trans {H F H1 F1 H2 F2 : Hp} {P P1 P2 : Ad} (a : Step H F P H1 F1 P1) (b : Step H1 F1 P1 H2 F2 P2) : Step H F P H2 F2 P2 where
  keep := fun c o h n => b.keep c o (a.keep c o h n) fun p => (a.fpn c p).elim n fun z => by rw [z] at h; cases h
  grow := a.grow.trans b.grow
  new := fun c h => by
    have lift : H1 c = none → H c = none ∨ P c := fun z => by
      by_cases p : P c
      · exact .inr p
      · cases q : H c with
        | none => exact .inl rfl
        | some o => rw [a.keep c o q p] at z; cases z
    rcases b.new c h with q | q | q
    · exact a.new c q
    · exact .inr (lift q)
    · rcases a.fpn c q with z | z
      · exact .inr (.inr z)
      · exact .inr (.inl z)
  fpn := fun c h => by
    rcases b.fpn c h with q | q
    · exact a.fpn c q
    · by_cases p : P c
      · exact .inl p
      · cases z : H c with
        | none => exact .inr rfl
        | some o => rw [a.keep c o z p] at q; cases q
theorem Step.less {H F H' F' : Hp} {P P' P'' : Ad} (s : Step H F P H' F' P') (h : ∀ b, P'' b → P' b) : Step H F P H' F' P'' := ⟨s.keep, s.grow, s.new, fun b hb => s.fpn b (h b hb)⟩
/-- .. where less was one's own ahead of it -/
theorem Step.more {H F H' F' : Hp} {P P' R : Ad} (s : Step H F P H' F' P') (h : ∀ b, P b → R b) : Step H F R H' F' P' :=
  ⟨fun b o e n => s.keep b o e fun p => n (h b p), s.grow, fun b e => (s.new b e).imp id (Or.imp id (h b)), fun b e => (s.fpn b e).imp (h b) id⟩

/-- an error: its class, its field -/
structure Ex where
  cls : Nat
  fld : Option (Str × D)
inductive Res (α : Type) where
  | ok (env : Env) (a : α)
  | err (env : Env) (x : Ex)
  | stuck
def Res.bind {α β : Type} : Res α → (Env → α → Res β) → Res β
  | .ok env a, f => f env a
  | .err env x, _ => .err env x
  | .stuck, _ => .stuck
@[simp] theorem Res.bind_ok {α β : Type} (env : Env) (a : α) (f : Env → α → Res β) : (Res.ok env a).bind f = f env a := rfl
@[simp] theorem Res.bind_err {α β : Type} (env : Env) (x : Ex) (f : Env → α → Res β) : (Res.err env x : Res α).bind f = .err env x := rfl
@[simp] theorem Res.bind_stuck {α β : Type} (f : Env → α → Res β) : (Res.stuck : Res α).bind f = .stuck := rfl
abbrev G := Env → Res D

def ErrRep (T : Tb) (F : Hp) (x : Ex) (cv : Value) (dd : Option Addr) : Prop :=
  cv = .ref (T.cl x.cls) ∧ match x.fld with
    | none => dd = none
    | some (f, g) => ∃ a v, dd = some a ∧ F a = some (.xd [(f, v)]) ∧ Rep T F g v

abbrev WX' := WX
def OutErr (T : Tb) (ms : List Mode) (W : WX) (σ : L2.St) (H F : Hp) (fp : Nat → Ad) (env' : Env) (x : Ex) : Prop :=
  ∀ H' F' fp' cv dd, Step H F (All fp) H' F' (All fp') → Good T ms env' σ H' F' fp' → ErrRep T F' x cv dd → W cv dd σ H'
/-- what is to be shown of a state whose reading is r: the value is shared -/
def Out (T : Tb) (ms : List Mode) (W : WX) (σ : L2.St) (H F : Hp) (fp : Nat → Ad) (Q : VK) : Res D → Prop
  | .ok env' d => ∀ H' F' fp' v, Step H F (All fp) H' F' (All fp') → Good T ms env' σ H' F' fp' → Rep T F' d v → Q v H'
  | .err env' x => OutErr T ms W σ H F fp env' x
  | .stuck => False
/-- .. the value is one's own -/
def OutP (T : Tb) (ms : List Mode) (k : Mode) (W : WX) (σ : L2.St) (H F : Hp) (fp : Nat → Ad) (Q : VK) : Res D → Prop
  | .ok env' d => ∀ H' F' fp' v (fv : Ad), Step H F (All fp) H' F' (fun a => All fp' a ∨ fv a) → Good T ms env' σ H' F' fp' → Own T F' H' k d v fv → (∀ a, fv a → F' a = none ∧ H' a ≠ none) → (∀ i a, fp' i a → fv a → False) → Q v H'
  | .err env' x => OutErr T ms W σ H F fp env' x
  | .stuck => False
/-- readings by functions of trees -/
def tS (T : Tb) (W : WX) (ms : List Mode) (g : G) : TE := fun σ H Q => ∃ F env fp, Good T ms env σ H F fp ∧ Out T ms W σ H F fp Q (g env)
def tP (T : Tb) (W : WX) (ms : List Mode) (k : Mode) (g : G) : TE := fun σ H Q => ∃ F env fp, Good T ms env σ H F fp ∧ OutP T ms k W σ H F fp Q (g env)
abbrev SE (X : Cx) (T : Tb) (W : WX) (ms : List Mode) (e : Expr) (g : G) : Prop := PE X e (tS T W ms g)
abbrev SP' (X : Cx) (T : Tb) (W : WX) (ms : List Mode) (k : Mode) (e : Expr) (g : G) : Prop := PE X e (tP T W ms k g)
theorem PE.imp {X : Cx} {e : Expr} {t u : TE} (h : PE X e t) (i : ∀ σ H Q, u σ H Q → t σ H Q) : PE X e u := ⟨fun pins s σ H Q I q => h.run pins s σ H Q I (i σ H Q q)⟩

section
variable {T : Tb} {ms : List Mode} {k : Mode} {W : WX} {σ : L2.St} {H F : Hp} {fp : Nat → Ad} {env : Env}
theorem OutErr.step {H1 F1 : Hp} {fp1 : Nat → Ad} {env' : Env} {x : Ex} (h : OutErr T ms W σ H F fp env' x) (s : Step H F (All fp) H1 F1 (All fp1)) : OutErr T ms W σ H1 F1 fp1 env' x :=
  fun H' F' fp' cv dd s' g e => h H' F' fp' cv dd (s.trans s') g e
theorem Out.step {Q : VK} {r : Res D} {H1 F1 : Hp} {fp1 : Nat → Ad} (h : Out T ms W σ H F fp Q r) (s : Step H F (All fp) H1 F1 (All fp1)) : Out T ms W σ H1 F1 fp1 Q r := by
  cases r with
  | ok env' d => exact fun H' F' fp' v s' g e => h H' F' fp' v (s.trans s') g e
  | err env' x => exact OutErr.step h s
  | stuck => exact h
theorem OutP.step {Q : VK} {r : Res D} {H1 F1 : Hp} {fp1 : Nat → Ad} (h : OutP T ms k W σ H F fp Q r) (s : Step H F (All fp) H1 F1 (All fp1)) : OutP T ms k W σ H1 F1 fp1 Q r := by
  cases r with
  | ok env' d => exact fun H' F' fp' v fv s' g e => h H' F' fp' v fv (s.trans s') g e
  | err env' x => exact OutErr.step h s
  | stuck => exact h
theorem Out.mono {Q Q' : VK} {r : Res D} (h : Out T ms W σ H F fp Q r) (q : ∀ v H, Q v H → Q' v H) : Out T ms W σ H F fp Q' r := by
  cases r with
  | ok env' d => exact fun H' F' fp' v s' g e => q _ _ (h H' F' fp' v s' g e)
  | err env' x => exact h
  | stuck => exact h
/-- one reading behind another one -/
theorem Out.bind {Q Q' : VK} {r : Res D} {f : Env → D → Res D} (h : Out T ms W σ H F fp Q (r.bind f))
    (q : ∀ env1 d H1 F1 fp1 v, Good T ms env1 σ H1 F1 fp1 → Rep T F1 d v → Out T ms W σ H1 F1 fp1 Q (f env1 d) → Q' v H1) : Out T ms W σ H F fp Q' r := by
  cases r with
  | ok env' d => exact fun H1 F1 fp1 v s1 g1 e1 => q env' d H1 F1 fp1 v g1 e1 (Out.step h s1)
  | err env' x => exact h
  | stuck => exact h
theorem OutP.bind {Q Q' : VK} {r : Res D} {f : Env → D → Res D} (h : OutP T ms k W σ H F fp Q (r.bind f))
    (q : ∀ env1 d H1 F1 fp1 v, Good T ms env1 σ H1 F1 fp1 → Rep T F1 d v → OutP T ms k W σ H1 F1 fp1 Q (f env1 d) → Q' v H1) : Out T ms W σ H F fp Q' r := by
  cases r with
  | ok env' d => exact fun H1 F1 fp1 v s1 g1 e1 => q env' d H1 F1 fp1 v g1 e1 (OutP.step h s1)
  | err env' x => exact h
  | stuck => exact h
/-- what is one's own behind an expression, shared -/
theorem OutP.of_out {Q : VK} {r : Res D} (hk : k.ok = true) (h : Out T ms W σ H F fp Q r) : OutP T ms k W σ H F fp Q r := by
  cases r with
  | err env' x => exact h
  | stuck => exact h
  | ok env' d =>
    intro H' F' fp' v fv s g o off dis
    refine h H' (frz F' H' fv) fp' v ⟨s.keep, s.grow.trans (frz_same fun a ha => (off a ha).1), fun b hb => ?_, fun b hb => s.fpn b (.inl hb)⟩ ⟨g.len, ?_, fun i d e => ?_, g.dis, fun i a ha => ⟨?_, (g.off i a ha).2⟩⟩ (o.freeze g.sub hk fun a ha => (off a ha).1)
    · by_cases hp : fv b
      · rcases s.fpn b (.inr hp) with z | z
        · exact .inr (.inr z)
        · exact .inr (.inl z)
      · rw [frz_out hp] at hb; exact s.new b hb
    · intro b o hb
      by_cases hp : fv b
      · rw [frz_in hp] at hb; exact hb
      · rw [frz_out hp] at hb; exact g.sub b o hb
    · obtain ⟨v, e1, o1⟩ := g.slot i d e
      exact ⟨v, e1, o1.mono (frz_same fun a ha => (off a ha).1) fun _ _ => rfl⟩
    · by_cases hp : fv a
      · exact (dis i a ha hp).elim
      · rw [frz_out hp]; exact (g.off i a ha).1
theorem SP'.sh {X : Cx} {e : Expr} {g : G} (hk : k.ok = true) (h : SP' X T W ms k e g) : SE X T W ms e g :=
  PE.imp h fun _ _ _ ⟨F, env, fp, a, b⟩ => ⟨F, env, fp, a, OutP.of_out hk b⟩
end
end TL

set_option Elab.async false
set_option linter.all false
set_option maxRecDepth 100000
set_option maxHeartbeats 2000000
namespace TL
open PySem PySem.Spec PyProof.Rows L2

/-! ### what a step leaves -/
structure Ext0 (H F H' F' : Hp) : Prop where
  keep : Same H H'
  grow : Same F F'
  new : ∀ b, F' b ≠ none → F b ≠ none ∨ H b = none
  sub : Same F' H'
theorem Ext0.refl {H F : Hp} (s : Same F H) : Ext0 H F H F := ⟨Same.refl _, Same.refl _, fun _ h => .inl h, s⟩
theorem Ext0.trans {H F H1 F1 H2 F2 : Hp} (a : Ext0 H F H1 F1) (b : Ext0 H1 F1 H2 F2) : Ext0 H F H2 F2 :=
  ⟨a.keep.trans b.keep, a.grow.trans b.grow, fun c h => (b.new c h).elim (a.new c) fun z => .inr (a.keep.free z), b.sub⟩
/-- a new object, shared -/
theorem Ext0.alloc {H F : Hp} {p : Addr} {o : HO} (s : Same F H) (hp : H p = none) : Ext0 H F (upd H p o) (upd F p o) := by
  have fp : F p = none := s.free hp
  refine ⟨fun b u h => by rw [upd_ne (ne_of_none h hp)]; exact h, fun b u h => by rw [upd_ne (ne_of_none h fp)]; exact h, fun b h => ?_, fun b u h => ?_⟩
  · by_cases e : b = p
    · subst e; exact .inr hp
    · rw [upd_ne e] at h; exact .inl h
  · by_cases e : b = p
    · subst e; rw [upd_same] at h ⊢; exact h
    · rw [upd_ne e] at h ⊢; exact s b u h
/-- a new object that nobody shares -/
theorem Ext0.allocP {H F : Hp} {p : Addr} {o : HO} (s : Same F H) (hp : H p = none) : Ext0 H F (upd H p o) F :=
  ⟨fun b u h => by rw [upd_ne (ne_of_none h hp)]; exact h, Same.refl _, fun b h => .inl h, fun b u h => by rw [upd_ne (ne_of_none (s b u h) hp)]; exact s b u h⟩

section
variable {T : Tb} {ms : List Mode} {k : Mode} {W : WX} {σ : L2.St} {H F H' F' : Hp} {fp : Nat → Ad} {env : Env}
theorem Good.ext (g : Good T ms env σ H F fp) (e : Ext0 H F H' F') : Good T ms env σ H' F' fp := by
  refine ⟨g.len, e.sub, fun i d h => ?_, g.dis, fun i a h => ?_⟩
  · obtain ⟨v, e1, o⟩ := g.slot i d h
    refine ⟨v, e1, o.mono e.grow fun a ha => ?_⟩
    cases q : H a with
    | none => exact ((g.off i a ha).2 q).elim
    | some u => rw [e.keep a u q]
  · obtain ⟨h1, h2⟩ := g.off i a h
    refine ⟨?_, fun z => h2 (e.keep.free z)⟩
    cases q : F' a with
    | none => rfl
    | some u => exact ((e.new a (by rw [q]; exact fun z => nomatch z)).elim (fun z => z h1) fun z => h2 z).elim
theorem Ext0.step (e : Ext0 H F H' F') (g : Good T ms env σ H F fp) : Step H F (All fp) H' F' (All fp) :=
  ⟨fun b o h _ => e.keep b o h, e.grow, fun b h => (e.new b h).imp id .inl, fun b h => .inl h⟩
/-- a shared value behind a step -/
theorem Out.fin {Q : VK} {d : D} {v : V} (o : Out T ms W σ H F fp Q (.ok env d)) (g : Good T ms env σ H F fp) (e : Ext0 H F H' F') (r : Rep T F' d v) : Q v H' :=
  o H' F' fp v (e.step g) (g.ext e) r
/-- one's own, new behind a step -/
theorem OutP.fin {Q : VK} {d : D} {v : V} {fv : Ad} (o : OutP T ms k W σ H F fp Q (.ok env d)) (g : Good T ms env σ H F fp) (e : Ext0 H F H' F') (r : Own T F' H' k d v fv) (hn : ∀ a, fv a → H a = none ∧ F' a = none ∧ H' a ≠ none) : Q v H' :=
  o H' F' fp v fv ⟨fun b o h _ => e.keep b o h, e.grow, fun b h => (e.new b h).imp id .inl, fun b h => h.elim .inl fun z => .inr (hn b z).1⟩ (g.ext e) r (fun a ha => (hn a ha).2) fun i a h1 h2 => (g.off i a h1).2 (hn a h2).1
end

/-! ### results -/
def Res.ofO {α : Type} (env : Env) : Option α → Res α
  | some d => .ok env d
  | none => .stuck
@[simp] theorem Res.ofO_some {α : Type} (env : Env) (d : α) : Res.ofO env (some d) = .ok env d := rfl
@[simp] theorem Res.ofO_none {α : Type} (env : Env) : (Res.ofO env none : Res α) = .stuck := rfl

/-! ### names and constants -/
def gC (d : D) : G := fun env => .ok env d
def gVar (i : Nat) : G := fun env => match env[i]? with
  | some (some d) => .ok env d
  | _ => .stuck
section
variable {X : Cx} {T : Tb} {ms : List Mode} {W : WX} {e a b c : Expr} {pos : Pos} {ga gb gc g : G}
theorem se_c {v : V} {d : D} (h : PE X e (tC v)) (r : ∀ F, Rep T F d v) : SE X T W ms e (gC d) :=
  PE.imp h fun σ H Q ⟨F, env, fp, g, o⟩ => Out.fin o g (Ext0.refl g.sub) (r F)
theorem se_int {i j pos} : SE X T W ms (.Constant (.int i) j pos) (gC (.int i)) := se_c pe_int fun _ => rfl
theorem se_bl {b j pos} : SE X T W ms (.Constant (.bool b) j pos) (gC (.bl b)) := se_c pe_bl fun _ => rfl
theorem se_non {j pos} : SE X T W ms (.Constant .none j pos) (gC .non) := se_c pe_non fun _ => rfl
theorem se_str {x j pos} : SE X T W ms (.Constant (.str x) j pos) (gC (.str x)) := se_c pe_str fun _ => rfl
theorem se_glob {x : Str} {v : V} {u : Value} {d : D} (hg : Gl X x) (hm : X.mg x = some u) (r : RelV v u) (rd : ∀ F, Rep T F d v) (hd : (x == ("__debug__" : Str)) = false := by decide) : SE X T W ms (.Name x pos) (gC d) := se_c (pe_glob hg hm r hd) rd
theorem se_var (i : Nat) {x : Str} (hm : ms.getD i .sh = .sh := by rfl) (hN : X.N[i]? = some x := by rfl) (hv : Vis X.env.scope x := by first | exact Or.inl rfl | exact Or.inr (Or.inl rfl) | exact Or.inr (Or.inr rfl))
    (hd : (x == ("__debug__" : Str)) = false := by decide) (hcd : (x == ("__classdict__" : Str)) = false := by decide) : SE X T W ms (.Name x pos) (gVar i) :=
  PE.imp (pe_var hN hv hd hcd) fun σ H Q ⟨F, env, fp, g, o⟩ => by
    unfold gVar at o
    split at o
    · rename_i d h
      obtain ⟨v, e1, ow⟩ := g.slot i d h
      rw [hm] at ow
      exact ⟨v, e1, Out.fin o g (Ext0.refl g.sub) ow.2⟩
    · exact o.elim

/-! ### operators by values -/
def rS2 (T : Tb) (h : D → D → Option D) : R2 := fun x y H Q => ∃ F dx dy d, Same F H ∧ Rep T F dx x ∧ Rep T F dy y ∧ h dx dy = some d ∧ ∀ H' F' v, Ext0 H F H' F' → Rep T F' d v → Q v H'
def rS1 (T : Tb) (h : D → Option D) : V → Hp → VK → Prop := fun x H Q => ∃ F dx d, Same F H ∧ Rep T F dx x ∧ h dx = some d ∧ ∀ H' F' v, Ext0 H F H' F' → Rep T F' d v → Q v H'
abbrev OpS (X : Cx) (T : Tb) (f : Value → Value → Sem Value) (h : D → D → Option D) : Prop := OpR X f (rS2 T h)
abbrev UnS (X : Cx) (T : Tb) (f : Value → Sem Value) (h : D → Option D) : Prop := UnR X f (rS1 T h)
theorem OpR.imp {f : Value → Value → Sem Value} {r r' : R2} (h : OpR X f r) (i : ∀ x y H Q, r' x y H Q → r x y H Q) : OpR X f r' := fun pins s σ H x y v u Q I rx ry q => h pins s σ H x y v u Q I rx ry (i x y H Q q)
theorem UnR.imp {f : Value → Sem Value} {r r' : V → Hp → VK → Prop} (h : UnR X f r) (i : ∀ x H Q, r' x H Q → r x H Q) : UnR X f r' := fun pins s σ H x v Q I rx q => h pins s σ H x v Q I rx (i x H Q q)
/-- one rule where it tells, else the other one -/
def alt (h h' : D → D → Option D) : D → D → Option D := fun x y => match h x y with
  | some d => some d
  | none => h' x y
theorem OpS.or {f : Value → Value → Sem Value} {h h' : D → D → Option D} (a : OpS X T f h) (b : OpS X T f h') : OpS X T f (alt h h') :=
  OpR.imp (L2.OpR.or (X := X) a b) fun x y H Q ⟨F, dx, dy, d, s, rx, ry, e, q⟩ => by
    unfold alt at e
    split at e
    · rename_i d' e'
      cases e
      exact .inl ⟨F, dx, dy, d, s, rx, ry, e', q⟩
    · exact .inr ⟨F, dx, dy, d, s, rx, ry, e, q⟩
def g2 (h : D → D → Option D) (ga gb : G) : G := fun env => (ga env).bind fun env1 x => (gb env1).bind fun env2 y => .ofO env2 (h x y)
def g1 (h : D → Option D) (ga : G) : G := fun env => (ga env).bind fun env1 x => .ofO env1 (h x)
theorem out_g2 {h : D → D → Option D} {σ : L2.St} {H : Hp} {Q : VK} (w : tS T W ms (g2 h ga gb) σ H Q) : tOp (rS2 T h) (tS T W ms ga) (tS T W ms gb) σ H Q := by
  obtain ⟨F, env, fp, g, o⟩ := w
  refine ⟨F, env, fp, g, Out.bind o fun env1 x H1 F1 fp1 v g1 r1 o1 => ?_⟩
  refine ⟨F1, env1, fp1, g1, ?_⟩
  have o1' : Out T ms W σ H1 F1 fp1 Q ((gb env1).bind fun env2 y => .ofO env2 (h x y)) := o1
  cases q : gb env1 with
  | ok env2 y =>
    rw [q] at o1'
    intro H2 F2 fp2 u s2 g2 r2
    have o2 : Out T ms W σ H2 F2 fp2 Q (.ofO env2 (h x y)) := Out.step o1' s2
    cases hd : h x y with
    | none => rw [hd] at o2; exact o2.elim
    | some d =>
      rw [hd] at o2
      exact ⟨F2, x, y, d, g2.sub, r1.mono s2.grow, r2, hd, fun H' F' v e r => Out.fin o2 g2 e r⟩
  | err env2 x => rw [q] at o1'; exact o1'
  | stuck => rw [q] at o1'; exact o1'
theorem se_op {op : Operator} {h : D → D → Option D} (ho : OpS X T (binaryOp op) h) (ha : SE X T W ms a ga) (hb : SE X T W ms b gb) : SE X T W ms (.BinOp a op b pos) (g2 h ga gb) :=
  PE.imp (pe_op ho ha hb) fun _ _ _ w => out_g2 w
theorem se_cmp {op : CmpOp} {h : D → D → Option D} (ho : OpS X T (compareOp op) h) (ha : SE X T W ms a ga) (hb : SE X T W ms b gb) (hm : behindInMarks op b = false := by rfl) : SE X T W ms (.Compare a [op] [b] pos) (g2 h ga gb) :=
  PE.imp (pe_cmpR ho ha hb hm) fun _ _ _ w => out_g2 w
theorem out_g1 {h : D → Option D} {σ : L2.St} {H : Hp} {Q : VK} (w : tS T W ms (g1 h ga) σ H Q) : tUn (rS1 T h) (tS T W ms ga) σ H Q := by
  obtain ⟨F, env, fp, g, o⟩ := w
  refine ⟨F, env, fp, g, Out.bind o fun env1 x H1 F1 fp1 v g1 r1 o1 => ?_⟩
  cases hd : h x with
  | none =>
    have o1' : Out T ms W σ H1 F1 fp1 Q (.ofO env1 (h x)) := o1
    rw [hd] at o1'; exact o1'.elim
  | some d =>
    have o1' : Out T ms W σ H1 F1 fp1 Q (.ofO env1 (h x)) := o1
    rw [hd] at o1'
    exact ⟨F1, x, d, g1.sub, r1, hd, fun H' F' v e r => Out.fin o1' g1 e r⟩
theorem se_un {op : UnaryOp} {h : D → Option D} (ho : UnS X T (unaryOp op) h) (ha : SE X T W ms a ga) : SE X T W ms (.UnaryOp op a pos) (g1 h ga) :=
  PE.imp (pe_un ho ha) fun _ _ _ w => out_g1 w

/-! ### ints -/
def iI (f : Int → Int → D) : D → D → Option D
  | .int i, .int j => some (f i j)
  | _, _ => none
def iC (C : Int → Int → Bool) (f : Int → Int → D) : D → D → Option D
  | .int i, .int j => if C i j then some (f i j) else none
  | _, _ => none
theorem ops_int {f : Value → Value → Sem Value} {gv : Int → Int → V} {gd : Int → Int → D} (h : OpR X f (rI0 gv)) (hr : ∀ i j F, Rep T F (gd i j) (gv i j)) : OpS X T f (iI gd) :=
  OpR.imp h fun x y H Q ⟨F, dx, dy, d, s, rx, ry, e, q⟩ => by
    unfold iI at e
    split at e
    · rename_i i j
      cases e
      exact ⟨i, j, rx, ry, q H F _ (Ext0.refl s) (hr i j F)⟩
    · cases e
theorem ops_intC {f : Value → Value → Sem Value} {C : Int → Int → Prop} {Cb : Int → Int → Bool} {gv : Int → Int → V} {gd : Int → Int → D} (h : OpR X f (rI C gv)) (hc : ∀ i j, Cb i j = true → C i j) (hr : ∀ i j F, Rep T F (gd i j) (gv i j)) : OpS X T f (iC Cb gd) :=
  OpR.imp h fun x y H Q ⟨F, dx, dy, d, s, rx, ry, e, q⟩ => by
    unfold iC at e
    split at e
    · rename_i i j
      split at e
      · rename_i hcb
        cases e
        exact ⟨i, j, rx, ry, hc i j hcb, q H F _ (Ext0.refl s) (hr i j F)⟩
      · cases e
    · cases e
end
end TL

set_option Elab.async false
set_option linter.all false
set_option maxRecDepth 100000
set_option maxHeartbeats 2000000
namespace TL
open PySem PySem.Spec PyProof.Rows L2
section
variable {X : Cx} {T : Tb} {ms : List Mode} {W : WX} {e a b c : Expr} {pos : Pos} {ga gb gc g : G}

/-! ### tests -/
abbrev GT := Env → Res Bool
def OutT (T : Tb) (ms : List Mode) (W : WX) (σ : L2.St) (H F : Hp) (fp : Nat → Ad) (Q : Bool → Hp → Prop) : Res Bool → Prop
  | .ok env' c => ∀ H' F' fp', Step H F (All fp) H' F' (All fp') → Good T ms env' σ H' F' fp' → Q c H'
  | .err env' x => OutErr T ms W σ H F fp env' x
  | .stuck => False
def tT (T : Tb) (W : WX) (ms : List Mode) (g : GT) : TT := fun σ H Q => ∃ F env fp, Good T ms env σ H F fp ∧ OutT T ms W σ H F fp Q (g env)
abbrev ST (X : Cx) (T : Tb) (W : WX) (ms : List Mode) (e : Expr) (g : GT) : Prop := PT X e (tT T W ms g)
abbrev SW (X : Cx) (T : Tb) (W : WX) (ms : List Mode) (e : Expr) (g : GT) : Prop := PW X e (tT T W ms g)
theorem PT.imp {e : Expr} {t u : TT} (h : PT X e t) (i : ∀ σ H Q, u σ H Q → t σ H Q) : PT X e u := ⟨fun pins s σ H Q I q => h.run pins s σ H Q I (i σ H Q q)⟩
theorem PW.imp {e : Expr} {t u : TT} (h : PW X e t) (i : ∀ σ H Q, u σ H Q → t σ H Q) : PW X e u := ⟨fun wh pins s σ H Q I q => h.run wh pins s σ H Q I (i σ H Q q)⟩
theorem OutT.step {σ : L2.St} {H F H1 F1 : Hp} {fp fp1 : Nat → Ad} {Q : Bool → Hp → Prop} {r : Res Bool} (h : OutT T ms W σ H F fp Q r) (s : Step H F (All fp) H1 F1 (All fp1)) : OutT T ms W σ H1 F1 fp1 Q r := by
  cases r with
  | ok env' d => exact fun H' F' fp' s' g => h H' F' fp' (s.trans s') g
  | err env' x => exact OutErr.step h s
  | stuck => exact h
def gTest (g : G) : GT := fun env => (g env).bind fun env1 d => match d with
  | .bl c => .ok env1 c
  | _ => .stuck
theorem out_test {σ : L2.St} {H : Hp} {Q : Bool → Hp → Prop} (w : tT T W ms (gTest g) σ H Q) : tB (tS T W ms g) σ H Q := by
  obtain ⟨F, env, fp, gd, o⟩ := w
  refine ⟨F, env, fp, gd, ?_⟩
  unfold gTest at o
  cases q : g env with
  | ok env1 d =>
    rw [q] at o
    intro H1 F1 fp1 v s1 g1 r1
    cases d with
    | bl c => exact ⟨c, r1, o H1 F1 fp1 s1 g1⟩
    | _ => exact o.elim
  | err env1 x => rw [q] at o; exact o
  | stuck => rw [q] at o; exact o
theorem st_val (h : SE X T W ms e g) (he : ∀ whole, isTrue e X.env whole = (do let v ← whole; standAt e.pos; holding [v] (truthy v)) := by intro _; rfl) : ST X T W ms e (gTest g) :=
  PT.imp (pt_val h he) fun _ _ _ w => out_test w
theorem st_cmp {op : CmpOp} {h : D → D → Option D} (ho : OpS X T (compareOp op) h) (ha : SE X T W ms a ga) (hb : SE X T W ms b gb) (hm : behindInMarks op b = false := by rfl) : ST X T W ms (.Compare a [op] [b] pos) (gTest (g2 h ga gb)) :=
  PT.imp (pt_cmpR ho ha hb hm) fun σ H Q w => by
    have z := out_test w
    unfold tB at z
    unfold tTest
    exact out_g2 z
def gAnd (t u : GT) : GT := fun env => (t env).bind fun env1 c => if c then u env1 else .ok env1 false
def gOr (t u : GT) : GT := fun env => (t env).bind fun env1 c => if c then .ok env1 true else u env1
def gNot (t : GT) : GT := fun env => (t env).bind fun env1 c => .ok env1 (!c)
theorem outT_bind {σ : L2.St} {H F : Hp} {fp : Nat → Ad} {Q Q' : Bool → Hp → Prop} {r : Res Bool} {f : Env → Bool → Res Bool} (h : OutT T ms W σ H F fp Q (r.bind f))
    (q : ∀ env1 d H1 F1 fp1, Good T ms env1 σ H1 F1 fp1 → OutT T ms W σ H1 F1 fp1 Q (f env1 d) → Q' d H1) : OutT T ms W σ H F fp Q' r := by
  cases r with
  | ok env' d => exact fun H1 F1 fp1 s1 g1 => q env' d H1 F1 fp1 g1 (OutT.step h s1)
  | err env' x => exact h
  | stuck => exact h
theorem outT_fin {σ : L2.St} {H F : Hp} {fp : Nat → Ad} {Q : Bool → Hp → Prop} {env : Env} {c : Bool} (o : OutT T ms W σ H F fp Q (.ok env c)) (g : Good T ms env σ H F fp) : Q c H := o H F fp Step.refl g
variable {ta tb : GT} {rest : List Expr}
theorem sw_and1 (ha : ST X T W ms a ta) : SW X T W ms (.BoolOp .And [a] pos) ta := pw_and1 ha
theorem sw_or1 (ha : ST X T W ms a ta) : SW X T W ms (.BoolOp .Or [a] pos) ta := pw_or1 ha
theorem sw_and (ha : ST X T W ms a ta) (hb : SW X T W ms (.BoolOp .And (b :: rest) pos) tb) : SW X T W ms (.BoolOp .And (a :: b :: rest) pos) (gAnd ta tb) :=
  PW.imp (pw_and ha hb) fun σ H Q ⟨F, env, fp, g, o⟩ => ⟨F, env, fp, g, outT_bind o fun env1 c H1 F1 fp1 g1 o1 => by
    cases c with
    | true => exact iteT ⟨F1, env1, fp1, g1, o1⟩
    | false => exact iteF (outT_fin o1 g1)⟩
theorem sw_or (ha : ST X T W ms a ta) (hb : SW X T W ms (.BoolOp .Or (b :: rest) pos) tb) : SW X T W ms (.BoolOp .Or (a :: b :: rest) pos) (gOr ta tb) :=
  PW.imp (pw_or ha hb) fun σ H Q ⟨F, env, fp, g, o⟩ => ⟨F, env, fp, g, outT_bind o fun env1 c H1 F1 fp1 g1 o1 => by
    cases c with
    | true => exact iteT (outT_fin o1 g1)
    | false => exact iteF ⟨F1, env1, fp1, g1, o1⟩⟩
theorem st_not (ha : ST X T W ms a ta) : ST X T W ms (.UnaryOp .Not a pos) (gNot ta) :=
  PT.imp (pt_not ha) fun σ H Q ⟨F, env, fp, g, o⟩ => ⟨F, env, fp, g, outT_bind o fun env1 c H1 F1 fp1 g1 o1 => outT_fin o1 g1⟩
/-! .. as values (bools) -/
def gAndV (ga gb : G) : G := fun env => (ga env).bind fun env1 d => match d with
  | .bl true => gb env1
  | .bl false => .ok env1 (.bl false)
  | _ => .stuck
def gOrV (ga gb : G) : G := fun env => (ga env).bind fun env1 d => match d with
  | .bl true => .ok env1 (.bl true)
  | .bl false => gb env1
  | _ => .stuck
def gNotV (ga : G) : G := fun env => (ga env).bind fun env1 d => match d with
  | .bl c => .ok env1 (.bl (!c))
  | _ => .stuck
theorem se_and (ha : SE X T W ms a ga) (hb : SE X T W ms (.BoolOp .And (b :: rest) pos) gb) : SE X T W ms (.BoolOp .And (a :: b :: rest) pos) (gAndV ga gb) :=
  PE.imp (pe_and ha hb) fun σ H Q ⟨F, env, fp, g, o⟩ => ⟨F, env, fp, g, Out.bind o fun env1 d H1 F1 fp1 v g1 r1 o1 => by
    cases d with
    | bl c =>
      refine ⟨c, r1, ?_⟩
      cases c with
      | true => exact iteT ⟨F1, env1, fp1, g1, o1⟩
      | false => exact iteF (Out.fin o1 g1 (Ext0.refl g1.sub) rfl)
    | _ => exact o1.elim⟩
theorem se_or (ha : SE X T W ms a ga) (hb : SE X T W ms (.BoolOp .Or (b :: rest) pos) gb) : SE X T W ms (.BoolOp .Or (a :: b :: rest) pos) (gOrV ga gb) :=
  PE.imp (pe_or ha hb) fun σ H Q ⟨F, env, fp, g, o⟩ => ⟨F, env, fp, g, Out.bind o fun env1 d H1 F1 fp1 v g1 r1 o1 => by
    cases d with
    | bl c =>
      refine ⟨c, r1, ?_⟩
      cases c with
      | true => exact iteT (Out.fin o1 g1 (Ext0.refl g1.sub) rfl)
      | false => exact iteF ⟨F1, env1, fp1, g1, o1⟩
    | _ => exact o1.elim⟩
theorem se_one {op} (h : SE X T W ms a ga) : SE X T W ms (.BoolOp op [a] pos) ga := pe_one h
theorem se_not (ha : SE X T W ms a ga) : SE X T W ms (.UnaryOp .Not a pos) (gNotV ga) :=
  PE.imp (pe_not ha) fun σ H Q ⟨F, env, fp, g, o⟩ => ⟨F, env, fp, g, Out.bind o fun env1 d H1 F1 fp1 v g1 r1 o1 => by
    cases d with
    | bl c => exact ⟨c, r1, Out.fin o1 g1 (Ext0.refl g1.sub) rfl⟩
    | _ => exact o1.elim⟩
/-- a if t else b -/
def gIfE {α : Type} (t : GT) (ga gb : Env → Res α) : Env → Res α := fun env => (t env).bind fun env1 c => if c then ga env1 else gb env1
theorem Out.bindT {σ : L2.St} {H F : Hp} {fp : Nat → Ad} {Q : VK} {Q' : Bool → Hp → Prop} {r : Res Bool} {f : Env → Bool → Res D} (h : Out T ms W σ H F fp Q (r.bind f))
    (q : ∀ env1 d H1 F1 fp1, Good T ms env1 σ H1 F1 fp1 → Out T ms W σ H1 F1 fp1 Q (f env1 d) → Q' d H1) : OutT T ms W σ H F fp Q' r := by
  cases r with
  | ok env' d => exact fun H1 F1 fp1 s1 g1 => q env' d H1 F1 fp1 g1 (Out.step h s1)
  | err env' x => exact h
  | stuck => exact h
theorem OutP.bindT {k : Mode} {σ : L2.St} {H F : Hp} {fp : Nat → Ad} {Q : VK} {Q' : Bool → Hp → Prop} {r : Res Bool} {f : Env → Bool → Res D} (h : OutP T ms k W σ H F fp Q (r.bind f))
    (q : ∀ env1 d H1 F1 fp1, Good T ms env1 σ H1 F1 fp1 → OutP T ms k W σ H1 F1 fp1 Q (f env1 d) → Q' d H1) : OutT T ms W σ H F fp Q' r := by
  cases r with
  | ok env' d => exact fun H1 F1 fp1 s1 g1 => q env' d H1 F1 fp1 g1 (OutP.step h s1)
  | err env' x => exact h
  | stuck => exact h
theorem se_ife {t : GT} (hc : ST X T W ms c t) (ha : SE X T W ms a ga) (hb : SE X T W ms b gb) : SE X T W ms (.IfExp c a b pos) (gIfE t ga gb) :=
  PE.imp (pe_ifExp hc ha hb) fun σ H Q ⟨F, env, fp, g, o⟩ => ⟨F, env, fp, g, Out.bindT o fun env1 c H1 F1 fp1 g1 o1 => by
    cases c with
    | true => exact iteT ⟨F1, env1, fp1, g1, o1⟩
    | false => exact iteF ⟨F1, env1, fp1, g1, o1⟩⟩
theorem sp_ife {k : Mode} {t : GT} (hc : ST X T W ms c t) (ha : SP' X T W ms k a ga) (hb : SP' X T W ms k b gb) : SP' X T W ms k (.IfExp c a b pos) (gIfE t ga gb) :=
  PE.imp (pe_ifExp hc ha hb) fun σ H Q ⟨F, env, fp, g, o⟩ => ⟨F, env, fp, g, OutP.bindT o fun env1 c H1 F1 fp1 g1 o1 => by
    cases c with
    | true => exact iteT ⟨F1, env1, fp1, g1, o1⟩
    | false => exact iteF ⟨F1, env1, fp1, g1, o1⟩⟩
/-- a op b op' c -/
def gChain (h h' : D → D → Option D) (ga gb gc : G) : G := fun env => (ga env).bind fun env1 x => (gb env1).bind fun env2 y => match h x y with
  | some (.bl true) => (gc env2).bind fun env3 z => match h' y z with
    | some (.bl r) => .ok env3 (.bl r)
    | _ => .stuck
  | some (.bl false) => .ok env2 (.bl false)
  | _ => .stuck
theorem out_chain {h h' : D → D → Option D} {σ : L2.St} {H : Hp} {Q : VK} (w : tS T W ms (gChain h h' ga gb gc) σ H Q) : tChain (rS2 T h) (rS2 T h') (tS T W ms ga) (tS T W ms gb) (tS T W ms gc) σ H Q := by
  obtain ⟨F, env, fp, g, o⟩ := w
  refine ⟨F, env, fp, g, Out.bind o fun env1 x H1 F1 fp1 v g1 r1 o1 => ?_⟩
  refine ⟨F1, env1, fp1, g1, ?_⟩
  cases q : gb env1 with
  | err env2 x => rw [q] at o1; exact o1
  | stuck => rw [q] at o1; exact o1
  | ok env2 y =>
    rw [q] at o1
    intro H2 F2 fp2 u s2 g2 r2
    have o2 := Out.step o1 s2
    simp only [Res.bind_ok] at o2
    cases hd : h x y with
    | none => rw [hd] at o2; exact o2.elim
    | some d =>
      rw [hd] at o2
      refine ⟨F2, x, y, d, g2.sub, r1.mono s2.grow, r2, hd, fun H3 F3 v e r => ?_⟩
      cases d with
      | bl k =>
        refine ⟨k, r, ?_⟩
        cases k with
        | false => exact iteF (Out.fin o2 g2 e rfl)
        | true =>
          have o3 := Out.step o2 (e.step g2)
          refine iteT ⟨F3, env2, fp2, g2.ext e, ?_⟩
          cases q3 : gc env2 with
          | err env3 x => simp only [q3] at o3; exact o3
          | stuck => simp only [q3] at o3; exact o3
          | ok env3 z =>
            simp only [q3, Res.bind_ok] at o3
            intro H4 F4 fp4 u4 s4 g4 r4
            have o4 := Out.step o3 s4
            cases hd' : h' y z with
            | none => rw [hd'] at o4; exact o4.elim
            | some d' =>
              rw [hd'] at o4
              cases d' with
              | bl k' => exact ⟨F4, y, z, .bl k', g4.sub, (r2.mono e.grow).mono s4.grow, r4, hd', fun H' F' v e r => Out.fin o4 g4 e r⟩
              | _ => exact o4.elim
      | _ => exact o2.elim
theorem se_chain {op op' : CmpOp} {h h' : D → D → Option D} (ho : OpS X T (compareOp op) h) (ho' : OpS X T (compareOp op') h') (ha : SE X T W ms a ga) (hb : SE X T W ms b gb) (hc : SE X T W ms c gc)
    (hm : lastMarks [op, op'] [b, c] = false := by with_unfolding_all rfl) : SE X T W ms (.Compare a [op, op'] [b, c] pos) (gChain h h' ga gb gc) :=
  PE.imp (pe_chain ho ho' ha hb hc hm) fun _ _ _ w => out_chain w
theorem st_chain {op op' : CmpOp} {h h' : D → D → Option D} (ho : OpS X T (compareOp op) h) (ho' : OpS X T (compareOp op') h') (ha : SE X T W ms a ga) (hb : SE X T W ms b gb) (hc : SE X T W ms c gc)
    (hm : lastMarks [op, op'] [b, c] = false := by with_unfolding_all rfl) : ST X T W ms (.Compare a [op, op'] [b, c] pos) (gTest (gChain h h' ga gb gc)) :=
  PT.imp (pt_chain ho ho' ha hb hc hm) fun _ _ _ w => out_chain (out_test w)
end
end TL

set_option Elab.async false
set_option linter.all false
set_option maxRecDepth 100000
set_option maxHeartbeats 2000000
namespace TL
open PySem PySem.Spec PyProof.Rows L2

/-! ### lists of trees -/
section
variable {T : Tb} {F : Hp}
theorem RepL.length : ∀ {ds : List D} {vs : List V}, RepL T F ds vs → vs.length = ds.length
  | [], _, h => by unfold RepL at h; rw [h]; rfl
  | d :: ds, vs, h => by
    unfold RepL at h
    obtain ⟨v, r, e, _, t⟩ := h
    rw [e, List.length_cons, List.length_cons, RepL.length t]
theorem RepL.get : ∀ {ds : List D} {vs : List V} {i : Nat} {d : D}, RepL T F ds vs → ds[i]? = some d → ∃ v, vs[i]? = some v ∧ Rep T F d v
  | [], _, _, _, _, e => by simp at e
  | d :: ds, vs, 0, d', h, e => by
    unfold RepL at h
    obtain ⟨v, r, e1, q, t⟩ := h
    simp at e
    subst e e1
    exact ⟨v, rfl, q⟩
  | d :: ds, vs, i + 1, d', h, e => by
    unfold RepL at h
    obtain ⟨v, r, e1, q, t⟩ := h
    subst e1
    obtain ⟨v', h1, h2⟩ := RepL.get (i := i) (d := d') t (by simpa using e)
    exact ⟨v', by simpa using h1, h2⟩
theorem RepL.append : ∀ {ds es : List D} {vs us : List V}, RepL T F ds vs → RepL T F es us → RepL T F (ds ++ es) (vs ++ us)
  | [], _, _, _, h, h' => by unfold RepL at h; rw [h]; exact h'
  | d :: ds, es, vs, us, h, h' => by
    unfold RepL at h
    obtain ⟨v, r, e1, q, t⟩ := h
    subst e1
    show RepL T F (d :: (ds ++ es)) (v :: (r ++ us))
    unfold RepL
    exact ⟨v, _, rfl, q, RepL.append t h'⟩
theorem RepL.one {d : D} {v : V} (h : Rep T F d v) : RepL T F [d] [v] := by
  unfold RepL
  exact ⟨v, [], rfl, h, by unfold RepL; rfl⟩
theorem RepL.nil : RepL T F [] [] := by unfold RepL; rfl
theorem RepL.drop : ∀ {ds : List D} {vs : List V} (n : Nat), RepL T F ds vs → RepL T F (ds.drop n) (vs.drop n)
  | [], vs, n, h => by unfold RepL at h; subst h; simp; exact RepL.nil
  | d :: ds, vs, 0, h => h
  | d :: ds, vs, n + 1, h => by
    unfold RepL at h
    obtain ⟨v, r, e1, q, t⟩ := h
    subst e1
    exact RepL.drop n t
theorem RepL.take : ∀ {ds : List D} {vs : List V} (n : Nat), RepL T F ds vs → RepL T F (ds.take n) (vs.take n)
  | [], vs, n, h => by unfold RepL at h; subst h; simp; exact RepL.nil
  | d :: ds, vs, 0, h => by simp; exact RepL.nil
  | d :: ds, vs, n + 1, h => by
    unfold RepL at h
    obtain ⟨v, r, e1, q, t⟩ := h
    subst e1
    show RepL T F (d :: ds.take n) (v :: r.take n)
    unfold RepL
    exact ⟨v, _, rfl, q, RepL.take n t⟩
theorem RepL.reverse : ∀ {ds : List D} {vs : List V}, RepL T F ds vs → RepL T F ds.reverse vs.reverse
  | [], vs, h => by unfold RepL at h; subst h; exact RepL.nil
  | d :: ds, vs, h => by
    unfold RepL at h
    obtain ⟨v, r, e1, q, t⟩ := h
    subst e1
    rw [List.reverse_cons, List.reverse_cons]
    exact (RepL.reverse t).append (RepL.one q)
theorem RepL.set : ∀ {ds : List D} {vs : List V} {i : Nat} {d : D} {v : V}, RepL T F ds vs → Rep T F d v → RepL T F (ds.set i d) (vs.set i v)
  | [], vs, _, _, _, h, _ => by unfold RepL at h; subst h; exact RepL.nil
  | d :: ds, vs, 0, d', v', h, h' => by
    unfold RepL at h
    obtain ⟨v, r, e1, q, t⟩ := h
    subst e1
    show RepL T F (d' :: ds) (v' :: r)
    unfold RepL
    exact ⟨v', r, rfl, h', t⟩
  | d :: ds, vs, i + 1, d', v', h, h' => by
    unfold RepL at h
    obtain ⟨v, r, e1, q, t⟩ := h
    subst e1
    show RepL T F (d :: ds.set i d') (v :: r.set i v')
    unfold RepL
    exact ⟨v, _, rfl, q, RepL.set t h'⟩
theorem repL_strs : ∀ {xs : List Str} {vs : List V}, RepL T F (xs.map D.str) vs → vs = xs.map V.str
  | [], vs, h => by unfold RepL at h; exact h
  | x :: xs, vs, h => by
    change RepL T F (D.str x :: xs.map D.str) vs at h
    unfold RepL at h
    obtain ⟨v, r, e1, q, t⟩ := h
    unfold Rep at q
    rw [e1, q, repL_strs t]
    rfl
theorem repL_bls : ∀ {xs : List Bool} {vs : List V}, RepL T F (xs.map D.bl) vs → vs = xs.map V.bl
  | [], vs, h => by unfold RepL at h; exact h
  | x :: xs, vs, h => by
    change RepL T F (D.bl x :: xs.map D.bl) vs at h
    unfold RepL at h
    obtain ⟨v, r, e1, q, t⟩ := h
    unfold Rep at q
    rw [e1, q, repL_bls t]
    rfl
theorem repL_of_strs : ∀ (xs : List Str), RepL T F (xs.map D.str) (xs.map V.str)
  | [] => RepL.nil
  | x :: xs => by
    show RepL T F (D.str x :: xs.map D.str) (V.str x :: xs.map V.str)
    unfold RepL
    exact ⟨_, _, rfl, (by unfold Rep; rfl), repL_of_strs xs⟩
theorem ownL_sh {H : Hp} : ∀ {ds : List D} {vs : List V}, RepL T F ds vs → OwnL (Own T F H .sh) ds vs (fun _ => False)
  | [], vs, h => by unfold RepL at h; exact ⟨h, fun _ z => z⟩
  | d :: ds, vs, h => by
    unfold RepL at h
    obtain ⟨v, r, e1, q, t⟩ := h
    exact ⟨v, r, fun _ => False, fun _ => False, e1, fun a => by simp, fun _ z _ => z, ⟨fun _ z => z, q⟩, ownL_sh t⟩
theorem ownL_rep {H : Hp} : ∀ {ds : List D} {vs : List V} {fp : Ad}, OwnL (Own T F H .sh) ds vs fp → RepL T F ds vs ∧ ∀ a, ¬ fp a
  | [], vs, fp, h => ⟨by unfold RepL; exact h.1, h.2⟩
  | d :: ds, vs, fp, ⟨v, r, f1, f2, e, hf, dj, p, t⟩ => by
    obtain ⟨q, n⟩ := ownL_rep t
    refine ⟨by unfold RepL; exact ⟨v, r, e, p.2, q⟩, fun a ha => ?_⟩
    rcases (hf a).mp ha with z | z
    · exact p.1 a z
    · exact n a z
/-- a new list of shared things -/
theorem own_list {H : Hp} {a : Addr} {ds : List D} {vs : List V} (h : H a = some (.lst vs)) (r : RepL T F ds vs) : Own T F H (.own .sh) (.lst ds) (.ref a) (fun b => b = a) :=
  ⟨a, vs, fun _ => False, rfl, h, id, fun b => by simp, ownL_sh r⟩
theorem own_list' {H : Hp} {ds : List D} {v : V} {fp : Ad} (h : Own T F H (.own .sh) (.lst ds) v fp) : ∃ a vs, v = .ref a ∧ H a = some (.lst vs) ∧ RepL T F ds vs ∧ ∀ b, fp b ↔ b = a := by
  obtain ⟨a, vs, R, e, q, na, hf, o⟩ := h
  obtain ⟨r, n⟩ := ownL_rep o
  exact ⟨a, vs, e, q, r, fun b => (hf b).trans ⟨fun z => z.elim id fun z => (n b z).elim, .inl⟩⟩
end

/-! ### arguments -/
abbrev GA := Env → Res (List D)
def OutA (T : Tb) (ms : List Mode) (W : WX) (σ : L2.St) (H F : Hp) (fp : Nat → Ad) (Q : List V → Hp → Prop) : Res (List D) → Prop
  | .ok env' ds => ∀ H' F' fp' vs, Step H F (All fp) H' F' (All fp') → Good T ms env' σ H' F' fp' → RepL T F' ds vs → Q vs H'
  | .err env' x => OutErr T ms W σ H F fp env' x
  | .stuck => False
def tA (T : Tb) (W : WX) (ms : List Mode) (g : GA) : TA := fun σ H Q => ∃ F env fp, Good T ms env σ H F fp ∧ OutA T ms W σ H F fp Q (g env)
abbrev SA (X : Cx) (T : Tb) (W : WX) (ms : List Mode) (es : List Expr) (g : GA) : Prop := PA X es (tA T W ms g)
section
variable {X : Cx} {T : Tb} {ms : List Mode} {W : WX} {e a b c : Expr} {es : List Expr} {pos : Pos} {ga gb gc g : G} {gs : GA} {k : Mode}
theorem PA.imp {es : List Expr} {t u : TA} (h : PA X es t) (i : ∀ σ H Q, u σ H Q → t σ H Q) : PA X es u := ⟨fun pos pins s σ H Q I q => h.run pos pins s σ H Q I (i σ H Q q)⟩
theorem OutA.step {σ : L2.St} {H F H1 F1 : Hp} {fp fp1 : Nat → Ad} {Q : List V → Hp → Prop} {r : Res (List D)} (h : OutA T ms W σ H F fp Q r) (s : Step H F (All fp) H1 F1 (All fp1)) : OutA T ms W σ H1 F1 fp1 Q r := by
  cases r with
  | ok env' d => exact fun H' F' fp' vs s' g r => h H' F' fp' vs (s.trans s') g r
  | err env' x => exact OutErr.step h s
  | stuck => exact h
def gNil : GA := fun env => .ok env []
def gCons (ga : G) (gs : GA) : GA := fun env => (ga env).bind fun env1 d => (gs env1).bind fun env2 ds => .ok env2 (d :: ds)
theorem sa_nil : SA X T W ms [] gNil := PA.imp pa_nil fun σ H Q ⟨F, env, fp, g, o⟩ => o H F fp [] Step.refl g RepL.nil
theorem sa_cons (ha : SE X T W ms a ga) (hs : SA X T W ms es gs) (hst : starEach (a :: es) X.env = (false, eval a X.env) :: starEach es X.env := by rfl) : SA X T W ms (a :: es) (gCons ga gs) :=
  PA.imp (pa_cons ha hs hst) fun σ H Q ⟨F, env, fp, g, o⟩ => by
    refine ⟨F, env, fp, g, ?_⟩
    unfold gCons at o
    cases q : ga env with
    | err env1 x => rw [q] at o; exact o
    | stuck => rw [q] at o; exact o
    | ok env1 d =>
      rw [q] at o
      intro H1 F1 fp1 v s1 g1 r1
      have o1 := OutA.step o s1
      refine ⟨F1, env1, fp1, g1, ?_⟩
      simp only [Res.bind_ok] at o1
      cases q1 : gs env1 with
      | err env2 x => rw [q1] at o1; exact o1
      | stuck => rw [q1] at o1; exact o1
      | ok env2 ds =>
        rw [q1] at o1
        intro H2 F2 fp2 vs s2 g2 r2
        have o2 := OutA.step o1 s2
        exact o2 H2 F2 fp2 (v :: vs) Step.refl g2 (by unfold RepL; exact ⟨v, vs, rfl, r1.mono s2.grow, r2⟩)
/-- arguments, then what they are used for -/
theorem OutA.bind {σ : L2.St} {H F : Hp} {fp : Nat → Ad} {Q : VK} {Q' : List V → Hp → Prop} {r : Res (List D)} {f : Env → List D → Res D} (h : Out T ms W σ H F fp Q (r.bind f))
    (q : ∀ env1 ds H1 F1 fp1 vs, Good T ms env1 σ H1 F1 fp1 → RepL T F1 ds vs → Out T ms W σ H1 F1 fp1 Q (f env1 ds) → Q' vs H1) : OutA T ms W σ H F fp Q' r := by
  cases r with
  | ok env' d => exact fun H1 F1 fp1 v s1 g1 e1 => q env' d H1 F1 fp1 v g1 e1 (Out.step h s1)
  | err env' x => exact h
  | stuck => exact h
theorem OutA.bindP {σ : L2.St} {H F : Hp} {fp : Nat → Ad} {Q : VK} {Q' : List V → Hp → Prop} {r : Res (List D)} {f : Env → List D → Res D} (h : OutP T ms k W σ H F fp Q (r.bind f))
    (q : ∀ env1 ds H1 F1 fp1 vs, Good T ms env1 σ H1 F1 fp1 → RepL T F1 ds vs → OutP T ms k W σ H1 F1 fp1 Q (f env1 ds) → Q' vs H1) : OutA T ms W σ H F fp Q' r := by
  cases r with
  | ok env' d => exact fun H1 F1 fp1 v s1 g1 e1 => q env' d H1 F1 fp1 v g1 e1 (OutP.step h s1)
  | err env' x => exact h
  | stuck => exact h

/-! ### displays -/
def bigN : Nat := 1000000
theorem big_line {n : Nat} (h : n ≤ bigN) : n ≤ sizeLine := by rw [sizeLine_eq]; unfold bigN at h; omega
theorem big_line' {n : Nat} (h : n < bigN) : n < sizeLine := by rw [sizeLine_eq]; unfold bigN at h; omega
def gLst (gs : GA) : G := fun env => (gs env).bind fun env1 ds => if ds.length ≤ bigN then .ok env1 (.lst ds) else .stuck
def gTup (gs : GA) : G := fun env => (gs env).bind fun env1 ds => if ds.length ≤ bigN then .ok env1 (.tup ds) else .stuck
theorem sp_lst (hs : SA X T W ms es gs) : SP' X T W ms (.own .sh) (.List es pos) (gLst gs) :=
  PE.imp (pe_lst hs) fun σ H Q ⟨F, env, fp, g, o⟩ => ⟨F, env, fp, g, OutA.bindP o fun env1 ds H1 F1 fp1 vs g1 r1 o1 => by
    split at o1
    · rename_i hl
      refine ⟨by rw [r1.length]; exact big_line hl, fun p hp => ?_⟩
      have fp0 : F1 p = none := g1.sub.free hp
      exact OutP.fin o1 g1 (Ext0.allocP g1.sub hp) (own_list upd_same r1) fun a ha => by subst ha; exact ⟨hp, fp0, by rw [upd_same]; exact fun z => nomatch z⟩
    · exact o1.elim⟩
theorem se_lst (hs : SA X T W ms es gs) : SE X T W ms (.List es pos) (gLst gs) := SP'.sh rfl (sp_lst hs)
theorem rep_tup {F : Hp} {p : Addr} {ds : List D} {vs : List V} (h : F p = some (.tup vs)) (r : RepL T F ds vs) : Rep T F (.tup ds) (.ref p) := by
  unfold Rep
  exact ⟨p, vs, rfl, .inl (.inl h), r⟩
theorem rep_lst {F : Hp} {p : Addr} {ds : List D} {vs : List V} (h : F p = some (.lst vs)) (r : RepL T F ds vs) : Rep T F (.lst ds) (.ref p) := by
  unfold Rep
  exact ⟨p, vs, rfl, h, r⟩
theorem se_tup {x1} (hs : SA X T W ms es gs) : SE X T W ms (.Tuple es x1 pos) (gTup gs) :=
  PE.imp (pe_tup hs) fun σ H Q ⟨F, env, fp, g, o⟩ => ⟨F, env, fp, g, OutA.bind o fun env1 ds H1 F1 fp1 vs g1 r1 o1 => by
    split at o1
    · rename_i hl
      refine ⟨by rw [r1.length]; exact big_line hl, fun p hp => ?_⟩
      have ex := Ext0.alloc (o := .tup vs) g1.sub hp
      exact Out.fin o1 g1 ex (rep_tup upd_same (r1.mono ex.grow))
    · exact o1.elim⟩

/-! ### subscripts -/
def dIx : D → D → Option D
  | .lst ds, .int i => atI ds i
  | .tup ds, .int i => atI ds i
  | .part _ ds, .int i => atI ds i
  | .str z, .int i => if z.length ≤ bigN then (atI z.cps.toList i).map fun c => .str ⟨#[c]⟩ else none
  | _, _ => none
theorem atI_rep {F : Hp} {ds : List D} {vs : List V} {i : Int} {d : D} (r : RepL T F ds vs) (h : atI ds i = some d) : ∃ v, atI vs i = some v ∧ Rep T F d v := by
  unfold atI at h ⊢
  rw [r.length]
  cases q : ixN ds.length i with
  | none => rw [q] at h; cases h
  | some j =>
    rw [q] at h
    exact r.get h
theorem se_ix (hK : T.K = X.K) (ha : SE X T W ms a ga) (hb : SE X T W ms b gb) (hs : PlainIx b := by exact fun _ _ => rfl) : SE X T W ms (.Subscript a b pos) (g2 dIx ga gb) :=
  PE.imp (pe_ix ix_seq ha hb hs) fun σ H Q w => by
    obtain ⟨F, env, fp, g, o⟩ := out_g2 w
    refine ⟨F, env, fp, g, Out.mono o fun v H1 q1 => ?_⟩
    obtain ⟨F1, env1, fp1, g1, o1⟩ := q1
    refine ⟨F1, env1, fp1, g1, Out.mono o1 fun u H2 q2 => ?_⟩
    obtain ⟨F2, dx, dy, d, s, rx, ry, e, q⟩ := q2
    cases dx with
    | lst ds =>
      cases dy with
      | int i =>
        unfold Rep at rx ry
        obtain ⟨p, vs, e1, sq, rl⟩ := rx
        obtain ⟨w', h1, h2⟩ := atI_rep rl e
        exact .inl ⟨p, vs, i, w', e1, ry, by rw [← hK]; exact s.seq (.inl (.inl sq)), h1, q H2 F2 w' (Ext0.refl s) h2⟩
      | _ => cases e
    | tup ds =>
      cases dy with
      | int i =>
        unfold Rep at rx ry
        obtain ⟨p, vs, e1, sq, rl⟩ := rx
        obtain ⟨w', h1, h2⟩ := atI_rep rl e
        exact .inr (.inl ⟨p, vs, i, w', e1, ry, by rw [← hK]; exact sqT_mono s sq, h1, q H2 F2 w' (Ext0.refl s) h2⟩)
      | _ => cases e
    | part c ds =>
      cases dy with
      | int i =>
        unfold Rep at rx ry
        obtain ⟨p, vs, e1, sq, rl⟩ := rx
        obtain ⟨w', h1, h2⟩ := atI_rep rl e
        exact .inl ⟨p, vs, i, w', e1, ry, by rw [← hK]; exact sqL_mono s sq, h1, q H2 F2 w' (Ext0.refl s) h2⟩
      | _ => cases e
    | str z =>
      cases dy with
      | int i =>
        unfold Rep at rx ry
        simp only [dIx] at e
        split at e
        · rename_i hl
          cases qa : atI z.cps.toList i with
          | none => rw [qa] at e; cases e
          | some c =>
            rw [qa] at e
            cases e
            exact .inr (.inr ⟨z, i, c, rx, ry, big_line hl, qa, q H2 F2 _ (Ext0.refl s) (by unfold Rep; rfl)⟩)
        · cases e
      | _ => cases e
    | _ => cases dy <;> cases e
end
end TL

set_option Elab.async false
set_option linter.all false
set_option maxRecDepth 100000
set_option maxHeartbeats 2000000
namespace TL
open PySem PySem.Spec PyProof.Rows L2
section
variable {X : Cx} {T : Tb} {ms : List Mode} {W : WX} {e a b c o : Expr} {es : List Expr} {pos p apos cpos : Pos} {ga gb gc g : G} {gs : GA} {k : Mode} {x : Str} {id TT : String}

/-! ### built-in functions by values: shared answers (rV), new lists (rVP) -/
def rV (T : Tb) (h : List D → Option D) : List V → Hp → VK → Prop := fun xs H Q => ∃ F ds d, Same F H ∧ RepL T F ds xs ∧ h ds = some d ∧ ∀ H' F' v, Ext0 H F H' F' → Rep T F' d v → Q v H'
def rVP (T : Tb) (h : List D → Option (List D)) : List V → Hp → VK → Prop := fun xs H Q => ∃ F ds es, Same F H ∧ RepL T F ds xs ∧ h ds = some es ∧ ∀ p vs, H p = none → RepL T F es vs → Q (.ref p) (upd H p (.lst vs))
abbrev CalS (X : Cx) (T : Tb) (f : Value) (h : List D → Option D) : Prop := CallR X f (rV T h)
abbrev CalP (X : Cx) (T : Tb) (f : Value) (h : List D → Option (List D)) : Prop := CallR X f (rVP T h)
theorem CallR.imp {f : Value} {r r' : List V → Hp → VK → Prop} (h : CallR X f r) (i : ∀ xs H Q, r' xs H Q → r xs H Q) : CallR X f r' := fun pins s σ H xs us Q I rx q => h pins s σ H xs us Q I rx (i xs H Q q)
def gF (h : List D → Option D) (gs : GA) : G := fun env => (gs env).bind fun env1 ds => .ofO env1 (h ds)
def gFP (h : List D → Option (List D)) (gs : GA) : G := fun env => (gs env).bind fun env1 ds => .ofO env1 ((h ds).map .lst)
theorem out_gF {h : List D → Option D} {σ : L2.St} {H : Hp} {Q : VK} (w : tS T W ms (gF h gs) σ H Q) : tCB (rV T h) (tA T W ms gs) σ H Q := by
  obtain ⟨F, env, fp, g, o⟩ := w
  refine ⟨F, env, fp, g, OutA.bind o fun env1 ds H1 F1 fp1 vs g1 r1 o1 => ?_⟩
  cases q : h ds with
  | none => rw [q] at o1; exact o1.elim
  | some d => rw [q] at o1; exact ⟨F1, ds, d, g1.sub, r1, q, fun H' F' v e r => Out.fin o1 g1 e r⟩
theorem out_gFP {h : List D → Option (List D)} {σ : L2.St} {H : Hp} {Q : VK} (w : tP T W ms (.own .sh) (gFP h gs) σ H Q) : tCB (rVP T h) (tA T W ms gs) σ H Q := by
  obtain ⟨F, env, fp, g, o⟩ := w
  refine ⟨F, env, fp, g, OutA.bindP o fun env1 ds H1 F1 fp1 vs g1 r1 o1 => ?_⟩
  cases q : h ds with
  | none => rw [q] at o1; exact o1.elim
  | some es =>
    rw [q] at o1
    refine ⟨F1, ds, es, g1.sub, r1, q, fun p vs hp r => ?_⟩
    have fp0 : F1 p = none := g1.sub.free hp
    exact OutP.fin o1 g1 (Ext0.allocP g1.sub hp) (own_list upd_same r) fun a ha => by subst ha; exact ⟨hp, fp0, by rw [upd_same]; exact fun z => nomatch z⟩
theorem se_callB {h : List D → Option D} (hc : CalS X T (.builtin id) h) (hg : Gl X x) (hm : X.mg x = none) (hv : bootBuiltins x = some (.builtin id)) (ha : SA X T W ms (e :: es) gs) (hn : x ≠ "__name__" := by decide) (hdb : (x == ("__debug__" : Str)) = false := by decide)
    (he : starEach (e :: es) X.env = (false, eval e X.env) :: starEach es X.env := by rfl) (hpl : (backTo pos (starEach es X.env)).any (·.1) = false := by rfl) : SE X T W ms (.Call (.Name x p) (e :: es) [] pos) (gF h gs) :=
  PE.imp (pe_callB hc hg hm hv ha hn hdb he hpl) fun _ _ _ w => out_gF w
theorem se_callTy {h : List D → Option D} (hc : CalS X T (.type TT) h) (hg : Gl X x) (hm : X.mg x = none) (hv : bootBuiltins x = some (.type TT)) (ha : SA X T W ms (e :: es) gs) (hn : x ≠ "__name__" := by decide) (hdb : (x == ("__debug__" : Str)) = false := by decide)
    (he : starEach (e :: es) X.env = (false, eval e X.env) :: starEach es X.env := by rfl) (hpl : (backTo pos (starEach es X.env)).any (·.1) = false := by rfl) : SE X T W ms (.Call (.Name x p) (e :: es) [] pos) (gF h gs) :=
  PE.imp (pe_callTy hc hg hm hv ha hn hdb he hpl) fun _ _ _ w => out_gF w
theorem sp_callTy {h : List D → Option (List D)} (hc : CalP X T (.type TT) h) (hg : Gl X x) (hm : X.mg x = none) (hv : bootBuiltins x = some (.type TT)) (ha : SA X T W ms (e :: es) gs) (hn : x ≠ "__name__" := by decide) (hdb : (x == ("__debug__" : Str)) = false := by decide)
    (he : starEach (e :: es) X.env = (false, eval e X.env) :: starEach es X.env := by rfl) (hpl : (backTo pos (starEach es X.env)).any (·.1) = false := by rfl) : SP' X T W ms (.own .sh) (.Call (.Name x p) (e :: es) [] pos) (gFP h gs) :=
  PE.imp (pe_callTy hc hg hm hv ha hn hdb he hpl) fun _ _ _ w => out_gFP w
theorem se_callFun {h : List D → Option D} (hc : CalS X T (.builtin id) h) (hg : Gl X x) (hm : X.mg x = some (.builtin id)) (ha : SA X T W ms (e :: es) gs) (hdb : (x == ("__debug__" : Str)) = false := by decide)
    (he : starEach (e :: es) X.env = (false, eval e X.env) :: starEach es X.env := by rfl) (hpl : (backTo pos (starEach es X.env)).any (·.1) = false := by rfl) : SE X T W ms (.Call (.Name x p) (e :: es) [] pos) (gF h gs) :=
  PE.imp (pe_callBfun hc hg hm ha hdb he hpl) fun _ _ _ w => out_gF w

/-! the functions -/
theorem repL_one {F : Hp} {d : D} {xs : List V} (h : RepL T F [d] xs) : ∃ v, xs = [v] ∧ Rep T F d v := by
  unfold RepL at h
  obtain ⟨v, r, e, q, t⟩ := h
  unfold RepL at t
  exact ⟨v, by rw [e, t], q⟩
theorem repL_two {F : Hp} {d d' : D} {xs : List V} (h : RepL T F [d, d'] xs) : ∃ v u, xs = [v, u] ∧ Rep T F d v ∧ Rep T F d' u := by
  unfold RepL at h
  obtain ⟨v, r, e, q, t⟩ := h
  obtain ⟨u, e', q'⟩ := repL_one t
  exact ⟨v, u, by rw [e, e'], q, q'⟩
def dLen : List D → Option D
  | [.lst ds] => some (.int ds.length)
  | [.tup ds] => some (.int ds.length)
  | [.part _ ds] => some (.int ds.length)
  | [.str z] => if z.length ≤ bigN then some (.int z.length) else none
  | _ => none
theorem cal_len (hK : T.K = X.K) : CalS X T (.builtin "len") dLen := fun pins st σ H xs us Q I rx ⟨F, ds, d, s, r, e, q⟩ => by
  unfold dLen at e
  split at e
  · rename_i ds'
    cases e
    obtain ⟨v, rfl, r1⟩ := repL_one r
    unfold Rep at r1
    obtain ⟨a, vs, e1, sq, rl⟩ := r1
    subst e1
    have sq' : SqL X.K H a vs := by rw [← hK]; exact s.seq (.inl (.inl sq))
    refine call_len_seq pins st σ H _ us Q I rx ⟨a, vs, rfl, .inl sq', ?_⟩
    rw [rl.length]
    exact q H F _ (Ext0.refl s) (by unfold Rep; rfl)
  · rename_i ds'
    cases e
    obtain ⟨v, rfl, r1⟩ := repL_one r
    unfold Rep at r1
    obtain ⟨a, vs, e1, sq, rl⟩ := r1
    subst e1
    have sq' : SqT X.K H a vs := by rw [← hK]; exact sqT_mono s sq
    refine call_len_seq pins st σ H _ us Q I rx ⟨a, vs, rfl, .inr sq', ?_⟩
    rw [rl.length]
    exact q H F _ (Ext0.refl s) (by unfold Rep; rfl)
  · rename_i ds'
    cases e
    obtain ⟨v, rfl, r1⟩ := repL_one r
    unfold Rep at r1
    obtain ⟨a, vs, e1, sq, rl⟩ := r1
    subst e1
    have sq' : SqL X.K H a vs := by rw [← hK]; exact sqL_mono s sq
    refine call_len_seq pins st σ H _ us Q I rx ⟨a, vs, rfl, .inl sq', ?_⟩
    rw [rl.length]
    exact q H F _ (Ext0.refl s) (by unfold Rep; rfl)
  · rename_i z
    split at e
    · rename_i hl
      cases e
      obtain ⟨v, rfl, r1⟩ := repL_one r
      unfold Rep at r1
      subst r1
      exact call_len pins st σ H _ us Q I rx ⟨_, _, rfl, ⟨big_line hl, rfl⟩, q H F _ (Ext0.refl s) (by unfold Rep; rfl)⟩
    · cases e
  · cases e
def dAbs : List D → Option D
  | [.int i] => some (.int (if i < 0 then -i else i))
  | _ => none
theorem cal_abs : CalS X T (.builtin "abs") dAbs := CallR.imp call_abs fun xs H Q ⟨F, ds, d, s, r, e, q⟩ => by
  unfold dAbs at e
  split at e
  · rename_i i
    cases e
    obtain ⟨v, rfl, r1⟩ := repL_one r
    unfold Rep at r1
    subst r1
    exact ⟨i, rfl, q H F _ (Ext0.refl s) (by unfold Rep; rfl)⟩
  · cases e
def dMax2 : List D → Option D
  | [.int i, .int j] => some (.int (if j > i then j else i))
  | _ => none
def dMin2 : List D → Option D
  | [.int i, .int j] => some (.int (if j < i then j else i))
  | _ => none
theorem cal_max2 (hc : X.calm = true) : CalS X T (.builtin "max") dMax2 := CallR.imp (call_max2 hc) fun xs H Q ⟨F, ds, d, s, r, e, q⟩ => by
  unfold dMax2 at e
  split at e
  · rename_i i j
    cases e
    obtain ⟨v, u, rfl, r1, r2⟩ := repL_two r
    unfold Rep at r1 r2
    subst r1 r2
    exact ⟨i, j, rfl, q H F _ (Ext0.refl s) (by unfold Rep; rfl)⟩
  · cases e
theorem cal_min2 (hc : X.calm = true) : CalS X T (.builtin "min") dMin2 := CallR.imp (call_min2 hc) fun xs H Q ⟨F, ds, d, s, r, e, q⟩ => by
  unfold dMin2 at e
  split at e
  · rename_i i j
    cases e
    obtain ⟨v, u, rfl, r1, r2⟩ := repL_two r
    unfold Rep at r1 r2
    subst r1 r2
    exact ⟨i, j, rfl, q H F _ (Ext0.refl s) (by unfold Rep; rfl)⟩
  · cases e
def dGcd : List D → Option D
  | [.int i, .int j] => some (.int ((Nat.gcd i.natAbs j.natAbs : Nat) : Int))
  | _ => none
theorem cal_gcd : CalS X T (.builtin "math.gcd") dGcd := CallR.imp cr_gcd fun xs H Q ⟨F, ds, d, s, r, e, q⟩ => by
  unfold dGcd at e
  split at e
  · rename_i i j
    cases e
    obtain ⟨v, u, rfl, r1, r2⟩ := repL_two r
    unfold Rep at r1 r2
    subst r1 r2
    exact ⟨i, j, rfl, q H F _ (Ext0.refl s) (by unfold Rep; rfl)⟩
  · cases e
def dInt : List D → Option D
  | [.int i] => some (.int i)
  | [.bl c] => some (.int (if c then 1 else 0))
  | _ => none
theorem cal_int : CalS X T (.type "int") dInt := CallR.imp call_int1 fun xs H Q ⟨F, ds, d, s, r, e, q⟩ => by
  unfold dInt at e
  split at e
  · rename_i i
    cases e
    obtain ⟨v, rfl, r1⟩ := repL_one r
    unfold Rep at r1
    subst r1
    exact .inl ⟨i, rfl, q H F _ (Ext0.refl s) (by unfold Rep; rfl)⟩
  · rename_i i
    cases e
    obtain ⟨v, rfl, r1⟩ := repL_one r
    unfold Rep at r1
    subst r1
    exact .inr ⟨i, rfl, q H F _ (Ext0.refl s) (by unfold Rep; rfl)⟩
  · cases e
def dIntS : List D → Option D
  | [.str z] => if z.length ≤ 640 then (PySem.intText? z).map .int else none
  | _ => none
theorem cal_intS : CalS X T (.type "int") dIntS := CallR.imp call_int_str fun xs H Q ⟨F, ds, d, s, r, e, q⟩ => by
  unfold dIntS at e
  split at e
  · rename_i z
    split at e
    · rename_i hl
      cases hz : PySem.intText? z with
      | none => rw [hz] at e; cases e
      | some n =>
        rw [hz] at e
        cases e
        obtain ⟨v, rfl, r1⟩ := repL_one r
        unfold Rep at r1
        subst r1
        exact ⟨z, n, rfl, hz, hl, q H F _ (Ext0.refl s) (by unfold Rep; rfl)⟩
    · cases e
  · cases e
def dStrI : List D → Option D
  | [.int i] => if i.natAbs.log2 < 1920 then some (.str (toString i)) else none
  | _ => none
theorem cal_strI : CalS X T (.type "str") dStrI := CallR.imp call_str_int fun xs H Q ⟨F, ds, d, s, r, e, q⟩ => by
  unfold dStrI at e
  split at e
  · rename_i i
    split at e
    · rename_i hl
      cases e
      obtain ⟨v, rfl, r1⟩ := repL_one r
      unfold Rep at r1
      subst r1
      exact ⟨i, rfl, hl, q H F _ (Ext0.refl s) (by unfold Rep; rfl)⟩
    · cases e
  · cases e
/-- all, any of a list of bools -/
def blsOf : List D → Option (List Bool)
  | [] => some []
  | .bl c :: ds => (blsOf ds).map (c :: ·)
  | _ => none
theorem blsOf_eq : ∀ {ds : List D} {bs : List Bool}, blsOf ds = some bs → ds = bs.map D.bl
  | [], bs, h => by cases h; rfl
  | d :: ds, bs, h => by
    cases d with
    | bl c =>
      simp only [blsOf] at h
      cases q : blsOf ds with
      | none => rw [q] at h; cases h
      | some r => rw [q] at h; cases h; rw [blsOf_eq q]; rfl
    | _ => cases h
def dAll : List D → Option D
  | [.lst ds] => (blsOf ds).map fun bs => .bl (bs.all _root_.id)
  | _ => none
def dAny : List D → Option D
  | [.lst ds] => (blsOf ds).map fun bs => .bl (bs.any _root_.id)
  | _ => none
theorem cal_all (hK : T.K = X.K) (hc : X.calm = true) : CalS X T (.builtin "all") dAll := CallR.imp (cr_all hc) fun xs H Q ⟨F, ds, d, s, r, e, q⟩ => by
  unfold dAll at e
  split at e
  · rename_i ds'
    cases hz : blsOf ds' with
    | none => rw [hz] at e; cases e
    | some bs =>
      rw [hz] at e
      cases e
      obtain ⟨v, rfl, r1⟩ := repL_one r
      unfold Rep at r1
      obtain ⟨a, vs, e1, sq, rl⟩ := r1
      rw [blsOf_eq hz] at rl
      have := repL_bls rl
      subst this e1
      exact ⟨a, bs, rfl, by rw [← hK]; exact s.seq (.inl (.inl sq)), q H F _ (Ext0.refl s) (by unfold Rep; rfl)⟩
  · cases e
theorem cal_any (hK : T.K = X.K) (hc : X.calm = true) : CalS X T (.builtin "any") dAny := CallR.imp (cr_any hc) fun xs H Q ⟨F, ds, d, s, r, e, q⟩ => by
  unfold dAny at e
  split at e
  · rename_i ds'
    cases hz : blsOf ds' with
    | none => rw [hz] at e; cases e
    | some bs =>
      rw [hz] at e
      cases e
      obtain ⟨v, rfl, r1⟩ := repL_one r
      unfold Rep at r1
      obtain ⟨a, vs, e1, sq, rl⟩ := r1
      rw [blsOf_eq hz] at rl
      have := repL_bls rl
      subst this e1
      exact ⟨a, bs, rfl, by rw [← hK]; exact s.seq (.inl (.inl sq)), q H F _ (Ext0.refl s) (by unfold Rep; rfl)⟩
  · cases e
/-- list(xs), tuple(xs) -/
def dList : List D → Option (List D)
  | [.lst ds] => some ds
  | [.tup ds] => some ds
  | _ => none
theorem cal_list (hK : T.K = X.K) : CalP X T (.type "list") dList := CallR.imp call_list_of fun xs H Q ⟨F, ds, d, s, r, e, q⟩ => by
  unfold dList at e
  split at e
  · rename_i ds'
    cases e
    obtain ⟨v, rfl, r1⟩ := repL_one r
    unfold Rep at r1
    obtain ⟨a, vs, e1, sq, rl⟩ := r1
    subst e1
    exact ⟨a, vs, rfl, .inl (by rw [← hK]; exact s.seq (.inl (.inl sq))), fun l hl => q l vs hl rl⟩
  · rename_i ds'
    cases e
    obtain ⟨v, rfl, r1⟩ := repL_one r
    unfold Rep at r1
    obtain ⟨a, vs, e1, sq, rl⟩ := r1
    subst e1
    exact ⟨a, vs, rfl, .inr (by rw [← hK]; exact sqT_mono s sq), fun l hl => q l vs hl rl⟩
  · cases e
def dTuple : List D → Option D
  | [.lst ds] => some (.tup ds)
  | [.tup ds] => some (.tup ds)
  | _ => none
theorem cal_tuple (hK : T.K = X.K) : CalS X T (.type "tuple") dTuple := CallR.imp call_tuple_of fun xs H Q ⟨F, ds, d, s, r, e, q⟩ => by
  unfold dTuple at e
  split at e
  · rename_i ds'
    cases e
    obtain ⟨v, rfl, r1⟩ := repL_one r
    unfold Rep at r1
    obtain ⟨a, vs, e1, sq, rl⟩ := r1
    subst e1
    refine ⟨a, vs, rfl, .inl ⟨by rw [← hK]; exact s.seq (.inl (.inl sq)), fun l hl => ?_⟩⟩
    have ex := Ext0.alloc (o := .tup vs) s hl
    exact q _ _ _ ex (rep_tup upd_same (rl.mono ex.grow))
  · rename_i ds'
    cases e
    obtain ⟨v, rfl, r1⟩ := repL_one r
    have r1' := r1
    unfold Rep at r1
    obtain ⟨a, vs, e1, sq, rl⟩ := r1
    subst e1
    exact ⟨a, vs, rfl, .inr ⟨by rw [← hK]; exact sqT_mono s sq, q H F _ (Ext0.refl s) r1'⟩⟩
  · cases e

/-! ### methods of texts -/
def rM (T : Tb) (h : D → List D → Option D) : V → List V → Hp → VK → Prop := fun x xs H Q => ∃ F dx ds d, Same F H ∧ Rep T F dx x ∧ RepL T F ds xs ∧ h dx ds = some d ∧ ∀ H' F' v, Ext0 H F H' F' → Rep T F' d v → Q v H'
abbrev MtS (X : Cx) (T : Tb) (id : String) (h : D → List D → Option D) : Prop := MtR X id (rM T h)
theorem MtR.imp {r r' : V → List V → Hp → VK → Prop} (h : MtR X id r) (i : ∀ x xs H Q, r' x xs H Q → r x xs H Q) : MtR X id r' := fun pins s σ H x xs v us Q I rx rs q => h pins s σ H x xs v us Q I rx rs (i x xs H Q q)
def gM (h : D → List D → Option D) (ga : G) (gs : GA) : G := fun env => (ga env).bind fun env1 x => match x with
  | .str z => (gs env1).bind fun env2 ds => .ofO env2 (h (.str z) ds)
  | _ => .stuck
theorem out_gM {h : D → List D → Option D} {σ : L2.St} {H : Hp} {Q : VK} (w : tS T W ms (gM h ga gs) σ H Q) : (tS T W ms ga) σ H fun x H1 => (∃ a, x = .str a) ∧ tyV X.K "str" x H1 ∧ (tA T W ms gs) σ H1 fun xs H2 => rM T h x xs H2 Q := by
  obtain ⟨F, env, fp, g, o⟩ := w
  refine ⟨F, env, fp, g, Out.bind o fun env1 d H1 F1 fp1 v g1 r1 o1 => ?_⟩
  cases d with
  | str z =>
    have r1' := r1
    unfold Rep at r1
    subst r1
    refine ⟨⟨z, rfl⟩, rfl, F1, env1, fp1, g1, OutA.bind o1 fun env2 ds H2 F2 fp2 vs g2 r2 o2 => ?_⟩
    cases q : h (.str z) ds with
    | none => rw [q] at o2; exact o2.elim
    | some d => rw [q] at o2; exact ⟨F2, .str z, ds, d, g2.sub, by unfold Rep; rfl, r2, q, fun H' F' v e r => Out.fin o2 g2 e r⟩
  | _ => exact o1.elim
theorem se_sm {name : Str} {h : D → List D → Option D} (slot : Slot "str" name id) (hty : typeOf (.builtin id) = pure (.type "method_descriptor")) (hm : MtS X T id h) (ho : SE X T W ms o ga) (ha : SA X T W ms (e :: es) gs)
    (hbase : attributeBase o name X.env (eval o X.env) = eval o X.env := by rfl)
    (hfew : ((backTo cpos (starEach (e :: es) X.env)).all (fun x => !x.1) && (backToKw cpos (keywordEach [] X.env)).all (fun x => x.1.isSome)
      && decide ((e :: es).length + ([] : List Keyword).length + (if ([] : List Keyword).isEmpty then 0 else 1) < 30)) = true := by rfl)
    (hline : (apos.endLine == cpos.line) = true := by rfl) (hs : starEach (e :: es) X.env = (false, eval e X.env) :: starEach es X.env := by rfl) (hplain : (backTo cpos (starEach es X.env)).any (·.1) = false := by rfl) :
    SE X T W ms (.Call (.Attribute o name apos) (e :: es) [] cpos) (gM h ga gs) :=
  PE.imp (pe_bm PySem.F.plainAttrs_str slot hty hm ho ha hbase hfew hline hs hplain) fun σ H Q w => by
    obtain ⟨F, env, fp, g, o⟩ := out_gM (X := X) w
    exact ⟨F, env, fp, g, Out.mono o fun v H1 ⟨_, q⟩ => q⟩
theorem se_sm0 {name : Str} {h : D → List D → Option D} (slot : Slot "str" name id) (hty : typeOf (.builtin id) = pure (.type "method_descriptor")) (hm : MtS X T id h) (ho : SE X T W ms o ga)
    (hbase : attributeBase o name X.env (eval o X.env) = eval o X.env := by rfl) (hline : (apos.endLine == cpos.line) = true := by rfl) : SE X T W ms (.Call (.Attribute o name apos) [] [] cpos) (gM h ga gNil) :=
  PE.imp (pe_bm0 PySem.F.plainAttrs_str slot hty hm ho hbase hline) fun σ H Q w => by
    obtain ⟨F, env, fp, g, o⟩ := out_gM (X := X) w
    refine ⟨F, env, fp, g, Out.mono o fun v H1 ⟨_, ty, F1, env1, fp1, g1, o1⟩ => ⟨ty, ?_⟩⟩
    exact o1 H1 F1 fp1 [] Step.refl g1 RepL.nil
end
end TL

set_option Elab.async false
set_option linter.all false
set_option maxRecDepth 100000
set_option maxHeartbeats 2000000
namespace TL
open PySem PySem.Spec PyProof.Rows L2

theorem passN {X : Cx} : Passes (L2N.CX X.prog X.w) X (fun _ _ _ => False) := fun _ _ _ _ _ _ _ ⟨_, _, _, _, _, _, _, _, _, _, _, _, z⟩ => z.elim
/-- a def that may raise keeps a promise, by its body -/
theorem okN {P : Program} {w : World} {K : PySem.W.Frag} {mg : Str → Option Value} {base : Heap} {x qual : Str} {st : Stmt} {f : Addr} {fd : FuncData} {N ps : List Str} {k : Nat} {sp : Sp} (Fn : Fun K x qual st f fd) (S : FnScope N ps (defScope st)) (hl : ∀ vs H Q E, sp vs H Q E → vs.length = ps.length)
    (bd : ∀ (cdv : Value) (A : Around) (outer : List PySem.Env) (s : Shared) (H : Hp) (vs : List V) (Q : VK) (E : XK), Room k (A.deeper (envOfC qual (defScope st) s.heap.objs.size f cdv)) → sp vs H Q E →
      ∃ t, PSs (cxOf (L2N.CX P w) P w K mg base N qual (defScope st) f cdv A outer s H E) (defBody st) t ∧ t { nx := fun _ H' => Q .non H', rt := Q } (L2.start N vs) H) : FnOk P w K mg base (L2N.CX P w) (k + 1) f fd ps sp := by
  obtain ⟨c0, d0, k0, doc0, p0, a0, cdv, t0, s0, rfl, look, code⟩ := Fn.ex
  exact fn_of look code S hl fun A outer s H vs Q E => bd cdv A outer s H vs Q E

/-! ### promises by functions of trees -/
abbrev NoAd : Nat → Ad := fun _ _ => False
def spS (T : Tb) (pm : List Mode) (n : Nat) (g : G) : Sp := fun vs H Q E => vs.length = n ∧ ∃ F env fp, Good T pm env (vs.map some) H F fp ∧ Out T pm (fun cv dd _ H' => E cv dd H') (vs.map some) H F fp Q (g env)
def spP (T : Tb) (pm : List Mode) (n : Nat) (k : Mode) (g : G) : Sp := fun vs H Q E => vs.length = n ∧ ∃ F env fp, Good T pm env (vs.map some) H F fp ∧ OutP T pm k (fun cv dd _ H' => E cv dd H') (vs.map some) H F fp Q (g env)
section
variable {T : Tb} {F H : Hp}
theorem good_args {ds : List D} {vs : List V} (s : Same F H) (r : RepL T F ds vs) : Good T [] (ds.map some) (vs.map some) H F NoAd := by
  refine ⟨by rw [List.length_map, List.length_map, r.length], s, fun i d h => ?_, fun _ _ _ _ z => z.elim, fun _ _ z => z.elim⟩
  rw [List.getElem?_map] at h
  cases q : ds[i]? with
  | none => rw [q] at h; cases h
  | some d' =>
    rw [q] at h
    cases h
    obtain ⟨v, h1, h2⟩ := r.get q
    exact ⟨v, by rw [List.getElem?_map, h1]; rfl, ⟨fun _ z => z, h2⟩⟩
/-- what a callee's step is for its caller, where nothing was handed over as one's own -/
theorem Step.ext {H' F' : Hp} {fp' : Nat → Ad} (s : Step H F (All NoAd) H' F' (All fp')) (g : Same F' H') : Ext0 H F H' F' :=
  ⟨fun b o h => s.keep b o h fun ⟨_, z⟩ => z, s.grow, fun b h => (s.new b h).imp id fun z => z.elim id fun ⟨_, w⟩ => w.elim, g⟩
theorem Step.extP {H' F' : Hp} {P : Ad} (s : Step H F (All NoAd) H' F' P) (g : Same F' H') : Ext0 H F H' F' :=
  ⟨fun b o h => s.keep b o h fun ⟨_, z⟩ => z, s.grow, fun b h => (s.new b h).imp id fun z => z.elim id fun ⟨_, w⟩ => w.elim, g⟩
end

/-- the answer of a def that is handed shared things -/
def ret0 (env : Env) : Res D → Res D
  | .ok _ d => .ok env d
  | .err _ x => .err env x
  | .stuck => .stuck
@[simp] theorem ret0_ok (env e : Env) (d : D) : ret0 env (.ok e d) = .ok env d := rfl
@[simp] theorem ret0_err (env e : Env) (x : Ex) : ret0 env (.err e x) = .err env x := rfl
@[simp] theorem ret0_stuck (env : Env) : ret0 env .stuck = .stuck := rfl
section
variable {X : Cx} {T : Tb} {ms : List Mode} {W : WX} {σ : L2.St} {H F H' F' : Hp} {fp : Nat → Ad} {env : Env} {ds : List D} {vs : List V} {g : G} {k : Mode} {Q : VK}
/-- the promise is kept where the caller's own reading holds -/
theorem spS_of {n : Nat} (gd : Good T ms env σ H F fp) (r : RepL T F ds vs) (hn : ds.length = n) (o : Out T ms W σ H F fp Q (ret0 env (g (ds.map some)))) : spS T [] n g vs H Q (WE W σ) := by
  refine ⟨r.length.trans hn, F, ds.map some, NoAd, good_args gd.sub r, ?_⟩
  cases q : g (ds.map some) with
  | ok e d =>
    rw [q] at o
    exact fun H' F' fp' v s g' rv => Out.fin o gd (s.ext g'.sub) rv
  | err e x =>
    rw [q] at o
    exact fun H' F' fp' cv dd s g' er => o H' F' fp cv dd ((s.ext g'.sub).step gd) (gd.ext (s.ext g'.sub)) er
  | stuck => rw [q] at o; exact o.elim
theorem spS_ofP {n : Nat} (gd : Good T ms env σ H F fp) (r : RepL T F ds vs) (hn : ds.length = n) (o : OutP T ms k W σ H F fp Q (ret0 env (g (ds.map some)))) : spP T [] n k g vs H Q (WE W σ) := by
  refine ⟨r.length.trans hn, F, ds.map some, NoAd, good_args gd.sub r, ?_⟩
  cases q : g (ds.map some) with
  | ok e d =>
    rw [q] at o
    intro H' F' fp' v fv s g' rv off dis
    refine OutP.fin o gd (s.extP g'.sub) rv fun a ha => ⟨?_, (off a ha).1, (off a ha).2⟩
    rcases s.fpn a (.inr ha) with ⟨_, z⟩ | z
    · exact z.elim
    · exact z
  | err e x =>
    rw [q] at o
    exact fun H' F' fp' cv dd s g' er => o H' F' fp cv dd ((s.ext g'.sub).step gd) (gd.ext (s.ext g'.sub)) er
  | stuck => rw [q] at o; exact o.elim
end

/-! ### calls of own defs -/
/-- a def of the module: by its name x; bound with the defaults dvs; its promise -/
structure CalD (X : Cx) (lv : Nat) (x : Str) (dvs : List V) (sp : Sp) : Prop where
  ex : ∃ (f : Addr) (fd : FuncData) (ps : List Str) (ds : List Value), X.mg x = some (.ref f) ∧ PySem.W.keepIn X.K (.ref f) = true ∧ Binds X.K fd ps ds ∧ Vals dvs ds ∧ FnOk X.prog X.w X.K X.mg X.base (L2N.CX X.prog X.w) lv f fd ps sp
section
variable {X : Cx} {T : Tb} {ms : List Mode} {W : WX} {e o : Expr} {es : List Expr} {pos p apos : Pos} {ga g : G} {gs : GA} {k : Mode} {x m : Str} {lv n : Nat} {dds : List D} {dvs : List V} {C : Addr}
def gCall (g : G) (dds : List D) (gs : GA) : G := fun env => (gs env).bind fun env1 ds => ret0 env1 (g ((ds ++ dds).map some))
theorem out_call (hd : ∀ F, RepL T F dds dvs) (hn : ∀ env env1 ds, gs env = .ok env1 ds → (ds ++ dds).length = n) {σ : L2.St} {H : Hp} {Q : VK} (w : tS T W ms (gCall g dds gs) σ H Q) : tCallSD (spS T [] n g) dvs (WE W) (tA T W ms gs) σ H Q := by
  obtain ⟨F, env, fp, gd, o⟩ := w
  refine ⟨F, env, fp, gd, ?_⟩
  unfold gCall at o
  cases q : gs env with
  | err env1 x => rw [q] at o; exact o
  | stuck => rw [q] at o; exact o
  | ok env1 ds =>
    rw [q] at o
    exact fun H1 F1 fp1 vs s1 g1 r1 => spS_of g1 (r1.append (hd F1)) (hn env env1 ds q) (Out.step o s1)
theorem out_callP (hd : ∀ F, RepL T F dds dvs) (hn : ∀ env env1 ds, gs env = .ok env1 ds → (ds ++ dds).length = n) {σ : L2.St} {H : Hp} {Q : VK} (w : tP T W ms k (gCall g dds gs) σ H Q) : tCallSD (spP T [] n k g) dvs (WE W) (tA T W ms gs) σ H Q := by
  obtain ⟨F, env, fp, gd, o⟩ := w
  refine ⟨F, env, fp, gd, ?_⟩
  unfold gCall at o
  cases q : gs env with
  | err env1 x => rw [q] at o; exact o
  | stuck => rw [q] at o; exact o
  | ok env1 ds =>
    rw [q] at o
    exact fun H1 F1 fp1 vs s1 g1 r1 => spS_ofP g1 (r1.append (hd F1)) (hn env env1 ds q) (OutP.step o s1)
/-- how many arguments there are -/
def Cnt (gs : GA) (n : Nat) : Prop := ∀ env env1 ds, gs env = .ok env1 ds → ds.length = n
theorem cnt_nil : Cnt gNil 0 := fun env env1 ds h => by cases h; rfl
theorem cnt_cons {n : Nat} (h : Cnt gs n) : Cnt (gCons ga gs) (n + 1) := fun env env1 ds q => by
  unfold gCons at q
  cases q1 : ga env with
  | ok e1 d =>
    rw [q1] at q
    simp only [Res.bind_ok] at q
    cases q2 : gs e1 with
    | ok e2 ds2 => rw [q2] at q; cases q; rw [List.length_cons, h _ _ _ q2]
    | err _ _ => rw [q2] at q; cases q
    | stuck => rw [q2] at q; cases q
  | err _ _ => rw [q1] at q; cases q
  | stuck => rw [q1] at q; cases q
theorem Cnt.app {c : Nat} (h : Cnt gs c) (dds : List D) : ∀ env env1 ds, gs env = .ok env1 ds → (ds ++ dds).length = c + dds.length := fun env env1 ds q => by rw [List.length_append, h _ _ _ q]
theorem se_call {c : Nat} (hF : CalD X lv x dvs (spS T [] (c + dds.length) g)) (hr : Room lv X.A) (tk : L2N.Takes X W) (hg : Gl X x) (hd : ∀ F, RepL T F dds dvs) (ha : SA X T W ms (e :: es) gs) (hc : Cnt gs c) (hdb : (x == ("__debug__" : Str)) = false := by decide)
    (he : starEach (e :: es) X.env = (false, eval e X.env) :: starEach es X.env := by rfl) (hpl : (backTo pos (starEach es X.env)).any (·.1) = false := by rfl) : SE X T W ms (.Call (.Name x p) (e :: es) [] pos) (gCall g dds gs) := by
  obtain ⟨f, fd, ps, ds, h1, h2, h3, h4, h5⟩ := hF.ex
  exact PE.imp (pe_callSD (E := WE W) h5 hr hg h1 h2 h3 h4 (fun σ => L2N.passAt tk σ) ha hdb he hpl) fun _ _ _ w => out_call hd (hc.app dds) w
theorem sp_call {c : Nat} (hF : CalD X lv x dvs (spP T [] (c + dds.length) k g)) (hr : Room lv X.A) (tk : L2N.Takes X W) (hg : Gl X x) (hd : ∀ F, RepL T F dds dvs) (ha : SA X T W ms (e :: es) gs) (hc : Cnt gs c) (hdb : (x == ("__debug__" : Str)) = false := by decide)
    (he : starEach (e :: es) X.env = (false, eval e X.env) :: starEach es X.env := by rfl) (hpl : (backTo pos (starEach es X.env)).any (·.1) = false := by rfl) : SP' X T W ms k (.Call (.Name x p) (e :: es) [] pos) (gCall g dds gs) := by
  obtain ⟨f, fd, ps, ds, h1, h2, h3, h4, h5⟩ := hF.ex
  exact PE.imp (pe_callSD (E := WE W) h5 hr hg h1 h2 h3 h4 (fun σ => L2N.passAt tk σ) ha hdb he hpl) fun _ _ _ w => out_callP hd (hc.app dds) w

/-! .. with a first argument that is one's own (a name), handed over and given back -/
def retT (env : Env) (j : Nat) : Res D → Res D
  | .ok (some d0' :: _) d => .ok (env.set j (some d0')) d
  | .err (some d0' :: _) x => .err (env.set j (some d0')) x
  | _ => .stuck
def gCallT (g : G) (j : Nat) (gs : GA) : G := fun env => match env[j]? with
  | some (some _) => (gs env).bind fun env1 ds => match env1[j]? with
    | some (some d0) => retT env1 j (g (some d0 :: ds.map some))
    | _ => .stuck
  | _ => .stuck
variable {σ : L2.St} {H F H' F' : Hp} {fp : Nat → Ad} {env : Env} {ds : List D} {vs : List V} {Q : VK} {j : Nat} {d0 d0' : D} {v0 : V}
theorem good_first (gd : Good T ms env σ H F fp) (r : RepL T F ds vs) (h : env[j]? = some (some d0)) (hv : σ[j]? = some (some v0)) (ho : Own T F H (ms.getD j .sh) d0 v0 (fp j)) :
    Good T [ms.getD j .sh] (some d0 :: ds.map some) ((v0 :: vs).map some) H F (fun i a => i = 0 ∧ fp j a) := by
  refine ⟨by simp [r.length], gd.sub, fun i d e => ?_, fun i i' a hne h1 h2 => hne (h1.1.trans h2.1.symm), fun i a z => gd.off j a z.2⟩
  cases i with
  | zero =>
    have e' : d0 = d := by simpa using e
    subst e'
    refine ⟨v0, rfl, ?_⟩
    have : (fun a => (0 : Nat) = 0 ∧ fp j a) = fp j := by funext a; simp
    show Own T F H (ms.getD j .sh) d0 v0 (fun a => (0 : Nat) = 0 ∧ fp j a)
    rw [this]; exact ho
  | succ i =>
    have e' : (ds.map some)[i]? = some (some d) := by simpa using e
    rw [List.getElem?_map] at e'
    cases q : ds[i]? with
    | none => rw [q] at e'; cases e'
    | some d' =>
      rw [q] at e'
      cases e'
      obtain ⟨v, h1, h2⟩ := r.get q
      exact ⟨v, by simp [h1], ⟨fun a z => (nomatch z.1), h2⟩⟩
theorem good_back {e2 : List (Option D)} {fp2 : Nat → Ad} {P : Ad} (gd : Good T ms env σ H F fp) (hj : σ[j]? = some (some v0)) (s : Step H F (All (fun i a => i = 0 ∧ fp j a)) H' F' P) (hP : ∀ a, fp2 0 a → P a)
    (g2 : Good T [ms.getD j .sh] (some d0' :: e2) ((v0 :: vs).map some) H' F' fp2) : Good T ms (env.set j (some d0')) σ H' F' (fun i a => if i = j then fp2 0 a else fp i a) := by
  have old : ∀ i a, i ≠ j → fp i a → ¬ All (fun i a => i = 0 ∧ fp j a) a := fun i a hi h ⟨_, _, z⟩ => gd.dis i j a hi h z
  have apart : ∀ i a, i ≠ j → fp i a → ¬ P a := fun i a hi h p => by
    rcases s.fpn a p with z | z
    · exact old i a hi h z
    · exact (gd.off i a h).2 z
  have same : ∀ i a, i ≠ j → fp i a → H' a = H a := fun i a hi h => by
    cases q : H a with
    | none => exact ((gd.off i a h).2 q).elim
    | some o => exact s.keep a o q (old i a hi h)
  refine ⟨by rw [List.length_set]; exact gd.len, g2.sub, fun i d e => ?_, fun i i' a hne h1 h2 => ?_, fun i a h => ?_⟩
  · by_cases hi : i = j
    · subst hi
      by_cases hl : i < env.length
      · rw [List.getElem?_set_self hl] at e
        cases e
        obtain ⟨v, h1, h2⟩ := g2.slot 0 d0' rfl
        have hv : v = v0 := by simpa using h1.symm
        subst hv
        refine ⟨v, hj, ?_⟩
        have : (fun a => if i = i then fp2 0 a else fp i a) = fp2 0 := by funext a; simp
        rw [this]; exact h2
      · rw [List.getElem?_eq_none (by rw [List.length_set]; omega)] at e; cases e
    · rw [List.getElem?_set_ne (Ne.symm hi)] at e
      obtain ⟨v, h1, h2⟩ := gd.slot i d e
      refine ⟨v, h1, ?_⟩
      have : (fun a => if i = j then fp2 0 a else fp i a) = fp i := by funext a; simp [hi]
      rw [this]
      exact h2.mono s.grow fun a ha => same i a hi ha
  · split at h1
    · rename_i e1
      split at h2
      · rename_i e2; exact hne (e1.trans e2.symm)
      · rename_i e2; exact apart i' a e2 h2 (hP a h1)
    · rename_i e1
      split at h2
      · exact apart i a e1 h1 (hP a h2)
      · exact gd.dis i i' a hne h1 h2
  · split at h
    · exact g2.off 0 a h
    · rename_i hi
      refine ⟨?_, ?_⟩
      · cases q : F' a with
        | none => rfl
        | some o =>
          rcases s.new a (by rw [q]; exact fun z => nomatch z) with z | z | z
          · exact (z (gd.off i a h).1).elim
          · exact ((gd.off i a h).2 z).elim
          · exact (old i a hi h z).elim
      · rw [same i a hi h]; exact (gd.off i a h).2
theorem all_back {fp2 : Nat → Ad} {a : Addr} (h : All (fun i a => if i = j then fp2 0 a else fp i a) a) : All fp2 a ∨ ∃ i, i ≠ j ∧ fp i a := by
  obtain ⟨i, z⟩ := h
  split at z
  · exact .inl ⟨0, z⟩
  · rename_i hi; exact .inr ⟨i, hi, z⟩
/-- a callee's step with its first argument, for the caller -/
theorem step_back {P R : Ad} (s : Step H F (All (fun i a => i = 0 ∧ fp j a)) H' F' P) (hR : ∀ a, R a → P a ∨ ∃ i, fp i a) : Step H F (All fp) H' F' R :=
  ⟨fun b o h n => s.keep b o h fun ⟨_, _, z⟩ => n ⟨j, z⟩, s.grow, fun b h => (s.new b h).imp id (Or.imp id fun ⟨_, _, z⟩ => ⟨j, z⟩), fun b h => by
    rcases hR b h with z | z
    · rcases s.fpn b z with ⟨_, _, w⟩ | w
      · exact .inl ⟨j, w⟩
      · exact .inr w
    · exact .inl z⟩
theorem err_callT {env1 : Env} {e2 : List (Option D)} {ex : Ex} (gd : Good T ms env1 σ H F fp) (hv : σ[j]? = some (some v0)) (o : OutErr T ms W σ H F fp (env1.set j (some d0')) ex) :
    OutErr T [ms.getD j .sh] (fun cv dd _ H' => W cv dd σ H') ((v0 :: vs).map some) H F (fun i a => i = 0 ∧ fp j a) (some d0' :: e2) ex := fun H' F' fp2 cv dd s g2 er => by
  refine o H' F' (fun i a => if i = j then fp2 0 a else fp i a) cv dd (step_back s fun a h => ?_) (good_back gd hv s (fun a z => ⟨0, z⟩) g2) er
  exact (all_back h).imp id fun ⟨i, _, z⟩ => ⟨i, z⟩
theorem out_callT {n : Nat} (hn : Cnt gs n) {m : Mode} (hm : ms.getD j .sh = m) (w : tS T W ms (gCallT g j gs) σ H Q) : tCallSD (spS T [m] (n + 1) g) [] (WE W) (tCons (tVar j) (tA T W ms gs)) σ H Q := by
  subst hm
  obtain ⟨F, env, fp, gd, o⟩ := w
  unfold gCallT at o
  split at o
  · rename_i dz hz
    obtain ⟨v0, hv0, _⟩ := gd.slot j dz hz
    refine ⟨v0, hv0, F, env, fp, gd, ?_⟩
    cases q : gs env with
    | err env1 x => rw [q] at o; exact o
    | stuck => rw [q] at o; exact o
    | ok env1 ds =>
      rw [q] at o
      intro H1 F1 fp1 vs s1 g1 r1
      have o1 := Out.step o s1
      simp only [Res.bind_ok] at o1
      split at o1
      · rename_i d0 h0
        obtain ⟨v0', hv0', ow⟩ := g1.slot j d0 h0
        have ev : v0' = v0 := by rw [hv0] at hv0'; simpa using hv0'.symm
        subst ev
        refine ⟨by simp [r1.length, hn _ _ _ q], F1, some d0 :: ds.map some, _, by simpa using good_first g1 r1 h0 hv0 ow, ?_⟩
        cases qg : g (some d0 :: ds.map some) with
        | stuck => rw [qg] at o1; exact o1.elim
        | err e2 x =>
          rw [qg] at o1
          match e2, qg, o1 with
          | some d0' :: e2, qg, o1 =>
            have z := err_callT (d0' := d0') (e2 := e2) (vs := vs) g1 hv0 o1
            rw [← List.append_nil (v0' :: vs)] at z
            exact z
          | none :: _, _, o1 => exact o1.elim
          | [], _, o1 => exact o1.elim
        | ok e2 d =>
          rw [qg] at o1
          match e2, qg, o1 with
          | some d0' :: e2, qg, o1 =>
            intro H' F' fp2 v s g2 rv
            have g2' : Good T [ms.getD j .sh] (some d0' :: e2) ((v0' :: vs).map some) H' F' fp2 := by simpa using g2
            refine o1 H' F' (fun i a => if i = j then fp2 0 a else fp1 i a) v (step_back s fun a h => ?_) (good_back g1 hv0 s (fun a z => ⟨0, z⟩) g2') rv
            exact (all_back h).imp id fun ⟨i, _, z⟩ => ⟨i, z⟩
          | none :: _, _, o1 => exact o1.elim
          | [], _, o1 => exact o1.elim
      · exact o1.elim
  · exact o.elim
theorem out_callTP {n : Nat} (hn : Cnt gs n) {m : Mode} (hm : ms.getD j .sh = m) (w : tP T W ms k (gCallT g j gs) σ H Q) : tCallSD (spP T [m] (n + 1) k g) [] (WE W) (tCons (tVar j) (tA T W ms gs)) σ H Q := by
  subst hm
  obtain ⟨F, env, fp, gd, o⟩ := w
  unfold gCallT at o
  split at o
  · rename_i dz hz
    obtain ⟨v0, hv0, _⟩ := gd.slot j dz hz
    refine ⟨v0, hv0, F, env, fp, gd, ?_⟩
    cases q : gs env with
    | err env1 x => rw [q] at o; exact o
    | stuck => rw [q] at o; exact o
    | ok env1 ds =>
      rw [q] at o
      intro H1 F1 fp1 vs s1 g1 r1
      have o1 := OutP.step o s1
      simp only [Res.bind_ok] at o1
      split at o1
      · rename_i d0 h0
        obtain ⟨v0', hv0', ow⟩ := g1.slot j d0 h0
        have ev : v0' = v0 := by rw [hv0] at hv0'; simpa using hv0'.symm
        subst ev
        refine ⟨by simp [r1.length, hn _ _ _ q], F1, some d0 :: ds.map some, _, by simpa using good_first g1 r1 h0 hv0 ow, ?_⟩
        cases qg : g (some d0 :: ds.map some) with
        | stuck => rw [qg] at o1; exact o1.elim
        | err e2 x =>
          rw [qg] at o1
          match e2, qg, o1 with
          | some d0' :: e2, qg, o1 =>
            have z := err_callT (d0' := d0') (e2 := e2) (vs := vs) g1 hv0 o1
            rw [← List.append_nil (v0' :: vs)] at z
            exact z
          | none :: _, _, o1 => exact o1.elim
          | [], _, o1 => exact o1.elim
        | ok e2 d =>
          rw [qg] at o1
          match e2, qg, o1 with
          | some d0' :: e2, qg, o1 =>
            intro H' F' fp2 v fv s g2 rv off dis
            have g2' : Good T [ms.getD j .sh] (some d0' :: e2) ((v0' :: vs).map some) H' F' fp2 := by simpa using g2
            refine o1 H' F' (fun i a => if i = j then fp2 0 a else fp1 i a) v fv (step_back s fun a h => ?_) (good_back g1 hv0 s (fun a z => .inl ⟨0, z⟩) g2') rv off fun i a h1 h2 => ?_
            · rcases h with h | h
              · rcases all_back h with z | ⟨i, _, z⟩
                · exact .inl (.inl z)
                · exact .inr ⟨i, z⟩
              · exact .inl (.inr h)
            · split at h1
              · exact dis 0 a h1 h2
              · rename_i hi
                rcases s.fpn a (.inr h2) with ⟨_, _, z⟩ | z
                · exact g1.dis i j a hi h1 z
                · exact (g1.off i a h1).2 z
          | none :: _, _, o1 => exact o1.elim
          | [], _, o1 => exact o1.elim
      · exact o1.elim
  · exact o.elim
theorem se_callT {n : Nat} {y : Str} {yp : Pos} {m : Mode} (hF : CalD X lv x [] (spS T [m] (n + 1) g)) (hr : Room lv X.A) (tk : L2N.Takes X W) (hg : Gl X x) (hm : ms.getD j .sh = m) (ha : SA X T W ms es gs) (hc : Cnt gs n)
    (hN : X.N[j]? = some y := by rfl) (hv : Vis X.env.scope y := by first | exact Or.inl rfl | exact Or.inr (Or.inl rfl) | exact Or.inr (Or.inr rfl)) (hd : (y == ("__debug__" : Str)) = false := by decide) (hcd : (y == ("__classdict__" : Str)) = false := by decide)
    (hst : starEach (.Name y yp :: es) X.env = (false, eval (.Name y yp) X.env) :: starEach es X.env := by rfl)
    (hdb : (x == ("__debug__" : Str)) = false := by decide) (hpl : (backTo pos (starEach es X.env)).any (·.1) = false := by rfl) : SE X T W ms (.Call (.Name x p) (.Name y yp :: es) [] pos) (gCallT g j gs) := by
  obtain ⟨f, fd, ps, ds, h1, h2, h3, h4, h5⟩ := hF.ex
  exact PE.imp (pe_callSD (E := WE W) h5 hr hg h1 h2 h3 h4 (fun σ => L2N.passAt tk σ) (pa_cons (pe_var hN hv hd hcd) ha hst) hdb hst hpl) fun _ _ _ w => out_callT hc hm w
theorem sp_callT {n : Nat} {y : Str} {yp : Pos} {m : Mode} (hF : CalD X lv x [] (spP T [m] (n + 1) k g)) (hr : Room lv X.A) (tk : L2N.Takes X W) (hg : Gl X x) (hm : ms.getD j .sh = m) (ha : SA X T W ms es gs) (hc : Cnt gs n)
    (hN : X.N[j]? = some y := by rfl) (hv : Vis X.env.scope y := by first | exact Or.inl rfl | exact Or.inr (Or.inl rfl) | exact Or.inr (Or.inr rfl)) (hd : (y == ("__debug__" : Str)) = false := by decide) (hcd : (y == ("__classdict__" : Str)) = false := by decide)
    (hst : starEach (.Name y yp :: es) X.env = (false, eval (.Name y yp) X.env) :: starEach es X.env := by rfl)
    (hdb : (x == ("__debug__" : Str)) = false := by decide) (hpl : (backTo pos (starEach es X.env)).any (·.1) = false := by rfl) : SP' X T W ms k (.Call (.Name x p) (.Name y yp :: es) [] pos) (gCallT g j gs) := by
  obtain ⟨f, fd, ps, ds, h1, h2, h3, h4, h5⟩ := hF.ex
  exact PE.imp (pe_callSD (E := WE W) h5 hr hg h1 h2 h3 h4 (fun σ => L2N.passAt tk σ) (pa_cons (pe_var hN hv hd hcd) ha hst) hdb hst hpl) fun _ _ _ w => out_callTP hc hm w
end
end TL

set_option Elab.async false
set_option linter.all false
set_option maxRecDepth 100000
set_option maxHeartbeats 2000000
namespace TL
open PySem PySem.Spec PyProof.Rows L2

/-! ### defs called at slots' wishes: methods, construction -/
section
variable {X : Cx} {CX : CXT} {k : Nat} {f C : Addr} {fd : FuncData} {ps : List Str} {sp : Sp} {dvs : List V} {ds : List Value} {E : L2.St → XK} {x m : Str} {p pos apos : Pos} {e o : Expr} {es : List Expr} {ta : TE} {t : TA}
def tMethSD (C : Addr) (m : Str) (sp : Sp) (dvs : List V) (E : L2.St → XK) (ta : TE) (t : TA) : TE := fun σ H Q => ta σ H fun x H1 => ∃ a dx fs, x = .ref a ∧ H1 a = some (.ins C dx fs) ∧ fs.lookup m = none ∧
  t σ H1 fun vs H2 => sp (x :: (vs ++ dvs)) H2 Q (E σ)
theorem pe_methSD {pl : Sem Bool} (he : PE X o ta) (c : Cls X.K C) (hm : Meth X.K C m f) (F : FnOk X.prog X.w X.K X.mg X.base CX k f fd ps sp) (hr : Room k X.A) (hb : Binds X.K fd ps ds) (hd : Vals dvs ds) (hx : ∀ σ, PassesAt CX X σ (E σ)) (ha : PA X (e :: es) t)
    (hst : starEach (e :: es) X.env = (false, eval e X.env) :: starEach es X.env := by rfl) (hpl : (backTo pos (starEach es X.env)).any (·.1) = false := by rfl)
    (ht : eval (.Call (.Attribute o m apos) (e :: es) [] pos) X.env = (do
      let ov ← eval o X.env
      standAt apos.atName
      let (f, first) ← holding [ov] (getMethod ov m pl)
      callWith pos f first (backTo pos (starEach (e :: es) X.env)) (backToKw pos (keywordEach [] X.env))) := by rfl) :
    PE X (.Call (.Attribute o m apos) (e :: es) [] pos) (tMethSD C m sp dvs E ta t) := by
  refine ⟨fun pins s σ H Q I h => ?_⟩
  refine PySem.W.methodCall_KW (pl := pl) (thn (he.run pins s σ H _ I h) fun u s1 ⟨x, H1, I1, rx, a, dx, fs, ex, ea, l, q⟩ => ?_) ht
  subst ex
  obtain rfl : u = Value.ref a := rx
  refine getmeth_ok I1 ea c hm l ?_
  refine PySem.W.callWith_K (first := [.ref a]) (h₀ := X.base) I.ok.mod.kin hm.kp (thn (ha.run pos pins s1 σ H1 _ I1 q) fun us s2 ⟨vs, H2, I2, r, q2⟩ => ⟨I2.kIn, ?_⟩) hst hpl
  exact run_fnSD (us := .ref a :: us) (vs := .ref a :: vs) F hr hb hd (hx σ) I2 (.cons rfl r) q2
theorem pe_meth0SD {pl : Sem Bool} (he : PE X o ta) (c : Cls X.K C) (hm : Meth X.K C m f) (F : FnOk X.prog X.w X.K X.mg X.base CX k f fd ps sp) (hr : Room k X.A) (hb : Binds X.K fd ps ds) (hd : Vals dvs ds) (hx : ∀ σ, PassesAt CX X σ (E σ))
    (ht : eval (.Call (.Attribute o m apos) [] [] pos) X.env = (do
      let ov ← eval o X.env
      standAt apos.atName
      let (f, first) ← holding [ov] (getMethod ov m pl)
      callWith pos f first (backTo pos (starEach [] X.env)) (backToKw pos (keywordEach [] X.env))) := by rfl) :
    PE X (.Call (.Attribute o m apos) [] [] pos) (tMethSD C m sp dvs E ta tNil) := by
  refine ⟨fun pins s σ H Q I h => ?_⟩
  refine PySem.W.methodCall_KW (pl := pl) (thn (he.run pins s σ H _ I h) fun u s1 ⟨x, H1, I1, rx, a, dx, fs, ex, ea, l, q⟩ => ?_) ht
  subst ex
  obtain rfl : u = Value.ref a := rx
  refine getmeth_ok I1 ea c hm l ?_
  exact PySem.W.callWith_K0 (first := [.ref a]) I1.kIn hm.kp (run_fnSD (us := [.ref a]) (vs := [.ref a]) F hr hb hd (hx σ) I1 (.cons rfl .nil) q)
def tMakeSD (C : Addr) (sp : Sp) (dvs : List V) (E : L2.St → XK) (t : TA) : TE := fun σ H Q => t σ H fun vs H1 => ∀ x dx, H1 x = none → H1 dx = none → dx ≠ x →
  sp (.ref x :: (vs ++ dvs)) (upd (upd H1 dx (.own x)) x (.ins C dx [])) (fun v H2 => v = .non ∧ Q (.ref x) H2) (E σ)
theorem run_makeSD {pins : List (Addr × Obj)} {σ : L2.St} {H : Hp} {s : Shared} {Q : VK} {us : List Value} {vs : List V} (M : Mk X.K C f) (F : FnOk X.prog X.w X.K X.mg X.base CX k f fd ps sp) (hr : Room (k + 1) X.A) (hb : Binds X.K fd ps ds) (hd : Vals dvs ds)
    (hx : PassesAt CX X σ (E σ)) (I : Inv X pins σ H s) (r : Vals vs us)
    (h : ∀ x dx, H x = none → H dx = none → dx ≠ x → sp (.ref x :: (vs ++ dvs)) (upd (upd H dx (.own x)) x (.ins C dx [])) (fun v H2 => v = .non ∧ Q (.ref x) H2) (E σ)) :
    wpAny (model X.prog X.w) X.A (call (.ref C) us) (EP X pins σ Q) X.xe s := by
  have hq := h (s.heap.objs.size + 1) s.heap.objs.size (I.hok.fresh (Nat.le_succ _)) (I.hok.fresh (Nat.le_refl _)) (Nat.ne_of_lt (Nat.lt_succ_self _))
  have I2 := Inv.made (C := C) I
  have r2 : Vals (V.ref (s.heap.objs.size + 1) :: (vs ++ dvs)) (Value.ref (s.heap.objs.size + 1) :: (us ++ ds)) := .cons rfl (r.append hd)
  have hl : (Value.ref (s.heap.objs.size + 1) :: us ++ ds).length = ps.length := by
    have e := r2.length
    rw [F.len _ _ _ _ hq] at e
    exact e.symm
  refine wpAny_call (make_map (f := f) I.kIn M.makes M.init (beq_iff_eq.mp M.fn) (codeAny_mono (F.run _ X.stack _ _ ⟨Value.ref (s.heap.objs.size + 1) :: us, []⟩ (Value.ref (s.heap.objs.size + 1) :: (us ++ ds)) _ _ (E σ) (hr.make C us [])
    (I2.env0.make C us []) (hb _ (Value.ref (s.heap.objs.size + 1) :: us) I2.kIn hl) r2 hq) fun r s' hq' => ?_))
  cases r with
  | error e => exact hx pins _ _ e s' I2 hq'
  | ok fl =>
    cases fl with
    | ret u =>
      obtain ⟨v, H', I3, rv, ev, q3⟩ := I2.after hq'
      subst ev
      exact ⟨rv, ⟨V.ref (s.heap.objs.size + 1), H', I3, rfl, q3⟩⟩
    | next => exact False.elim hq'
    | brk => exact False.elim hq'
    | cont => exact False.elim hq'
theorem pe_makeSD (M : Mk X.K C f) (F : FnOk X.prog X.w X.K X.mg X.base CX k f fd ps sp) (hr : Room (k + 1) X.A) (hg : Gl X x) (hm : X.mg x = some (.ref C)) (hb : Binds X.K fd ps ds) (hd : Vals dvs ds) (hx : ∀ σ, PassesAt CX X σ (E σ))
    (ha : PA X (e :: es) t) (hdb : (x == ("__debug__" : Str)) = false := by decide) (he : starEach (e :: es) X.env = (false, eval e X.env) :: starEach es X.env := by rfl) (hpl : (backTo pos (starEach es X.env)).any (·.1) = false := by rfl) :
    PE X (.Call (.Name x p) (e :: es) [] pos) (tMakeSD C sp dvs E t) := by
  refine ⟨fun pins s σ H Q I h => ?_⟩
  refine wpAny_Call_Name_kw (ld_glob I hg hm ?_ hdb)
  refine PySem.W.callWith_K (h₀ := X.base) I.ok.mod.kin M.kp (thn (ha.run pos pins s σ H _ I h) fun us s1 ⟨vs, H1, I1, r, q⟩ => ⟨I1.kIn, ?_⟩) he hpl
  exact run_makeSD M F hr hb hd (hx σ) I1 r q
end

/-! ### a class of instances: its number c in the table, its fields; facts of the text -/
structure ClsD (X : Cx) (T : Tb) (c : Nat) : Prop where
  cls : Cls X.K (T.cl c)
  no : ∀ f ∈ T.fl c, NoAttr X.K (T.cl c) f
  nd : (T.fl c).Nodup
  few : (T.fl c).length < 1000
  ca : PySem.W.findIn X.K (.ref (T.cl c)) "__class__" = some (some (.builtin "object.__class__"))
  cn : PySem.W.specialIn X.K (.builtin "object.__class__") "__get__" = some (some (.builtin "getset_descriptor.__get__"))
  ct : PySem.W.takesIn X.K (.builtin "object.__class__") = some true
  cm : PySem.W.mroIn X.K (T.cl c) (.type "object") = some true
theorem lookup_zip : ∀ {fs : List Str} {vs : List V} {i : Nat} {f : Str} {v : V}, fs.Nodup → fs[i]? = some f → vs[i]? = some v → (fs.zip vs).lookup f = some v
  | [], _, _, _, _, _, h, _ => by simp at h
  | g :: fs, [], _, _, _, _, _, h => by simp at h
  | g :: fs, u :: vs, 0, f, v, _, h, h' => by simp at h h'; subst h h'; simp [List.lookup]
  | g :: fs, u :: vs, i + 1, f, v, nd, h, h' => by
    have hg : f ≠ g := fun e => by
      subst e
      have := List.mem_of_getElem? (by simpa using h : fs[i]? = some f)
      exact (List.nodup_cons.mp nd).1 this
    have hb : (f == g) = false := by simpa using hg
    show List.lookup f ((g, u) :: fs.zip vs) = some v
    rw [List.lookup_cons, hb]
    exact lookup_zip (List.nodup_cons.mp nd).2 (by simpa using h) (by simpa using h')
theorem lookup_zip_none {fs : List Str} {vs : List V} {f : Str} (h : f ∉ fs) : (fs.zip vs).lookup f = none := by
  induction fs generalizing vs with
  | nil => rfl
  | cons g fs ih =>
    cases vs with
    | nil => rfl
    | cons v vs =>
      have hb : (f == g) = false := by simpa using fun e : f = g => h (by subst e; exact List.mem_cons_self)
      show List.lookup f ((g, v) :: fs.zip vs) = none
      rw [List.lookup_cons, hb]
      exact ih fun z => h (List.mem_cons_of_mem _ z)
section
variable {X : Cx} {T : Tb} {ms : List Mode} {W : WX} {e o a b : Expr} {es : List Expr} {pos p apos : Pos} {ga gb g : G} {gs : GA} {k : Mode} {x m f : Str} {lv n c i : Nat} {dds : List D} {dvs : List V} {C : Addr}
/-- o.f, a field of a shared instance of the class c -/
def gFld (c i : Nat) (ga : G) : G := fun env => (ga env).bind fun env1 d => match d with
  | .obj c' ds => if c' = c then .ofO env1 ds[i]? else .stuck
  | _ => .stuck
theorem se_fld (cd : ClsD X T c) (hi : (T.fl c)[i]? = some f) (ha : SE X T W ms o ga) (hb : attributeBase o f X.env (eval o X.env) = eval o X.env := by rfl) : SE X T W ms (.Attribute o f pos) (gFld c i ga) :=
  PE.imp (pe_fld ha hb) fun σ H Q ⟨F, env, fp, g, w⟩ => ⟨F, env, fp, g, Out.bind w fun env1 d H1 F1 fp1 v g1 r1 o1 => by
    cases d with
    | obj c' ds =>
      simp only at o1
      split at o1
      · rename_i hc
        subst hc
        unfold Rep at r1
        obtain ⟨a, dx, vs, e1, q, l, r⟩ := r1
        cases hd : ds[i]? with
        | none => rw [hd] at o1; exact o1.elim
        | some d =>
          rw [hd] at o1
          obtain ⟨u, hu, ru⟩ := r.get hd
          exact ⟨a, _, dx, _, u, e1, g1.sub _ _ q, cd.cls, cd.no f (List.mem_of_getElem? hi), lookup_zip cd.nd hi hu, Out.fin o1 g1 (Ext0.refl g1.sub) ru⟩
      · exact o1.elim
    | _ => exact o1.elim⟩

/-! ### methods of shared instances -/
structure MetD (X : Cx) (T : Tb) (lv : Nat) (c : Nat) (m : Str) (dvs : List V) (sp : Sp) : Prop where
  ex : ∃ (f : Addr) (fd : FuncData) (ps : List Str) (ds : List Value), Meth X.K (T.cl c) m f ∧ Binds X.K fd ps ds ∧ Vals dvs ds ∧ FnOk X.prog X.w X.K X.mg X.base (L2N.CX X.prog X.w) lv f fd ps sp
  no : m ∉ T.fl c
def gMeth (c : Nat) (g : G) (dds : List D) (ga : G) (gs : GA) : G := fun env => (ga env).bind fun env1 d => match d with
  | .obj c' fs => if c' = c then (gs env1).bind fun env2 ds => ret0 env2 (g ((D.obj c fs :: (ds ++ dds)).map some)) else .stuck
  | _ => .stuck
theorem out_meth {cnt : Nat} (hno : m ∉ T.fl c) (hd : ∀ F, RepL T F dds dvs) (hn : Cnt gs cnt) {σ : L2.St} {H : Hp} {Q : VK} (w : tS T W ms (gMeth c g dds ga gs) σ H Q) :
    tMethSD (T.cl c) m (spS T [] (cnt + dds.length + 1) g) dvs (WE W) (tS T W ms ga) (tA T W ms gs) σ H Q := by
  obtain ⟨F, env, fp, gd, o⟩ := w
  refine ⟨F, env, fp, gd, Out.bind o fun env1 d H1 F1 fp1 v g1 r1 o1 => ?_⟩
  cases d with
  | obj c' fs =>
    simp only at o1
    split at o1
    · rename_i hc
      subst hc
      have r1' := r1
      unfold Rep at r1'
      obtain ⟨a, dx, vs, e1, q, l, r⟩ := r1'
      refine ⟨a, dx, _, e1, g1.sub _ _ q, lookup_zip_none hno, F1, env1, fp1, g1, ?_⟩
      cases qs : gs env1 with
      | err env2 x => rw [qs] at o1; exact o1
      | stuck => rw [qs] at o1; exact o1
      | ok env2 ds =>
        rw [qs] at o1
        intro H2 F2 fp2 us s2 g2 r2
        have o2 := Out.step o1 s2
        simp only [Res.bind_ok] at o2
        refine spS_of (ds := D.obj c' fs :: (ds ++ dds)) g2 ?_ (by simp [hn _ _ _ qs]) o2
        unfold RepL
        exact ⟨v, _, rfl, r1.mono s2.grow, r2.append (hd F2)⟩
    · exact o1.elim
  | _ => exact o1.elim
theorem out_methP {cnt : Nat} (hno : m ∉ T.fl c) (hd : ∀ F, RepL T F dds dvs) (hn : Cnt gs cnt) {σ : L2.St} {H : Hp} {Q : VK} (w : tP T W ms k (gMeth c g dds ga gs) σ H Q) :
    tMethSD (T.cl c) m (spP T [] (cnt + dds.length + 1) k g) dvs (WE W) (tS T W ms ga) (tA T W ms gs) σ H Q := by
  obtain ⟨F, env, fp, gd, o⟩ := w
  refine ⟨F, env, fp, gd, OutP.bind o fun env1 d H1 F1 fp1 v g1 r1 o1 => ?_⟩
  cases d with
  | obj c' fs =>
    simp only at o1
    split at o1
    · rename_i hc
      subst hc
      have r1' := r1
      unfold Rep at r1'
      obtain ⟨a, dx, vs, e1, q, l, r⟩ := r1'
      refine ⟨a, dx, _, e1, g1.sub _ _ q, lookup_zip_none hno, F1, env1, fp1, g1, ?_⟩
      cases qs : gs env1 with
      | err env2 x => rw [qs] at o1; exact o1
      | stuck => rw [qs] at o1; exact o1
      | ok env2 ds =>
        rw [qs] at o1
        intro H2 F2 fp2 us s2 g2 r2
        have o2 := OutP.step o1 s2
        simp only [Res.bind_ok] at o2
        refine spS_ofP (ds := D.obj c' fs :: (ds ++ dds)) g2 ?_ (by simp [hn _ _ _ qs]) o2
        unfold RepL
        exact ⟨v, _, rfl, r1.mono s2.grow, r2.append (hd F2)⟩
    · exact o1.elim
  | _ => exact o1.elim
theorem tA_nil {σ : L2.St} {H : Hp} {Q : List V → Hp → Prop} (w : tA T W ms gNil σ H Q) : tNil σ H Q := by
  obtain ⟨F, env, fp, g, o⟩ := w
  exact o H F fp [] Step.refl g RepL.nil
theorem tMethSD_mono {C : Addr} {sp : Sp} {E : L2.St → XK} {t t' : TA} {σ : L2.St} {H : Hp} {Q : VK} (h : tMethSD C m sp dvs E (tS T W ms ga) t σ H Q) (i : ∀ H Q, t σ H Q → t' σ H Q) : tMethSD C m sp dvs E (tS T W ms ga) t' σ H Q := by
  obtain ⟨F, env, fp, g, o⟩ := h
  exact ⟨F, env, fp, g, Out.mono o fun v H1 ⟨a, dx, fs, e1, e2, e3, q⟩ => ⟨a, dx, fs, e1, e2, e3, i _ _ q⟩⟩
section
variable {pl : Sem Bool} {cnt : Nat}
theorem se_meth (cd : ClsD X T c) (hF : MetD X T lv c m dvs (spS T [] (cnt + dds.length + 1) g)) (hr : Room lv X.A) (tk : L2N.Takes X W) (hd : ∀ F, RepL T F dds dvs) (ho : SE X T W ms o ga) (ha : SA X T W ms (e :: es) gs) (hn : Cnt gs cnt)
    (hst : starEach (e :: es) X.env = (false, eval e X.env) :: starEach es X.env := by rfl) (hpl : (backTo pos (starEach es X.env)).any (·.1) = false := by rfl)
    (ht : eval (.Call (.Attribute o m apos) (e :: es) [] pos) X.env = (do
      let ov ← eval o X.env
      standAt apos.atName
      let (f, first) ← holding [ov] (getMethod ov m pl)
      callWith pos f first (backTo pos (starEach (e :: es) X.env)) (backToKw pos (keywordEach [] X.env))) := by rfl) :
    SE X T W ms (.Call (.Attribute o m apos) (e :: es) [] pos) (gMeth c g dds ga gs) := by
  obtain ⟨f, fd, ps, ds, h1, h2, h3, h4⟩ := hF.ex
  exact PE.imp (pe_methSD (E := WE W) ho cd.cls h1 h4 hr h2 h3 (fun σ => L2N.passAt tk σ) ha hst hpl ht) fun _ _ _ w => out_meth hF.no hd hn w
theorem sp_meth (cd : ClsD X T c) (hF : MetD X T lv c m dvs (spP T [] (cnt + dds.length + 1) k g)) (hr : Room lv X.A) (tk : L2N.Takes X W) (hd : ∀ F, RepL T F dds dvs) (ho : SE X T W ms o ga) (ha : SA X T W ms (e :: es) gs) (hn : Cnt gs cnt)
    (hst : starEach (e :: es) X.env = (false, eval e X.env) :: starEach es X.env := by rfl) (hpl : (backTo pos (starEach es X.env)).any (·.1) = false := by rfl)
    (ht : eval (.Call (.Attribute o m apos) (e :: es) [] pos) X.env = (do
      let ov ← eval o X.env
      standAt apos.atName
      let (f, first) ← holding [ov] (getMethod ov m pl)
      callWith pos f first (backTo pos (starEach (e :: es) X.env)) (backToKw pos (keywordEach [] X.env))) := by rfl) :
    SP' X T W ms k (.Call (.Attribute o m apos) (e :: es) [] pos) (gMeth c g dds ga gs) := by
  obtain ⟨f, fd, ps, ds, h1, h2, h3, h4⟩ := hF.ex
  exact PE.imp (pe_methSD (E := WE W) ho cd.cls h1 h4 hr h2 h3 (fun σ => L2N.passAt tk σ) ha hst hpl ht) fun _ _ _ w => out_methP hF.no hd hn w
theorem se_meth0 (cd : ClsD X T c) (hF : MetD X T lv c m dvs (spS T [] (0 + dds.length + 1) g)) (hr : Room lv X.A) (tk : L2N.Takes X W) (hd : ∀ F, RepL T F dds dvs) (ho : SE X T W ms o ga)
    (ht : eval (.Call (.Attribute o m apos) [] [] pos) X.env = (do
      let ov ← eval o X.env
      standAt apos.atName
      let (f, first) ← holding [ov] (getMethod ov m pl)
      callWith pos f first (backTo pos (starEach [] X.env)) (backToKw pos (keywordEach [] X.env))) := by rfl) :
    SE X T W ms (.Call (.Attribute o m apos) [] [] pos) (gMeth c g dds ga gNil) := by
  obtain ⟨f, fd, ps, ds, h1, h2, h3, h4⟩ := hF.ex
  exact PE.imp (pe_meth0SD (E := WE W) ho cd.cls h1 h4 hr h2 h3 (fun σ => L2N.passAt tk σ) ht) fun _ _ _ w => tMethSD_mono (out_meth hF.no hd cnt_nil w) fun _ _ z => tA_nil z
theorem sp_meth0 (cd : ClsD X T c) (hF : MetD X T lv c m dvs (spP T [] (0 + dds.length + 1) k g)) (hr : Room lv X.A) (tk : L2N.Takes X W) (hd : ∀ F, RepL T F dds dvs) (ho : SE X T W ms o ga)
    (ht : eval (.Call (.Attribute o m apos) [] [] pos) X.env = (do
      let ov ← eval o X.env
      standAt apos.atName
      let (f, first) ← holding [ov] (getMethod ov m pl)
      callWith pos f first (backTo pos (starEach [] X.env)) (backToKw pos (keywordEach [] X.env))) := by rfl) :
    SP' X T W ms k (.Call (.Attribute o m apos) [] [] pos) (gMeth c g dds ga gNil) := by
  obtain ⟨f, fd, ps, ds, h1, h2, h3, h4⟩ := hF.ex
  exact PE.imp (pe_meth0SD (E := WE W) ho cd.cls h1 h4 hr h2 h3 (fun σ => L2N.passAt tk σ) ht) fun _ _ _ w => tMethSD_mono (out_methP hF.no hd cnt_nil w) fun _ _ z => tA_nil z
end
end
end TL

set_option Elab.async false
set_option linter.all false
set_option maxRecDepth 100000
set_option maxHeartbeats 2000000
namespace TL
open PySem PySem.Spec PyProof.Rows L2

/-! ### construction -/
structure MakD (X : Cx) (T : Tb) (lv : Nat) (x : Str) (c : Nat) (dvs : List V) (sp : Sp) : Prop where
  ex : ∃ (f : Addr) (fd : FuncData) (ps : List Str) (ds : List Value), X.mg x = some (.ref (T.cl c)) ∧ Mk X.K (T.cl c) f ∧ Binds X.K fd ps ds ∧ Vals dvs ds ∧ FnOk X.prog X.w X.K X.mg X.base (L2N.CX X.prog X.w) lv f fd ps sp
section
variable {X : Cx} {T : Tb} {ms : List Mode} {W : WX} {e o a b : Expr} {es : List Expr} {pos p apos : Pos} {ga gb g gI : G} {gs : GA} {k : Mode} {x m f : Str} {lv n c i nf cnt : Nat} {dds : List D} {dvs : List V}
def retM (env : Env) (c nf : Nat) : Res D → Res D
  | .ok (some (.part c' fs) :: _) .non => if c' = c ∧ fs.length = nf then .ok env (.obj c fs) else .stuck
  | .err (some (.part _ _) :: _) x => .err env x
  | _ => .stuck
def gMake (c nf : Nat) (gI : G) (dds : List D) (gs : GA) : G := fun env => (gs env).bind fun env1 ds => retM env1 c nf (gI (some (.part c []) :: (ds ++ dds).map some))
theorem good_make {H F : Hp} {ds : List D} {vs : List V} {y dx : Addr} (s : Same F H) (r : RepL T F ds vs) (hy : H y = none) (hd : H dx = none) (hne : dx ≠ y) :
    Good T [.part] (some (.part c []) :: ds.map some) ((V.ref y :: vs).map some) (upd (upd H dx (.own y)) y (.ins (T.cl c) dx [])) F (fun i a => i = 0 ∧ a = y) := by
  refine ⟨by simp [r.length], fun b u h => ?_, fun i d e => ?_, fun i j a hne h1 h2 => hne (h1.1.trans h2.1.symm), fun i a ⟨_, z⟩ => ?_⟩
  · rw [upd_ne (ne_of_none (s b u h) hy), upd_ne (ne_of_none (s b u h) hd)]; exact s b u h
  · cases i with
    | zero =>
      have e' : D.part c [] = d := by simpa using e
      subst e'
      refine ⟨.ref y, rfl, ?_⟩
      show Own T F _ .part (.part c []) (.ref y) _
      unfold Own
      refine ⟨y, dx, [], rfl, ?_, fun b => by simp, Nat.zero_le _, RepL.nil⟩
      rw [List.zip_nil_right]
      exact upd_same
    | succ i =>
      have e' : (ds.map some)[i]? = some (some d) := by simpa using e
      rw [List.getElem?_map] at e'
      cases q : ds[i]? with
      | none => rw [q] at e'; cases e'
      | some d' =>
        rw [q] at e'
        cases e'
        obtain ⟨v, h1, h2⟩ := r.get q
        exact ⟨v, by simp [h1], ⟨fun a z => (nomatch z.1), h2⟩⟩
  · subst z
    exact ⟨s.free hy, by rw [upd_same]; exact fun z => nomatch z⟩
theorem make_step {H F H' F' : Hp} {y dx : Addr} {P : Ad} {o1 o2 : HO} (hy : H y = none) (hd : H dx = none) (s : Step (upd (upd H dx o1) y o2) F (All (fun (i : Nat) a => i = 0 ∧ a = y)) H' F' P) (g : Same F' H') : Ext0 H F H' F' :=
  ⟨fun b o h => s.keep b o (by rw [upd_ne (ne_of_none h hy), upd_ne (ne_of_none h hd)]; exact h) fun ⟨_, _, z⟩ => ne_of_none h hy z, s.grow, fun b h => by
    rcases s.new b h with z | z | ⟨_, _, z⟩
    · exact .inl z
    · right
      by_cases e1 : b = y
      · rw [e1]; exact hy
      · by_cases e2 : b = dx
        · rw [e2]; exact hd
        · rw [upd_ne e1, upd_ne e2] at z; exact z
    · right; rw [z]; exact hy, g⟩
theorem out_make (hnf : (T.fl c).length = nf) (hd : ∀ F, RepL T F dds dvs) (hn : Cnt gs cnt) {σ : L2.St} {H : Hp} {Q : VK} (w : tP T W ms (.own .sh) (gMake c nf gI dds gs) σ H Q) :
    tMakeSD (T.cl c) (spS T [.part] (cnt + dds.length + 1) gI) dvs (WE W) (tA T W ms gs) σ H Q := by
  obtain ⟨F, env, fp, gd, o⟩ := w
  refine ⟨F, env, fp, gd, ?_⟩
  unfold gMake at o
  cases q : gs env with
  | err env1 x => rw [q] at o; exact o
  | stuck => rw [q] at o; exact o
  | ok env1 ds =>
    rw [q] at o
    intro H1 F1 fp1 vs s1 g1 r1 y dx hy hdx hne
    have o1 := OutP.step o s1
    simp only [Res.bind_ok] at o1
    have r2 := r1.append (hd F1)
    refine ⟨by simp [r2.length, hn _ _ _ q], F1, _, _, good_make g1.sub r2 hy hdx hne, ?_⟩
    cases qg : gI (some (.part c []) :: (ds ++ dds).map some) with
    | stuck => rw [qg] at o1; exact o1.elim
    | err e2 x =>
      rw [qg] at o1
      match e2, qg, o1 with
      | some (.part c' fs) :: e2, qg, o1 =>
        intro H' F' fp2 cv dd s g2 er
        have ex := make_step hy hdx s g2.sub
        exact o1 H' F' fp1 cv dd (ex.step g1) (g1.ext ex) er
      | [], _, o1 => exact o1.elim
      | none :: _, _, o1 => exact o1.elim
      | some .non :: _, _, o1 => exact o1.elim
      | some (.bl _) :: _, _, o1 => exact o1.elim
      | some (.int _) :: _, _, o1 => exact o1.elim
      | some (.str _) :: _, _, o1 => exact o1.elim
      | some (.ty _) :: _, _, o1 => exact o1.elim
      | some (.at_ _) :: _, _, o1 => exact o1.elim
      | some (.lst _) :: _, _, o1 => exact o1.elim
      | some (.tup _) :: _, _, o1 => exact o1.elim
      | some (.obj _ _) :: _, _, o1 => exact o1.elim
      | some (.dic _ _) :: _, _, o1 => exact o1.elim
    | ok e2 d =>
      rw [qg] at o1
      unfold retM at o1
      split at o1
      · rename_i c' fs tl heq
        cases heq
        split at o1
        · rename_i hcl
          obtain ⟨hc', hl⟩ := hcl
          subst hc'
          intro H' F' fp2 v s g2 rv
          unfold Rep at rv
          refine ⟨rv, ?_⟩
          have ex := make_step hy hdx s g2.sub
          obtain ⟨u, hu, ow⟩ := g2.slot 0 (.part c' fs) rfl
          have hu' : u = .ref y := by simpa using hu.symm
          subst hu'
          have ow' : Own T F' H' .part (.part c' fs) (.ref y) (fp2 0) := ow
          unfold Own at ow'
          obtain ⟨a, dx', ws, ea, ha, hfp, hle, rl⟩ := ow'
          cases ea
          refine OutP.fin (fv := fun b => b = y) o1 g1 ex ?_ fun b hb => ?_
          · unfold Own
            exact ⟨y, dx', ws, fun _ => False, rfl, ha, id, fun b => by simp, by rw [rl.length, hl, hnf], ownL_sh rl⟩
          · subst hb
            exact ⟨hy, (g2.off 0 b ((hfp b).mpr rfl)).1, by rw [ha]; exact fun z => nomatch z⟩
        · exact o1.elim
      · rename_i heq
        cases heq
      · exact o1.elim
theorem sp_make (hF : MakD X T lv x c dvs (spS T [.part] (cnt + dds.length + 1) gI)) (hr : Room (lv + 1) X.A) (tk : L2N.Takes X W) (hg : Gl X x) (hnf : (T.fl c).length = nf) (hd : ∀ F, RepL T F dds dvs) (ha : SA X T W ms (e :: es) gs) (hc : Cnt gs cnt) (hdb : (x == ("__debug__" : Str)) = false := by decide)
    (he : starEach (e :: es) X.env = (false, eval e X.env) :: starEach es X.env := by rfl) (hpl : (backTo pos (starEach es X.env)).any (·.1) = false := by rfl) : SP' X T W ms (.own .sh) (.Call (.Name x p) (e :: es) [] pos) (gMake c nf gI dds gs) := by
  obtain ⟨f, fd, ps, ds, h1, h2, h3, h4, h5⟩ := hF.ex
  exact PE.imp (pe_makeSD (E := WE W) h2 h5 hr hg h1 h3 h4 (fun σ => L2N.passAt tk σ) ha hdb he hpl) fun _ _ _ w => out_make hnf hd hc w

/-! ### properties, own operators: defs that raise nothing -/
def ans : Res D → Option D
  | .ok _ d => some d
  | _ => none
theorem spS_nox {H F : Hp} {ds : List D} {vs : List V} {d : D} {Q : VK} (s : Same F H) (r : RepL T F ds vs) (hn : ds.length = n) (ha : ans (g (ds.map some)) = some d) (q : ∀ H' F' v, Ext0 H F H' F' → Rep T F' d v → Q v H') : spS T [] n g vs H Q E0 := by
  refine ⟨r.length.trans hn, F, ds.map some, NoAd, good_args s r, ?_⟩
  cases qg : g (ds.map some) with
  | ok e d' =>
    rw [qg] at ha
    cases ha
    exact fun H' F' fp' v s' g' rv => q H' F' v (s'.ext g'.sub) rv
  | err e x => rw [qg] at ha; cases ha
  | stuck => rw [qg] at ha; cases ha
structure PrpD (X : Cx) (T : Tb) (lv : Nat) (c : Nat) (f : Str) (sp : Sp) : Prop where
  ex : ∃ (q g : Addr) (fd : FuncData) (ps : List Str), PropOf X.K (T.cl c) f q g ∧ Binds X.K fd ps [] ∧ FnOk X.prog X.w X.K X.mg X.base (L2N.CX X.prog X.w) lv g fd ps sp
def gPrp (c : Nat) (g : G) (ga : G) : G := fun env => (ga env).bind fun env1 d => match d with
  | .obj c' fs => if c' = c then .ofO env1 (ans (g [some (.obj c fs)])) else .stuck
  | _ => .stuck
theorem se_prp (cd : ClsD X T c) (hF : PrpD X T lv c f (spS T [] 1 g)) (hr : Room (lv + 1) X.A) (ha : SE X T W ms o ga) (hab : attributeBase o f X.env (eval o X.env) = eval o X.env := by rfl) : SE X T W ms (.Attribute o f pos) (gPrp c g ga) := by
  obtain ⟨q, ad, fd, ps, h1, h2, h3⟩ := hF.ex
  refine PE.imp (pe_prop (E := E0) (dvs := []) ha cd.cls h1 h3 hr h2 .nil passN hab) fun σ H Q ⟨F, env, fp, gd, w⟩ => ⟨F, env, fp, gd, Out.bind w fun env1 d H1 F1 fp1 v g1 r1 o1 => ?_⟩
  cases d with
  | obj c' fs =>
    simp only at o1
    split at o1
    · rename_i hc
      subst hc
      have r1' := r1
      unfold Rep at r1'
      obtain ⟨a, dx, vs, e1, qa, l, r⟩ := r1'
      cases hd : ans (g [some (.obj c' fs)]) with
      | none => rw [hd] at o1; exact o1.elim
      | some d =>
        rw [hd] at o1
        refine ⟨a, dx, _, e1, g1.sub _ _ qa, ?_⟩
        subst e1
        exact spS_nox (ds := [.obj c' fs]) g1.sub (RepL.one r1) rfl hd fun H' F' v e rv => Out.fin o1 g1 e rv
    · exact o1.elim
  | _ => exact o1.elim

/-- a def behind an operator: at f of the class c -/
structure OpD (X : Cx) (T : Tb) (lv : Nat) (c : Nat) (nm : Str) (sp : Sp) : Prop where
  ex : ∃ (f : Addr) (fd : FuncData) (ps : List Str), PySem.W.findIn X.K (.ref (T.cl c)) nm = some (some (.ref f)) ∧ PySem.W.isFn X.K (.ref f) = true ∧ Binds X.K fd ps [] ∧ FnOk X.prog X.w X.K X.mg X.base (L2N.CX X.prog X.w) lv f fd ps sp
theorem inst_of {pins : List (Addr × Obj)} {σ : L2.St} {H F : Hp} {s : Shared} {fs : List D} {v : V} {u : Value} (I : L2.Inv X pins σ H s) (sub : Same F H) (r : Rep T F (.obj c fs) v) (ru : RelV v u) :
    ∃ a dx od, v = .ref a ∧ u = .ref a ∧ PySem.W.InstAt s.heap a (PySem.W.instObj (T.cl c) dx) (T.cl c) (some od) ∧ ∃ gs, H a = some (.ins (T.cl c) dx gs) := by
  unfold Rep at r
  obtain ⟨a, dx, vs, e1, q, l, _⟩ := r
  subst e1
  obtain ⟨mA, O, _⟩ := ins_get I.hok (sub _ _ q)
  obtain ⟨od, J, _⟩ := O.look
  exact ⟨a, dx, od, rfl, ru, J, _, sub _ _ q⟩
def dOwn (c : Nat) (g : G) : D → D → Option D
  | .obj c' fs, .obj c'' gs => if c' = c ∧ c'' = c then ans (g [some (.obj c' fs), some (.obj c'' gs)]) else none
  | _, _ => none
def dOwnI (c : Nat) (g : G) : D → D → Option D
  | .obj c' fs, .int i => if c' = c then ans (g [some (.obj c' fs), some (.int i)]) else none
  | _, _ => none
/-- instance op instance, of one class -/
theorem ops_own {op : Operator} (sf : PySem.W.selfFirst X.K (T.cl c) = true) (hF : OpD X T lv c (PySem.dunder op.info.2) (spS T [] 2 g)) (hr : Room lv X.A) : OpS X T (binaryOp op) (dOwn c g) := by
  obtain ⟨f, fd, ps, h1, h2, h3, h4⟩ := hF.ex
  intro pins s σ H x y v u Q I rx ry ⟨F, dx, dy, d, sub, r1, r2, e, q⟩
  unfold dOwn at e
  split at e
  · rename_i c' fs c'' gs
    split at e
    · rename_i hc
      obtain ⟨hc1, hc2⟩ := hc
      subst hc1 hc2
      obtain ⟨a, dxa, oda, ea, eu, Ja, _⟩ := inst_of I sub r1 rx
      obtain ⟨b, dxb, odb, eb, eu', Jb, _⟩ := inst_of I sub r2 ry
      subst ea eu eb eu'
      obtain ⟨m, hFr⟩ := I.fr
      refine PySem.W.binop_K hFr I.ok.mod.kin Ja Jb.type sf h1 h2 (thn (run_fn (Q := Q) (CX := L2N.CX X.prog X.w) (E := E0) (us := [.ref a, .ref b]) (vs := [.ref a, .ref b]) h4 hr h3 .nil passN I (.cons rfl (.cons rfl .nil)) ?_) fun w s' z => ?_)
      · refine spS_nox (ds := [.obj c'' fs, .obj c'' gs]) sub ?_ rfl e q
        unfold RepL
        exact ⟨_, _, rfl, r1, RepL.one r2⟩
      · obtain ⟨z', H', I', rz, qz⟩ := z
        exact SlX.cmpback rz ⟨z', H', I', rz, qz⟩
    · cases e
  · cases e
/-- instance op int -/
theorem ops_ownI {op : Operator} {fo ro rc : Option Value} (sf : PySem.W.selfFirst X.K (T.cl c) = true) (hF : OpD X T lv c (PySem.dunder op.info.2) (spS T [] 2 g)) (hr : Room lv X.A)
    (hrr : PySem.W.findIn X.K (.ref (T.cl c)) (PySem.dunderR op.info.2) = some rc) (hp : rc = none ∨ ∃ g : Addr, rc = some (.ref g)) (t1 : PySem.W.findIn X.K (.type "int") (PySem.dunder op.info.2) = some fo) (t2 : PySem.W.findIn X.K (.type "int") (PySem.dunderR op.info.2) = some ro)
    (hsub : PySem.W.subIn X.K (.type "int") (.ref (T.cl c)) = some false) : OpS X T (binaryOp op) (dOwnI c g) := by
  obtain ⟨f, fd, ps, h1, h2, h3, h4⟩ := hF.ex
  intro pins s σ H x y v u Q I rx ry ⟨F, dx, dy, d, sub, r1, r2, e, q⟩
  unfold dOwnI at e
  split at e
  · rename_i c' fs i
    split at e
    · rename_i hc
      subst hc
      obtain ⟨a, dxa, oda, ea, eu, Ja, _⟩ := inst_of I sub r1 rx
      subst ea eu
      have r2' := r2
      unfold Rep at r2'
      subst r2'
      obtain ⟨t, rfl⟩ := ry
      obtain ⟨m, hFr⟩ := I.fr
      refine PySem.W.ksp_binT hFr I.ok.mod.kin Ja (T := "int") rfl sf h1 h2 hrr hp t1 t2 hsub (thn (run_fn (Q := Q) (CX := L2N.CX X.prog X.w) (E := E0) (us := [.ref a, .int i t]) (vs := [.ref a, .int i]) h4 hr h3 .nil passN I (.cons rfl (.cons ⟨t, rfl⟩ .nil)) ?_) fun w s' z => ?_)
      · refine spS_nox (ds := [.obj c' fs, .int i]) sub ?_ rfl e q
        unfold RepL
        exact ⟨_, _, rfl, r1, RepL.one r2⟩
      · obtain ⟨z', H', I', rz, qz⟩ := z
        exact SlX.cmpback rz ⟨z', H', I', rz, qz⟩
    · cases e
  · cases e
def dOwn1 (c : Nat) (g : G) : D → Option D
  | .obj c' fs => if c' = c then ans (g [some (.obj c' fs)]) else none
  | _ => none
theorem uns_neg (hF : OpD X T lv c "__neg__" (spS T [] 1 g)) (hr : Room lv X.A) : UnS X T (unaryOp .USub) (dOwn1 c g) := by
  obtain ⟨f, fd, ps, h1, h2, h3, h4⟩ := hF.ex
  intro pins s σ H x v Q I rx ⟨F, dx, d, sub, r1, e, q⟩
  unfold dOwn1 at e
  split at e
  · rename_i c' fs
    split at e
    · rename_i hc
      subst hc
      obtain ⟨a, dxa, oda, ea, eu, Ja, _⟩ := inst_of I sub r1 rx
      subst ea eu
      obtain ⟨m, hFr⟩ := I.fr
      exact PySem.W.ksp_neg hFr I.ok.mod.kin Ja h1 h2 (run_fn (Q := Q) (CX := L2N.CX X.prog X.w) (E := E0) (us := [.ref a]) (vs := [.ref a]) h4 hr h3 .nil passN I (.cons rfl .nil) (spS_nox (ds := [.obj c' fs]) sub (RepL.one r1) rfl e q))
    · cases e
  · cases e
/-- x < y and the like: the left one is asked; the right one is of the class or of a built-in type -/
theorem cmp_own {op : CmpOp} (hop : ∀ a b, compareOp op a b = richCompare op a b) (hF : OpD X T lv c (cmpInfo op).2.1 (spS T [] 2 g)) (hr : Room lv X.A) (hn : PySem.W.notFirst X.K (T.cl c) (.ref (T.cl c)) = true) : OpS X T (compareOp op) (dOwn c g) := by
  obtain ⟨f, fd, ps, h1, h2, h3, h4⟩ := hF.ex
  intro pins s σ H x y v u Q I rx ry ⟨F, dx, dy, d, sub, r1, r2, e, q⟩
  unfold dOwn at e
  split at e
  · rename_i c' fs c'' gs
    split at e
    · rename_i hc
      obtain ⟨hc1, hc2⟩ := hc
      subst hc1 hc2
      obtain ⟨a, dxa, oda, ea, eu, Ja, _⟩ := inst_of I sub r1 rx
      obtain ⟨b, dxb, odb, eb, eu', Jb, _⟩ := inst_of I sub r2 ry
      subst ea eu eb eu'
      obtain ⟨m, hFr⟩ := I.fr
      rw [hop]
      refine PySem.W.cmp_K (op := op) (tb := .ref (T.cl c'')) hr.units0 hFr I.ok.mod.kin Ja Jb.type hn h1 h2 (thn (run_fn (Q := Q) (CX := L2N.CX X.prog X.w) (E := E0) (us := [.ref a, .ref b]) (vs := [.ref a, .ref b]) h4 hr h3 .nil passN I (.cons rfl (.cons rfl .nil)) ?_) fun w s' z => ?_)
      · refine spS_nox (ds := [.obj c'' fs, .obj c'' gs]) sub ?_ rfl e q
        unfold RepL
        exact ⟨_, _, rfl, r1, RepL.one r2⟩
      · obtain ⟨z', H', I', rz, qz⟩ := z
        exact SlX.cmpback rz ⟨z', H', I', rz, qz⟩
    · cases e
  · cases e
theorem cmp_ownI {op : CmpOp} (hop : ∀ a b, compareOp op a b = richCompare op a b) (hF : OpD X T lv c (cmpInfo op).2.1 (spS T [] 2 g)) (hr : Room lv X.A) (hn : PySem.W.notFirst X.K (T.cl c) (.type "int") = true) : OpS X T (compareOp op) (dOwnI c g) := by
  obtain ⟨f, fd, ps, h1, h2, h3, h4⟩ := hF.ex
  intro pins s σ H x y v u Q I rx ry ⟨F, dx, dy, d, sub, r1, r2, e, q⟩
  unfold dOwnI at e
  split at e
  · rename_i c' fs i
    split at e
    · rename_i hc
      subst hc
      obtain ⟨a, dxa, oda, ea, eu, Ja, _⟩ := inst_of I sub r1 rx
      subst ea eu
      have r2' := r2
      unfold Rep at r2'
      subst r2'
      obtain ⟨t, rfl⟩ := ry
      obtain ⟨m, hFr⟩ := I.fr
      rw [hop]
      refine PySem.W.cmp_K (op := op) (tb := .type "int") hr.units0 hFr I.ok.mod.kin Ja (PySem.W.Looks.of_pure rfl) hn h1 h2 (thn (run_fn (Q := Q) (CX := L2N.CX X.prog X.w) (E := E0) (us := [.ref a, .int i t]) (vs := [.ref a, .int i]) h4 hr h3 .nil passN I (.cons rfl (.cons ⟨t, rfl⟩ .nil)) ?_) fun w s' z => ?_)
      · refine spS_nox (ds := [.obj c' fs, .int i]) sub ?_ rfl e q
        unfold RepL
        exact ⟨_, _, rfl, r1, RepL.one r2⟩
      · obtain ⟨z', H', I', rz, qz⟩ := z
        exact SlX.cmpback rz ⟨z', H', I', rz, qz⟩
    · cases e
  · cases e

end
end TL

set_option Elab.async false
set_option linter.all false
set_option maxRecDepth 100000
set_option maxHeartbeats 400000
namespace TL
open PySem PySem.Spec PyProof.Rows L2
theorem boot_isi : bootBuiltins "isinstance" = some (.builtin "isinstance") := by decide +kernel
section
variable {X : Cx} {T : Tb} {ms : List Mode} {W : WX} {e o a b : Expr} {es : List Expr} {pos p apos : Pos} {ga gb g gI : G} {gs : GA} {k : Mode} {x m f : Str} {lv n c i nf cnt : Nat} {dds : List D} {dvs : List V}
/-! ### isinstance -/
inductive TyD (T : Tb) : D → Value → Prop where
  | non : TyD T .non (.type "NoneType")
  | bl (b : Bool) : TyD T (.bl b) (.type "bool")
  | int (i : Int) : TyD T (.int i) (.type "int")
  | str (z : Str) : TyD T (.str z) (.type "str")
  | lst (ds : List D) : TyD T (.lst ds) (.type "list")
  | tup (ds : List D) : TyD T (.tup ds) (.type "tuple")
  | dic (ks : List Key) (ds : List D) : TyD T (.dic ks ds) (.type "dict")
  | obj (c : Nat) (fs : List D) : TyD T (.obj c fs) (.ref (T.cl c))
/-- what isinstance(.., u) answers of trees -/
def KitD (X : Cx) (T : Tb) (us : List Value) (h : D → Option Bool) : Prop := ∀ d t b, TyD T d t → h d = some b → PySem.W.kitAny X.K t us = some b
theorem ty_of (hK : T.K = X.K) {F H : Hp} {d : D} {v : V} {t : Value} (sub : Same F H) (r : Rep T F d v) (ty : TyD T d t) (hc : ∀ c fs, d = .obj c fs → ClsD X T c) : TyX X.K H v t := by
  cases ty with
  | non => unfold Rep at r; subst r; exact .base .non
  | bl b => unfold Rep at r; subst r; exact .base (.bl b)
  | int i => unfold Rep at r; subst r; exact .base (.int i)
  | str z => unfold Rep at r; subst r; exact .base (.str z)
  | lst ds =>
    unfold Rep at r
    obtain ⟨a, vs, e, q, _⟩ := r
    subst e
    exact .base (.lst (sub _ _ q))
  | tup ds =>
    unfold Rep at r
    obtain ⟨a, vs, e, q, _⟩ := r
    subst e
    rcases q with (q | ⟨o, q⟩) | ⟨o, its, nn, q, hcl, _⟩
    · exact .base (.tup (sub _ _ q))
    · exact .fTuple (sub _ _ q)
    · exact .kTuple (by rw [← hK]; exact q) hcl
  | dic ks ds =>
    unfold Rep at r
    obtain ⟨a, od, vs, e, q, _⟩ := r
    subst e
    exact .fDict (sub _ _ q)
  | obj c fs =>
    unfold Rep at r
    obtain ⟨a, dx, vs, e, q, _⟩ := r
    subst e
    have cd := hc c fs rfl
    exact .base (.ins (sub _ _ q) cd.cls cd.ca cd.cn cd.ct cd.cm)
theorem tyD_of (d : D) (h : ∀ n, d ≠ .ty n) (h' : ∀ n, d ≠ .at_ n) (h'' : ∀ c fs, d ≠ .part c fs) : ∃ t, TyD T d t := by
  cases d with
  | ty n => exact (h n rfl).elim
  | at_ n => exact (h' n rfl).elim
  | part c fs => exact (h'' c fs rfl).elim
  | non => exact ⟨_, .non⟩
  | bl b => exact ⟨_, .bl b⟩
  | int i => exact ⟨_, .int i⟩
  | str z => exact ⟨_, .str z⟩
  | lst ds => exact ⟨_, .lst ds⟩
  | tup ds => exact ⟨_, .tup ds⟩
  | dic ks ds => exact ⟨_, .dic ks ds⟩
  | obj c fs => exact ⟨_, .obj c fs⟩
/-- the trees that isinstance is asked of: no classes, no defs -/
def isPlainD : D → Bool
  | .ty _ => false
  | .at_ _ => false
  | .part _ _ => false
  | _ => true
def gIsi (h : D → Option Bool) (ga : G) : G := fun env => (ga env).bind fun env1 d => if isPlainD d then .ofO env1 ((h d).map .bl) else .stuck
theorem kit_one {t u : Value} {b : Bool} {K : PySem.W.Frag} (h : PySem.W.kitAny K t [u] = some b) : PySem.W.kitOne K t u = some b := by
  unfold PySem.W.kitAny at h
  split at h
  · rename_i e; rw [e]; exact h
  · rename_i e; rw [e]; exact h
  · cases h
variable {h : D → Option Bool} {ce : Expr} {cv : V} {u : Value}
theorem se_isi (hK : T.K = X.K) (hk : KitD X T [u] h) (hcls : ∀ c fs, (h (.obj c fs)).isSome = true → ClsD X T c) (cl : ClsV cv u) (ha : SE X T W ms a ga) (hc : PE X ce (tC cv)) (hg : Gl X "isinstance") (hm : X.mg "isinstance" = none)
    (he : starEach [a, ce] X.env = (false, eval a X.env) :: starEach [ce] X.env := by rfl) (he2 : starEach [ce] X.env = (false, eval ce X.env) :: starEach [] X.env := by rfl) (hpl : (backTo pos (starEach [ce] X.env)).any (·.1) = false := by rfl) :
    SE X T W ms (.Call (.Name "isinstance" p) [a, ce] [] pos) (gIsi h ga) :=
  PE.imp (pe_callB (x := "isinstance") call_isi hg hm boot_isi (pa_cons ha (pa_cons hc pa_nil he2) he) (by decide) (by decide) he hpl) fun σ H Q ⟨F, env, fp, g, w⟩ => by
    refine ⟨F, env, fp, g, Out.bind w fun env1 d H1 F1 fp1 v g1 r1 o1 => ?_⟩
    split at o1
    · rename_i hp
      cases hh : h d with
      | none => rw [hh] at o1; exact o1.elim
      | some b =>
        rw [hh] at o1
        obtain ⟨t, ty⟩ := tyD_of (T := T) d (fun n z => by subst z; cases hp) (fun n z => by subst z; cases hp) (fun c fs z => by subst z; cases hp)
        exact ⟨v, cv, t, u, b, rfl, cl, ty_of hK g1.sub r1 ty (fun c fs z => hcls c fs (by rw [← z, hh]; rfl)), kit_one (hk d t b ty hh), Out.fin o1 g1 (Ext0.refl g1.sub) (by unfold Rep; rfl)⟩
    · exact o1.elim
/-- isinstance(x, (list, tuple)) and the like: the tuple is laid -/
theorem se_isiT {ces : List Expr} {cvs : List V} {us : List Value} {x1} {tp : Pos} (hK : T.K = X.K) (hk : KitD X T us h) (hcls : ∀ c fs, (h (.obj c fs)).isSome = true → ClsD X T c) (cl : Paired ClsV cvs us) (hl : cvs.length ≤ bigN) (ha : SE X T W ms a ga) (hc : PA X ces (fun _ H Q => Q cvs H)) (hg : Gl X "isinstance") (hm : X.mg "isinstance" = none)
    (he : starEach [a, .Tuple ces x1 tp] X.env = (false, eval a X.env) :: starEach [.Tuple ces x1 tp] X.env := by rfl) (he2 : starEach [.Tuple ces x1 tp] X.env = (false, eval (.Tuple ces x1 tp) X.env) :: starEach [] X.env := by rfl) (hpl : (backTo pos (starEach [.Tuple ces x1 tp] X.env)).any (·.1) = false := by rfl) :
    SE X T W ms (.Call (.Name "isinstance" p) [a, .Tuple ces x1 tp] [] pos) (gIsi h ga) :=
  PE.imp (pe_callB (x := "isinstance") call_isiT hg hm boot_isi (pa_cons ha (pa_cons (pe_tup hc) pa_nil he2) he) (by decide) (by decide) he hpl) fun σ H Q ⟨F, env, fp, g, w⟩ => by
    refine ⟨F, env, fp, g, Out.bind w fun env1 d H1 F1 fp1 v g1 r1 o1 => ?_⟩
    split at o1
    · rename_i hp
      cases hh : h d with
      | none => rw [hh] at o1; exact o1.elim
      | some b =>
        rw [hh] at o1
        obtain ⟨t, ty⟩ := tyD_of (T := T) d (fun n z => by subst z; cases hp) (fun n z => by subst z; cases hp) (fun c fs z => by subst z; cases hp)
        refine ⟨big_line hl, fun q hq => ?_⟩
        have ex := Ext0.allocP (o := .tup cvs) g1.sub hq
        exact ⟨v, q, cvs, t, us, b, rfl, upd_same, cl, ty_of hK ex.sub r1 ty (fun c fs z => hcls c fs (by rw [← z, hh]; rfl)), hk d t b ty hh, Out.fin o1 g1 ex (by unfold Rep; rfl)⟩
    · exact o1.elim
end
end TL

set_option Elab.async false
set_option linter.all false
set_option maxRecDepth 100000
set_option maxHeartbeats 400000
namespace TL
open PySem PySem.Spec PyProof.Rows L2

inductive SRes where
  | next (env : Env) | ret (env : Env) (d : D) | brk (env : Env) | cnt (env : Env) | err (env : Env) (x : Ex) | stuck
def SRes.bind : SRes → (Env → SRes) → SRes
  | .next env, f => f env
  | r, _ => r
@[simp] theorem SRes.bind_next (env : Env) (f : Env → SRes) : (SRes.next env).bind f = f env := rfl
@[simp] theorem SRes.bind_ret (env : Env) (d : D) (f : Env → SRes) : (SRes.ret env d).bind f = .ret env d := rfl
@[simp] theorem SRes.bind_brk (env : Env) (f : Env → SRes) : (SRes.brk env).bind f = .brk env := rfl
@[simp] theorem SRes.bind_cnt (env : Env) (f : Env → SRes) : (SRes.cnt env).bind f = .cnt env := rfl
@[simp] theorem SRes.bind_err (env : Env) (x : Ex) (f : Env → SRes) : (SRes.err env x).bind f = .err env x := rfl
@[simp] theorem SRes.bind_stuck (f : Env → SRes) : (SRes.stuck).bind f = .stuck := rfl
/-- an expression's answer, then a statement's -/
def Res.to {α : Type} : Res α → (Env → α → SRes) → SRes
  | .ok env a, f => f env a
  | .err env x, _ => .err env x
  | .stuck, _ => .stuck
@[simp] theorem Res.to_ok {α : Type} (env : Env) (a : α) (f : Env → α → SRes) : (Res.ok env a).to f = f env a := rfl
@[simp] theorem Res.to_err {α : Type} (env : Env) (x : Ex) (f : Env → α → SRes) : (Res.err env x : Res α).to f = .err env x := rfl
@[simp] theorem Res.to_stuck {α : Type} (f : Env → α → SRes) : (Res.stuck : Res α).to f = .stuck := rfl
abbrev GS := Env → SRes

/-- what a body is held to: what is raised (W, modes em), what is returned (mode rk; the parameters' modes pm, their values σ0 and trees env0), a loop's modes lm -/
structure Jd where
  T : Tb
  W : WX
  pm : List Mode
  rk : Mode
  σ0 : L2.St
  env0 : Env
  em : List Mode → Prop
  lm : List Mode
/-- the parameters behind a body: shared ones as they were -/
def back (pm : List Mode) : Nat → Env → Env → Env
  | _, [], _ => []
  | i, e0 :: r, env => (if pm.getD i .sh = .sh then e0 else env.getD i none) :: back pm (i + 1) r env
theorem back_length {pm : List Mode} : ∀ {i : Nat} {env0 env : Env}, (back pm i env0 env).length = env0.length
  | _, [], _ => rfl
  | i, e :: r, env => by unfold back; rw [List.length_cons, List.length_cons, back_length]
theorem back_get {pm : List Mode} : ∀ {i j : Nat} {env0 env : Env}, j < env0.length → (back pm i env0 env)[j]? = some (if pm.getD (i + j) .sh = .sh then (env0.getD j none) else env.getD (i + j) none)
  | _, _, [], _, h => by cases h
  | i, 0, e :: r, env, _ => by unfold back; simp
  | i, j + 1, e :: r, env, h => by
    unfold back
    rw [List.getElem?_cons_succ, back_get (i := i + 1) (by simpa using h)]
    simp only [List.getD_cons_succ, Nat.add_assoc, Nat.add_comm 1 j]
structure Keep (J : Jd) (σ : L2.St) (F : Hp) : Prop where
  own : ∀ i, J.pm.getD i .sh ≠ .sh → σ[i]? = J.σ0[i]?
  sh : ∀ i d, J.env0[i]? = some (some d) → J.pm.getD i .sh = .sh → ∃ v, J.σ0[i]? = some (some v) ∧ Rep J.T F d v
theorem Keep.mono {J : Jd} {σ : L2.St} {F F' : Hp} (k : Keep J σ F) (g : Same F F') : Keep J σ F' := ⟨k.own, fun i d a b => let ⟨v, h1, h2⟩ := k.sh i d a b; ⟨v, h1, h2.mono g⟩⟩
def NextOut (J : Jd) (ms : List Mode) (H F : Hp) (fp : Nat → Ad) (nx : L2.St → Hp → Prop) (env' : Env) : Prop :=
  ∀ σ' H' F' fp', Step H F (All fp) H' F' (All fp') → Good J.T ms env' σ' H' F' fp' → Keep J σ' F' → nx σ' H'
def SOut (J : Jd) (ms' : List Mode) (E : Ends) (H F : Hp) (fp : Nat → Ad) : SRes → Prop
  | .next env' => NextOut J ms' H F fp E.nx env'
  | .brk env' => NextOut J J.lm H F fp E.bk env'
  | .cnt env' => NextOut J J.lm H F fp E.ct env'
  | .ret env' d => ∀ H' F' fp' v (fv : Ad), Step H F (All fp) H' F' (fun a => All fp' a ∨ fv a) → Good J.T J.pm (back J.pm 0 J.env0 env') J.σ0 H' F' fp' → Own J.T F' H' J.rk d v fv → (∀ a, fv a → F' a = none ∧ H' a ≠ none) → (∀ i a, fp' i a → fv a → False) → E.rt v H'
  | .err env' x => ∀ σ' ms'' H' F' fp' cv dd, J.em ms'' → Step H F (All fp) H' F' (All fp') → Good J.T ms'' env' σ' H' F' fp' → Keep J σ' F' → ErrRep J.T F' x cv dd → J.W cv dd σ' H'
  | .stuck => False
def tB (J : Jd) (ms ms' : List Mode) (g : GS) : TS := fun E σ H => ∃ F env fp, Good J.T ms env σ H F fp ∧ Keep J σ F ∧ SOut J ms' E H F fp (g env)
abbrev SS (X : Cx) (J : Jd) (ms : List Mode) (st : Stmt) (ms' : List Mode) (g : GS) : Prop := PS X st (tB J ms ms' g)
abbrev SB (X : Cx) (J : Jd) (ms : List Mode) (sts : List Stmt) (ms' : List Mode) (g : GS) : Prop := PSs X sts (tB J ms ms' g)
section
variable {X : Cx} {J : Jd} {T : Tb} {ms ms' ms'' : List Mode} {st : Stmt} {sts : List Stmt} {e a b c : Expr} {pos : Pos} {g ga : G} {gs gs' : GS} {k m : Mode}
theorem PS.imp {t u : TS} (h : PS X st t) (i : ∀ E σ H, u E σ H → t E σ H) : PS X st u := ⟨fun pins s σ H E I q => h.run pins s σ H E I (i E σ H q)⟩
theorem PSs.imp {t u : TS} (h : PSs X sts t) (i : ∀ E σ H, u E σ H → t E σ H) : PSs X sts u := ⟨fun pins s σ H E I q => h.run pins s σ H E I (i E σ H q)⟩
theorem NextOut.step {H F H1 F1 : Hp} {fp fp1 : Nat → Ad} {nx : L2.St → Hp → Prop} {env' : Env} (h : NextOut J ms H F fp nx env') (s : Step H F (All fp) H1 F1 (All fp1)) : NextOut J ms H1 F1 fp1 nx env' :=
  fun σ' H' F' fp' s' g k => h σ' H' F' fp' (s.trans s') g k
theorem SOut.step {E : Ends} {H F H1 F1 : Hp} {fp fp1 : Nat → Ad} {r : SRes} (h : SOut J ms' E H F fp r) (s : Step H F (All fp) H1 F1 (All fp1)) : SOut J ms' E H1 F1 fp1 r := by
  cases r with
  | next env' => exact NextOut.step h s
  | brk env' => exact NextOut.step h s
  | cnt env' => exact NextOut.step h s
  | ret env' d => exact fun H' F' fp' v fv s' => h H' F' fp' v fv (s.trans s')
  | err env' x => exact fun σ' ms'' H' F' fp' cv dd em s' => h σ' ms'' H' F' fp' cv dd em (s.trans s')
  | stuck => exact h
/-- behind an expression -/
theorem SOut.exp {E : Ends} {σ : L2.St} {H F : Hp} {fp : Nat → Ad} {r : Res D} {f : Env → D → SRes} {Q' : VK} (hem : J.em ms) (kp : Keep J σ F) (h : SOut J ms' E H F fp (r.to f))
    (q : ∀ env1 d H1 F1 fp1 v, Good J.T ms env1 σ H1 F1 fp1 → Keep J σ F1 → Rep J.T F1 d v → SOut J ms' E H1 F1 fp1 (f env1 d) → Q' v H1) : Out J.T ms J.W σ H F fp Q' r := by
  cases r with
  | ok env' d => exact fun H1 F1 fp1 v s1 g1 e1 => q env' d H1 F1 fp1 v g1 (kp.mono s1.grow) e1 (SOut.step h s1)
  | err env' x => exact fun H' F' fp' cv dd s g e => h σ ms H' F' fp' cv dd hem s g (kp.mono s.grow) e
  | stuck => exact h
theorem SOut.expT {E : Ends} {σ : L2.St} {H F : Hp} {fp : Nat → Ad} {r : Res Bool} {f : Env → Bool → SRes} {Q' : Bool → Hp → Prop} (hem : J.em ms) (kp : Keep J σ F) (h : SOut J ms' E H F fp (r.to f))
    (q : ∀ env1 d H1 F1 fp1, Good J.T ms env1 σ H1 F1 fp1 → Keep J σ F1 → SOut J ms' E H1 F1 fp1 (f env1 d) → Q' d H1) : OutT J.T ms J.W σ H F fp Q' r := by
  cases r with
  | ok env' d => exact fun H1 F1 fp1 s1 g1 => q env' d H1 F1 fp1 g1 (kp.mono s1.grow) (SOut.step h s1)
  | err env' x => exact fun H' F' fp' cv dd s g e => h σ ms H' F' fp' cv dd hem s g (kp.mono s.grow) e
  | stuck => exact h
theorem SOut.expP {E : Ends} {σ : L2.St} {H F : Hp} {fp : Nat → Ad} {r : Res D} {f : Env → D → SRes} {Q' : VK} (hem : J.em ms) (kp : Keep J σ F) (h : SOut J ms' E H F fp (r.to f))
    (q : ∀ env1 d H1 F1 fp1 v fv, r = .ok env1 d → Step H F (All fp) H1 F1 (fun a => All fp1 a ∨ fv a) → Good J.T ms env1 σ H1 F1 fp1 → Keep J σ F1 → Own J.T F1 H1 k d v fv → (∀ a, fv a → F1 a = none ∧ H1 a ≠ none) → (∀ i a, fp1 i a → fv a → False) → Q' v H1) : OutP J.T ms k J.W σ H F fp Q' r := by
  cases r with
  | ok env' d => exact fun H1 F1 fp1 v fv s1 g1 e1 off dis => q env' d H1 F1 fp1 v fv rfl s1 g1 (kp.mono s1.grow) e1 off dis
  | err env' x => exact fun H' F' fp' cv dd s g e => h σ ms H' F' fp' cv dd hem s g (kp.mono s.grow) e
  | stuck => exact h

/-! ### blocks -/
def gNext : GS := .next
theorem sb_nil : SB X J ms [] ms gNext := PSs.imp pss_nil fun E σ H ⟨F, env, fp, g, k, o⟩ => o σ H F fp Step.refl g k
def gSeq (a b : GS) : GS := fun env => (a env).bind b
theorem sb_cons (h1 : SS X J ms st ms' gs) (h2 : SB X J ms' sts ms'' gs') : SB X J ms (st :: sts) ms'' (gSeq gs gs') :=
  PSs.imp (pss_cons h1 h2) fun E σ H ⟨F, env, fp, g, k, o⟩ => ⟨F, env, fp, g, k, by
    unfold gSeq at o
    cases q : gs env with
    | next env' =>
      rw [q] at o
      exact fun σ' H' F' fp' s g k => ⟨F', env', fp', g, k, SOut.step o s⟩
    | ret env' d => rw [q] at o; exact o
    | brk env' => rw [q] at o; exact o
    | cnt env' => rw [q] at o; exact o
    | err env' x => rw [q] at o; exact o
    | stuck => rw [q] at o; exact o⟩
theorem sb_one (h1 : SS X J ms st ms' gs) : SB X J ms [st] ms' gs := pss_one h1
theorem ss_pass : SS X J ms (.Pass pos) ms gNext := PS.imp ps_pass fun E σ H ⟨F, env, fp, g, k, o⟩ => o σ H F fp Step.refl g k

/-! ### stores -/
theorem Good.set {env : Env} {σ : L2.St} {H F : Hp} {fp : Nat → Ad} {i : Nat} {d : D} {v : V} {fv : Ad} (g : Good T ms env σ H F fp) (hi : i < ms.length) (o : Own T F H m d v fv) (off : ∀ a, fv a → F a = none ∧ H a ≠ none) (dis : ∀ i a, fp i a → fv a → False) :
    Good T (ms.set i m) (env.set i (some d)) (σ.set i (some v)) H F (fun j a => if j = i then fv a else fp j a) := by
  refine ⟨by rw [List.length_set, List.length_set]; exact g.len, g.sub, fun j d' e => ?_, fun j j' a hne h1 h2 => ?_, fun j a h => ?_⟩
  · by_cases hj : j = i
    · subst hj
      have hl : j < env.length := by
        rcases Nat.lt_or_ge j env.length with z | z
        · exact z
        · rw [List.getElem?_eq_none (by rw [List.length_set]; omega)] at e; cases e
      rw [List.getElem?_set_self hl] at e
      cases e
      refine ⟨v, by rw [List.getElem?_set_self (by rw [← g.len]; exact hl)], ?_⟩
      have : (fun a => if j = j then fv a else fp j a) = fv := by funext a; simp
      rw [this]
      have hm : (ms.set j m).getD j .sh = m := by simp [List.getD, hi]
      rw [hm]; exact o
    · rw [List.getElem?_set_ne (Ne.symm hj)] at e
      obtain ⟨v', h1, h2⟩ := g.slot j d' e
      refine ⟨v', by rw [List.getElem?_set_ne (Ne.symm hj)]; exact h1, ?_⟩
      have : (fun a => if j = i then fv a else fp j a) = fp j := by funext a; simp [hj]
      rw [this]
      have hm : (ms.set i m).getD j .sh = ms.getD j .sh := by simp [List.getD, List.getElem?_set_ne (Ne.symm hj)]
      rw [hm]; exact h2
  · split at h1
    · rename_i e1
      split at h2
      · rename_i e2; exact hne (e1.trans e2.symm)
      · exact dis _ _ h2 h1
    · split at h2
      · exact dis _ _ h1 h2
      · exact g.dis j j' a hne h1 h2
  · split at h
    · exact off a h
    · exact g.off j a h
theorem all_set {fp : Nat → Ad} {i : Nat} {fv : Ad} {a : Addr} (h : All (fun j a => if j = i then fv a else fp j a) a) : All fp a ∨ fv a := by
  obtain ⟨j, z⟩ := h
  split at z
  · exact .inr z
  · exact .inl ⟨j, z⟩
theorem Keep.set {σ : L2.St} {F : Hp} {i : Nat} {v : Option V} (k : Keep J σ F) (hp : J.pm.getD i .sh = .sh) : Keep J (σ.set i v) F :=
  ⟨fun j hj => by
    have : i ≠ j := fun e => by subst e; exact hj hp
    rw [List.getElem?_set_ne this]; exact k.own j hj, k.sh⟩
def gSet (i : Nat) (g : G) : GS := fun env => (g env).to fun env1 d => .next (env1.set i (some d))
theorem ss_set (i : Nat) {x : Str} {p : Pos} (he : SE X J.T J.W ms e g) (hN : X.N.Nodup) (hi : X.N[i]? = some x) (hx : Loc X.env.scope x) (hem : J.em ms) (hp : J.pm.getD i .sh = .sh := by rfl) (hl : i < ms.length := by decide) (hs : swapsWith e (some (.Name x p)) pos.line X.env = pure false := by rfl)
    (hf : X.fn x = true ∨ X.env.scope.names.lookup x = some .local := by first | exact .inl rfl | exact .inr rfl) : SS X J ms (.Assign [.Name x p] e pos) (ms.set i .sh) (gSet i g) :=
  PS.imp (ps_set hN hi hx he hs hf) fun E σ H ⟨F, env, fp, gd, kp, o⟩ => ⟨F, env, fp, gd, SOut.exp hem kp o fun env1 d H1 F1 fp1 v g1 k1 r1 o1 =>
    o1 (σ.set i (some v)) H1 F1 _ (Step.refl.less fun b hb => (all_set hb).elim id False.elim) (g1.set (fv := fun _ => False) hl ⟨fun _ z => z, r1⟩ (fun _ z => z.elim) fun _ _ _ z => z) (k1.set hp)⟩
theorem ss_setP (i : Nat) {x : Str} {p : Pos} (he : SP' X J.T J.W ms m e g) (hN : X.N.Nodup) (hi : X.N[i]? = some x) (hx : Loc X.env.scope x) (hem : J.em ms) (hp : J.pm.getD i .sh = .sh := by rfl) (hl : i < ms.length := by decide) (hs : swapsWith e (some (.Name x p)) pos.line X.env = pure false := by rfl)
    (hf : X.fn x = true ∨ X.env.scope.names.lookup x = some .local := by first | exact .inl rfl | exact .inr rfl) : SS X J ms (.Assign [.Name x p] e pos) (ms.set i m) (gSet i g) :=
  PS.imp (ps_set hN hi hx he hs hf) fun E σ H ⟨F, env, fp, gd, kp, o⟩ => ⟨F, env, fp, gd, SOut.expP hem kp o fun env1 d H1 F1 fp1 v fv er s1 g1 k1 r1 off dis => by
    have o' : SOut J (ms.set i m) E H F fp (gSet i g env) := o
    unfold gSet at o'
    rw [er] at o'
    exact o' (σ.set i (some v)) H1 F1 _ (s1.less fun b hb => all_set hb) (g1.set hl r1 off dis) (k1.set hp)⟩
def gExp (g : G) : GS := fun env => (g env).to fun env1 _ => .next env1
theorem ss_expr (he : SE X J.T J.W ms e g) (hem : J.em ms) (hs : swapsWith e none pos.line X.env = pure false := by rfl) : SS X J ms (.Expr e pos) ms (gExp g) :=
  PS.imp (ps_expr he hs) fun E σ H ⟨F, env, fp, gd, kp, o⟩ => ⟨F, env, fp, gd, SOut.exp hem kp o fun env1 d H1 F1 fp1 v g1 k1 r1 o1 => o1 σ H1 F1 fp1 Step.refl g1 k1⟩
/-! ### return -/
def gRet (g : G) : GS := fun env => (g env).to fun env1 d => .ret env1 d
/-- the parameters' modes are kept, all of them are slots -/
def ParOk (J : Jd) (ms : List Mode) : Prop := ∀ i, J.pm.getD i .sh ≠ .sh → ms.getD i .sh = J.pm.getD i .sh
theorem good_ret {env : Env} {σ : L2.St} {H F : Hp} {fp : Nat → Ad} (g : Good J.T ms env σ H F fp) (k : Keep J σ F) (hpar : ParOk J ms) (hlen : J.env0.length = J.σ0.length) (hlo : ∀ i, J.pm.getD i .sh ≠ .sh → i < J.env0.length) :
    Good J.T J.pm (back J.pm 0 J.env0 env) J.σ0 H F (fun i a => J.pm.getD i .sh ≠ .sh ∧ fp i a) := by
  refine ⟨by rw [back_length]; exact hlen, g.sub, fun i d e => ?_, fun i j a hne h1 h2 => g.dis i j a hne h1.2 h2.2, fun i a h => g.off i a h.2⟩
  have hi : i < J.env0.length := by
    rcases Nat.lt_or_ge i J.env0.length with z | z
    · exact z
    · rw [List.getElem?_eq_none (by rw [back_length]; exact z)] at e; cases e
  rw [back_get hi] at e
  simp only [Nat.zero_add] at e
  by_cases hp : J.pm.getD i .sh = .sh
  · rw [if_pos hp] at e
    have e0 : J.env0[i]? = some (some d) := by
      have := Option.some.inj e
      rw [List.getElem?_eq_getElem hi]
      simp only [List.getD, List.getElem?_eq_getElem hi, Option.getD_some] at this
      rw [this]
    obtain ⟨v, h1, h2⟩ := k.sh i d e0 hp
    refine ⟨v, h1, ?_⟩
    rw [hp]
    exact ⟨fun a z => z.1 rfl, h2⟩
  · rw [if_neg hp] at e
    have e1 : env[i]? = some (some d) := by
      have := Option.some.inj e
      cases q : env[i]? with
      | none => simp [List.getD, q] at this
      | some z => simp [List.getD, q] at this; rw [this]
    obtain ⟨v, h1, h2⟩ := g.slot i d e1
    refine ⟨v, by rw [← k.own i hp]; exact h1, ?_⟩
    rw [hpar i hp] at h2
    have : (fun a => J.pm.getD i .sh ≠ .sh ∧ fp i a) = fp i := by funext a; exact propext ⟨fun z => z.2, fun z => ⟨hp, z⟩⟩
    rw [this]; exact h2
structure JOk (J : Jd) : Prop where
  len : J.env0.length = J.σ0.length
  lo : ∀ i, J.pm.getD i .sh ≠ .sh → i < J.env0.length
theorem ss_ret (jo : JOk J) (hrk : J.rk = .sh) (hpar : ParOk J ms) (he : SE X J.T J.W ms e g) (hem : J.em ms) : SS X J ms (.Return (some e) pos) ms' (gRet g) :=
  PS.imp (ps_ret he) fun E σ H ⟨F, env, fp, gd, kp, o⟩ => ⟨F, env, fp, gd, SOut.exp hem kp o fun env1 d H1 F1 fp1 v g1 k1 r1 o1 =>
    o1 H1 F1 _ v (fun _ => False) (Step.refl.less fun b hb => hb.elim (fun ⟨i, z⟩ => ⟨i, z.2⟩) False.elim) (good_ret g1 k1 hpar jo.len jo.lo) (by rw [hrk]; exact ⟨fun _ z => z, r1⟩) (fun _ z => z.elim) fun _ _ _ z => z⟩
theorem ss_retP (jo : JOk J) (hpar : ParOk J ms) (he : SP' X J.T J.W ms J.rk e g) (hem : J.em ms) : SS X J ms (.Return (some e) pos) ms' (gRet g) :=
  PS.imp (ps_ret he) fun E σ H ⟨F, env, fp, gd, kp, o⟩ => ⟨F, env, fp, gd, SOut.expP hem kp o fun env1 d H1 F1 fp1 v fv er s1 g1 k1 r1 off dis => by
    have o' : SOut J ms' E H F fp (gRet g env) := o
    unfold gRet at o'
    rw [er] at o'
    exact o' H1 F1 _ v fv (s1.less fun b hb => hb.imp (fun ⟨i, z⟩ => ⟨i, z.2⟩) id) (good_ret g1 k1 hpar jo.len jo.lo) r1 off fun i a h1 h2 => dis i a h1.2 h2⟩
/-- a name that holds what is one's own is handed out -/
def gRetV (i : Nat) : GS := fun env => match env[i]? with
  | some (some d) => .ret env d
  | _ => .stuck
theorem ss_retV (i : Nat) {x : Str} {p : Pos} (jo : JOk J) (hpar : ParOk J ms) (hm : ms.getD i .sh = J.rk) (hp : J.pm.getD i .sh = .sh := by rfl) (hN : X.N[i]? = some x := by rfl) (hv : Vis X.env.scope x := by first | exact Or.inl rfl | exact Or.inr (Or.inl rfl) | exact Or.inr (Or.inr rfl))
    (hd : (x == ("__debug__" : Str)) = false := by decide) (hcd : (x == ("__classdict__" : Str)) = false := by decide) : SS X J ms (.Return (some (.Name x p)) pos) ms' (gRetV i) :=
  PS.imp (ps_ret (pe_var hN hv hd hcd)) fun E σ H ⟨F, env, fp, gd, kp, o⟩ => by
    unfold gRetV at o
    split at o
    · rename_i d h
      obtain ⟨v, e1, ow⟩ := gd.slot i d h
      rw [hm] at ow
      exact ⟨v, e1, o H F _ v (fp i) (Step.refl.less fun b hb => hb.elim (fun ⟨i, z⟩ => ⟨i, z.2⟩) fun z => ⟨i, z⟩) (good_ret gd kp hpar jo.len jo.lo) ow (fun a ha => gd.off i a ha) fun j a h1 h2 => gd.dis j i a (fun e => by subst e; exact h1.1 hp) h1.2 h2⟩
    · exact o.elim
/-! ### if -/
def gIf (t : GT) (a b : GS) : GS := fun env => (t env).to fun env1 c => if c then a env1 else b env1
theorem ss_if {t : GT} {x y : List Stmt} (hc : ST X J.T J.W ms c t) (ha : SB X J ms x ms' gs) (hb : SB X J ms y ms' gs') (hem : J.em ms) : SS X J ms (.If c x y pos) ms' (gIf t gs gs') :=
  PS.imp (ps_if hc ha hb) fun E σ H ⟨F, env, fp, gd, kp, o⟩ => ⟨F, env, fp, gd, SOut.expT hem kp o fun env1 c H1 F1 fp1 g1 k1 o1 => by
    cases c with
    | true => exact iteT ⟨F1, env1, fp1, g1, k1, o1⟩
    | false => exact iteF ⟨F1, env1, fp1, g1, k1, o1⟩⟩
/-! ### sharing what was one's own: modes get less -/
inductive Less : List Mode → List Mode → Prop where
  | nil : Less [] []
  | same {m : Mode} {l l' : List Mode} : Less l l' → Less (m :: l) (m :: l')
  | share {m : Mode} {l l' : List Mode} (h : m.ok = true) : Less l l' → Less (m :: l) (.sh :: l')
theorem Less.get : ∀ {l l' : List Mode}, Less l l' → ∀ i : Nat, l'.getD i .sh = l.getD i .sh ∨ (l'.getD i .sh = .sh ∧ (l.getD i .sh).ok = true)
  | _, _, .nil, i => .inl rfl
  | _, _, .same h, 0 => .inl rfl
  | _, _, .same h, i + 1 => h.get i
  | _, _, .share hm h, 0 => .inr ⟨rfl, hm⟩
  | _, _, .share hm h, i + 1 => h.get i
theorem Good.less {env : Env} {σ : L2.St} {H F : Hp} {fp : Nat → Ad} (g : Good T ms env σ H F fp) (h : Less ms ms') : ∃ F' fp', Good T ms' env σ H F' fp' ∧ Step H F (All fp) H F' (All fp') ∧ Same F F' := by
  have hsame : Same F (frz F H fun a => ∃ i, ms'.getD i .sh ≠ ms.getD i .sh ∧ fp i a) := frz_same fun a ⟨i, _, ha⟩ => (g.off i a ha).1
  refine ⟨frz F H (fun a => ∃ i, ms'.getD i .sh ≠ ms.getD i .sh ∧ fp i a), fun i a => ms'.getD i .sh = ms.getD i .sh ∧ fp i a, ⟨g.len, fun b o hb => ?_, fun i d e => ?_, fun i j a hne h1 h2 => g.dis i j a hne h1.2 h2.2, fun i a ha => ⟨?_, (g.off i a ha.2).2⟩⟩, ⟨fun b o hb _ => hb, hsame, fun b hb => ?_, fun b ⟨i, hb⟩ => .inl ⟨i, hb.2⟩⟩, hsame⟩
  · by_cases hp : ∃ i, ms'.getD i .sh ≠ ms.getD i .sh ∧ fp i b
    · rw [frz_in hp] at hb; exact hb
    · rw [frz_out hp] at hb; exact g.sub b o hb
  · obtain ⟨v, h1, h2⟩ := g.slot i d e
    refine ⟨v, h1, ?_⟩
    by_cases hq : ms'.getD i .sh = ms.getD i .sh
    · rw [hq]
      have : (fun a => ms.getD i .sh = ms.getD i .sh ∧ fp i a) = fp i := by funext a; simp
      rw [this]
      exact h2.mono hsame fun _ _ => rfl
    · rcases h.get i with z | ⟨z, zok⟩
      · exact (hq z).elim
      · rw [z]
        refine ⟨fun a ha => hq (z.trans ha.1), ?_⟩
        have r := h2.freeze g.sub zok fun a ha => (g.off i a ha).1
        exact r.mono (frz_up (fun a ha => ⟨i, hq, ha⟩) g.sub)
  · by_cases hp : ∃ i, ms'.getD i .sh ≠ ms.getD i .sh ∧ fp i a
    · obtain ⟨j, hj, hf⟩ := hp
      by_cases e : j = i
      · subst e; exact (hj ha.1).elim
      · exact (g.dis j i a e hf ha.2).elim
    · rw [frz_out hp]; exact (g.off i a ha.2).1
  · by_cases hp : ∃ i, ms'.getD i .sh ≠ ms.getD i .sh ∧ fp i b
    · obtain ⟨i, _, hf⟩ := hp; exact .inr (.inr ⟨i, hf⟩)
    · rw [frz_out hp] at hb; exact .inl hb
theorem SS.less (h : SS X J ms' st ms'' gs) (l : Less ms ms') : SS X J ms st ms'' gs :=
  PS.imp h fun E σ H ⟨F, env, fp, g, k, o⟩ => by
    obtain ⟨F', fp', g', s, sm⟩ := g.less l
    exact ⟨F', env, fp', g', k.mono sm, SOut.step o s⟩
theorem SB.less (h : SB X J ms' sts ms'' gs) (l : Less ms ms') : SB X J ms sts ms'' gs :=
  PSs.imp h fun E σ H ⟨F, env, fp, g, k, o⟩ => by
    obtain ⟨F', fp', g', s, sm⟩ := g.less l
    exact ⟨F', env, fp', g', k.mono sm, SOut.step o s⟩
theorem SOut.lessN {E : Ends} {H F : Hp} {fp : Nat → Ad} {r : SRes} (o : SOut J ms'' E H F fp r) (l : Less ms' ms'') : SOut J ms' E H F fp r := by
  cases r with
  | next env' =>
    intro σ' H' F' fp' s g k
    obtain ⟨F2, fp2, g2, s2, sm⟩ := g.less l
    exact o σ' H' F2 fp2 (s.trans s2) g2 (k.mono sm)
  | _ => exact o
theorem SB.lessN (h : SB X J ms sts ms' gs) (l : Less ms' ms'') : SB X J ms sts ms'' gs := PSs.imp h fun E σ H ⟨F, env, fp, g, k, o⟩ => ⟨F, env, fp, g, k, SOut.lessN o l⟩
theorem SS.lessN (h : SS X J ms st ms' gs) (l : Less ms' ms'') : SS X J ms st ms'' gs := PS.imp h fun E σ H ⟨F, env, fp, g, k, o⟩ => ⟨F, env, fp, g, k, SOut.lessN o l⟩
end
end TL

set_option Elab.async false
set_option linter.all false
set_option maxRecDepth 100000
set_option maxHeartbeats 400000
namespace TL
open PySem PySem.Spec PyProof.Rows L2

/-! ### a def's promise from its body -/
def pmOk : List Mode → List Mode → Bool
  | [], _ => true
  | m :: pm, [] => decide (m = .sh) && pmOk pm []
  | m :: pm, m' :: ms => (decide (m = .sh) || decide (m = m')) && pmOk pm ms
theorem pmOk_get : ∀ {pm ms : List Mode}, pmOk pm ms = true → ∀ i, pm.getD i .sh ≠ .sh → ms.getD i .sh = pm.getD i .sh
  | [], _, _, i, h => (h (by simp)).elim
  | m :: pm, [], h, i, hi => by
    simp only [pmOk, Bool.and_eq_true, decide_eq_true_eq] at h
    cases i with
    | zero => exact (hi (by simpa using h.1)).elim
    | succ i => exact pmOk_get (ms := []) h.2 i (by simpa using hi)
  | m :: pm, m' :: ms, h, i, hi => by
    simp only [pmOk, Bool.and_eq_true, Bool.or_eq_true, decide_eq_true_eq] at h
    cases i with
    | zero =>
      rcases h.1 with z | z
      · exact (hi (by simpa using z)).elim
      · simpa using z.symm
    | succ i => simpa using pmOk_get h.2 i (by simpa using hi)
abbrev jOf (T : Tb) (pm : List Mode) (rk : Mode) (E : XK) (vs : List V) (env0 : Env) : Jd :=
  { T := T, W := fun cv dd _ H => E cv dd H, pm := pm, rk := rk, σ0 := vs.map some, env0 := env0, em := fun ms => pmOk pm ms = true, lm := [] }
def gFun (pm : List Mode) (n : Nat) (g : GS) : G := fun env0 => match g (env0 ++ List.replicate (n - env0.length) none) with
  | .next env' => .ok (back pm 0 env0 env') .non
  | .ret env' d => .ok (back pm 0 env0 env') d
  | .err env' x => .err (back pm 0 env0 env') x
  | _ => .stuck
def padM (pm : List Mode) (n : Nat) : List Mode := pm ++ List.replicate (n - pm.length) .sh
theorem padM_get (pm : List Mode) (n i : Nat) : (padM pm n).getD i .sh = pm.getD i .sh := by
  unfold padM
  simp only [List.getD, List.getElem?_append, List.getElem?_replicate]
  split
  · rfl
  · rename_i h
    rw [List.getElem?_eq_none (by omega : pm.length ≤ i)]
    split <;> rfl
theorem good_start {T : Tb} {pm : List Mode} {env0 : Env} {vs : List V} {H F : Hp} {fp : Nat → Ad} {N : List Str} (g : Good T pm env0 (vs.map some) H F fp) :
    Good T (padM pm N.length) (env0 ++ List.replicate (N.length - env0.length) none) (L2.start N vs) H F fp := by
  have hl : env0.length = vs.length := by have := g.len; simpa using this
  refine ⟨?_, g.sub, fun i d e => ?_, g.dis, g.off⟩
  · unfold L2.start; simp [hl]
  · rw [List.getElem?_append] at e
    split at e
    · rename_i h
      obtain ⟨v, h1, h2⟩ := g.slot i d e
      refine ⟨v, ?_, by rw [padM_get]; exact h2⟩
      unfold L2.start
      rw [List.getElem?_append_left (by simp; omega)]
      exact h1
    · rw [List.getElem?_replicate] at e
      split at e <;> cases e
theorem keep_start {T : Tb} {pm : List Mode} {rk : Mode} {E : XK} {env0 : Env} {vs : List V} {H F : Hp} {fp : Nat → Ad} {N : List Str} (g : Good T pm env0 (vs.map some) H F fp) (hpm : pm.length ≤ vs.length) : Keep (jOf T pm rk E vs env0) (L2.start N vs) F := by
  refine ⟨fun i hi => ?_, fun i d e hp => ?_⟩
  · have hi' : i < vs.length := by
      rcases Nat.lt_or_ge i pm.length with z | z
      · omega
      · exact (hi (by simp [List.getD, List.getElem?_eq_none z])).elim
    unfold L2.start
    rw [List.getElem?_append_left (by simpa using hi')]
  · obtain ⟨v, h1, h2⟩ := g.slot i d e
    have hp' : pm.getD i .sh = .sh := hp
    rw [hp'] at h2
    exact ⟨v, h1, h2.2⟩
section
variable {P : Program} {w : World} {K : PySem.W.Frag} {mg : Str → Option Value} {base : Heap} {T : Tb}
theorem fun_out {pm : List Mode} {rk : Mode} {E : XK} {env0 : Env} {vs : List V} {H F : Hp} {fp : Nat → Ad} {N : List Str} {ms' : List Mode} {g : GS} {Q : VK} (hms' : pmOk pm ms' = true) (hpm : pm.length ≤ vs.length)
    (gd : Good T pm env0 (vs.map some) H F fp) (hsh : rk = .sh) (o : Out T pm (fun cv dd _ H' => E cv dd H') (vs.map some) H F fp Q (gFun pm N.length g env0)) :
    SOut (jOf T pm rk E vs env0) ms' { nx := fun _ H' => Q .non H', rt := Q } H F fp (g (env0 ++ List.replicate (N.length - env0.length) none)) := by
  subst hsh
  have hl : env0.length = vs.length := by have := gd.len; simpa using this
  have hlo : ∀ i, pm.getD i .sh ≠ .sh → i < env0.length := fun i hi => by
    rcases Nat.lt_or_ge i pm.length with z | z
    · omega
    · exact (hi (by simp [List.getD, List.getElem?_eq_none z])).elim
  unfold gFun at o
  cases q : g (env0 ++ List.replicate (N.length - env0.length) none) with
  | next env' =>
    rw [q] at o
    intro σ' H' F' fp' s g' k'
    exact o H' F' _ .non (s.less fun b ⟨i, z⟩ => ⟨i, z.2⟩) (good_ret (J := jOf T pm .sh E vs env0) g' k' (pmOk_get hms') (by simpa using hl) hlo) (by unfold Rep; rfl)
  | ret env' d =>
    rw [q] at o
    intro H' F' fp' v fv s g' ow off dis
    exact o H' F' fp' v (s.less fun b z => .inl z) g' ow.2
  | err env' x =>
    rw [q] at o
    intro σ' ms'' H' F' fp' cv dd em s g' k' er
    exact o H' F' _ cv dd (s.less fun b ⟨i, z⟩ => ⟨i, z.2⟩) (good_ret (J := jOf T pm .sh E vs env0) g' k' (pmOk_get em) (by simpa using hl) hlo) er
  | brk env' => rw [q] at o; exact o.elim
  | cnt env' => rw [q] at o; exact o.elim
  | stuck => rw [q] at o; exact o.elim
theorem fun_outP {pm : List Mode} {rk : Mode} {E : XK} {env0 : Env} {vs : List V} {H F : Hp} {fp : Nat → Ad} {N : List Str} {ms' : List Mode} {g : GS} {Q : VK} (hms' : pmOk pm ms' = true) (hpm : pm.length ≤ vs.length)
    (gd : Good T pm env0 (vs.map some) H F fp) (hno : ∀ env', g (env0 ++ List.replicate (N.length - env0.length) none) ≠ .next env') (o : OutP T pm rk (fun cv dd _ H' => E cv dd H') (vs.map some) H F fp Q (gFun pm N.length g env0)) :
    SOut (jOf T pm rk E vs env0) ms' { nx := fun _ H' => Q .non H', rt := Q } H F fp (g (env0 ++ List.replicate (N.length - env0.length) none)) := by
  have hl : env0.length = vs.length := by have := gd.len; simpa using this
  have hlo : ∀ i, pm.getD i .sh ≠ .sh → i < env0.length := fun i hi => by
    rcases Nat.lt_or_ge i pm.length with z | z
    · omega
    · exact (hi (by simp [List.getD, List.getElem?_eq_none z])).elim
  unfold gFun at o
  cases q : g (env0 ++ List.replicate (N.length - env0.length) none) with
  | next env' => exact (hno env' q).elim
  | ret env' d =>
    rw [q] at o
    intro H' F' fp' v fv s g' ow off dis
    exact o H' F' fp' v fv s g' ow off dis
  | err env' x =>
    rw [q] at o
    intro σ' ms'' H' F' fp' cv dd em s g' k' er
    exact o H' F' _ cv dd (s.less fun b ⟨i, z⟩ => ⟨i, z.2⟩) (good_ret (J := jOf T pm rk E vs env0) g' k' (pmOk_get em) (by simpa using hl) hlo) er
  | brk env' => rw [q] at o; exact o.elim
  | cnt env' => rw [q] at o; exact o.elim
  | stuck => rw [q] at o; exact o.elim
/-- a def keeps its promise: its body's reading -/
theorem fun_tl {x qual : Str} {st : Stmt} {f : Addr} {fd : FuncData} {N ps : List Str} {lv : Nat} (Fn : Fun K x qual st f fd) (S : FnScope N ps (defScope st)) (pm : List Mode) (hpm : pm.length ≤ ps.length) {ms' : List Mode} {g : GS} (hms' : pmOk pm ms' = true)
    (body : ∀ (cdv : Value) (A : Around) (outer : List PySem.Env) (s : Shared) (H : Hp) (E : XK) (vs : List V) (env0 : Env), Room lv (A.deeper (envOfC qual (defScope st) s.heap.objs.size f cdv)) → JOk (jOf T pm .sh E vs env0) →
      SB (cxOf (L2N.CX P w) P w K mg base N qual (defScope st) f cdv A outer s H E) (jOf T pm .sh E vs env0) (padM pm N.length) (defBody st) ms' g) :
    FnOk P w K mg base (L2N.CX P w) (lv + 1) f fd ps (spS T pm ps.length (gFun pm N.length g)) :=
  okN Fn S (fun vs H Q E h => h.1) fun cdv A outer s H vs Q E hr ⟨hn, F, env0, fp, gd, o⟩ => by
    have hl : env0.length = vs.length := by have := gd.len; simpa using this
    refine ⟨_, body cdv A outer s H E vs env0 hr ⟨by simpa using hl, fun i hi => ?_⟩, F, _, fp, good_start gd, keep_start gd (by omega), fun_out hms' (by omega) gd rfl o⟩
    rcases Nat.lt_or_ge i pm.length with z | z
    · show i < env0.length; omega
    · exact (hi (by simp [List.getD, List.getElem?_eq_none z])).elim
theorem fun_tlP {x qual : Str} {st : Stmt} {f : Addr} {fd : FuncData} {N ps : List Str} {lv : Nat} (Fn : Fun K x qual st f fd) (S : FnScope N ps (defScope st)) (pm : List Mode) (rk : Mode) (hpm : pm.length ≤ ps.length) {ms' : List Mode} {g : GS} (hms' : pmOk pm ms' = true) (hno : ∀ env env', g env ≠ .next env')
    (body : ∀ (cdv : Value) (A : Around) (outer : List PySem.Env) (s : Shared) (H : Hp) (E : XK) (vs : List V) (env0 : Env), Room lv (A.deeper (envOfC qual (defScope st) s.heap.objs.size f cdv)) → JOk (jOf T pm rk E vs env0) →
      SB (cxOf (L2N.CX P w) P w K mg base N qual (defScope st) f cdv A outer s H E) (jOf T pm rk E vs env0) (padM pm N.length) (defBody st) ms' g) :
    FnOk P w K mg base (L2N.CX P w) (lv + 1) f fd ps (spP T pm ps.length rk (gFun pm N.length g)) :=
  okN Fn S (fun vs H Q E h => h.1) fun cdv A outer s H vs Q E hr ⟨hn, F, env0, fp, gd, o⟩ => by
    have hl : env0.length = vs.length := by have := gd.len; simpa using this
    refine ⟨_, body cdv A outer s H E vs env0 hr ⟨by simpa using hl, fun i hi => ?_⟩, F, _, fp, good_start gd, keep_start gd (by omega), fun_outP hms' (by omega) gd (fun env' => hno _ env') o⟩
    rcases Nat.lt_or_ge i pm.length with z | z
    · show i < env0.length; omega
    · exact (hi (by simp [List.getD, List.getElem?_eq_none z])).elim
end

/-! ### what is walked -/
structure ItD (T : Tb) (J : It) (ds : List D) (F : Hp) : Prop where
  go : ∀ i H F', Same F F' → Same F' H → i < ds.length → J.go i H
  stop : ∀ i H F', Same F F' → Same F' H → ds.length ≤ i → J.stop i H
  yld : ∀ i H F' x H', i < ds.length → Same F F' → Same F' H → J.yld i H x H' → ∃ d F'', ds[i]? = some d ∧ Ext0 H F' H' F'' ∧ Rep T F'' d x
theorem ItD.mono {T : Tb} {J : It} {ds : List D} {F F1 : Hp} (h : ItD T J ds F) (g : Same F F1) : ItD T J ds F1 :=
  ⟨fun i H F' a b => h.go i H F' (g.trans a) b, fun i H F' a b => h.stop i H F' (g.trans a) b, fun i H F' x H' hi a b => h.yld i H F' x H' hi (g.trans a) b⟩
abbrev GI := Env → Res (List D)
def OutI (T : Tb) (ms : List Mode) (W : WX) (σ : L2.St) (H F : Hp) (fp : Nat → Ad) (R : It → Hp → Prop) : Res (List D) → Prop
  | .ok env' ds => ∀ H' F' fp' J, Step H F (All fp) H' F' (All fp') → Good T ms env' σ H' F' fp' → ItD T J ds F' → R J H'
  | .err env' x => OutErr T ms W σ H F fp env' x
  | .stuck => False
def tI (T : Tb) (W : WX) (ms : List Mode) (g : GI) : TI := fun σ H R => ∃ F env fp, Good T ms env σ H F fp ∧ OutI T ms W σ H F fp R (g env)
abbrev SI (X : Cx) (T : Tb) (W : WX) (ms : List Mode) (tg iter : Expr) (g : GI) : Prop := PI X tg iter (tI T W ms g)
section
variable {X : Cx} {T : Tb} {ms ms' : List Mode} {W : WX} {e e2 tg iter : Expr} {p pos tpos : Pos} {ga gb g : G} {gs : GA} {gi : GI}
theorem PI.imp {t u : TI} (h : PI X tg iter t) (i : ∀ σ H R, u σ H R → t σ H R) : PI X tg iter u := ⟨fun pins s σ H R I q => h.run pins s σ H R I (i σ H R q)⟩
theorem OutI.bind {σ : L2.St} {H F : Hp} {fp : Nat → Ad} {R : It → Hp → Prop} {Q' : VK} {r : Res D} {f : Env → D → Res (List D)} (h : OutI T ms W σ H F fp R (r.bind f))
    (q : ∀ env1 d H1 F1 fp1 v, Good T ms env1 σ H1 F1 fp1 → Rep T F1 d v → OutI T ms W σ H1 F1 fp1 R (f env1 d) → Q' v H1) : Out T ms W σ H F fp Q' r := by
  cases r with
  | ok env' d =>
    intro H1 F1 fp1 v s1 g1 e1
    refine q env' d H1 F1 fp1 v g1 e1 ?_
    have h' : OutI T ms W σ H F fp R (f env' d) := h
    cases hf : f env' d with
    | ok e2 ds => rw [hf] at h'; exact fun H' F' fp' J s g => h' H' F' fp' J (s1.trans s) g
    | err e2 x => rw [hf] at h'; exact OutErr.step h' s1
    | stuck => rw [hf] at h'; exact h'
  | err env' x => exact h
  | stuck => exact h
theorem OutI.bindA {σ : L2.St} {H F : Hp} {fp : Nat → Ad} {R : It → Hp → Prop} {Q' : List V → Hp → Prop} {r : Res (List D)} {f : Env → List D → Res (List D)} (h : OutI T ms W σ H F fp R (r.bind f))
    (q : ∀ env1 ds H1 F1 fp1 vs, Good T ms env1 σ H1 F1 fp1 → RepL T F1 ds vs → OutI T ms W σ H1 F1 fp1 R (f env1 ds) → Q' vs H1) : OutA T ms W σ H F fp Q' r := by
  cases r with
  | ok env' d =>
    intro H1 F1 fp1 v s1 g1 e1
    refine q env' d H1 F1 fp1 v g1 e1 ?_
    have h' : OutI T ms W σ H F fp R (f env' d) := h
    cases hf : f env' d with
    | ok e2 ds => rw [hf] at h'; exact fun H' F' fp' J s g => h' H' F' fp' J (s1.trans s) g
    | err e2 x => rw [hf] at h'; exact OutErr.step h' s1
    | stuck => rw [hf] at h'; exact h'
  | err env' x => exact h
  | stuck => exact h
/-- a list or a tuple -/
def gSeqI (ga : G) : GI := fun env => (ga env).bind fun env1 d => match d with
  | .lst ds => .ok env1 ds
  | .tup ds => .ok env1 ds
  | _ => .stuck
def iSeq (K : PySem.W.Frag) (tl : TE) : TI := fun σ H R => tl σ H fun x H1 => ∃ a, x = .ref a ∧ (((∃ xs, SqL K H1 a xs) ∧ R (Itl K a) H1) ∨ ((∃ xs, SqT K H1 a xs) ∧ R (Itt K a) H1))
theorem pi_seq {l : Expr} {tl : TE} (hl : PE X l tl) : PI X tg l (iSeq X.K tl) := by
  refine ⟨fun pins s σ H R I h => ?_⟩
  refine thn (hl.run pins s σ H _ I h) fun v s1 ⟨x, H1, I1, r1, q1⟩ => ?_
  obtain ⟨a, e, q⟩ := q1
  subst e
  cases r1
  rcases q with ⟨⟨xs, hq⟩, q⟩ | ⟨⟨xs, hq⟩, q⟩
  · obtain ⟨its, rv, p, hz⟩ := I1.list hq
    refine wpAny_pyIter_list p.isList ?_
    refine ⟨s1.heap.objs.size, [s1.heap.objs.size], _, _, H1, rfl, I1.kept (t' := s1.toks) fun b o e => Heap.get?_push_of_some _ e, turn_list a _, ⟨_, Heap.get?_push_size _ rfl, rfl, rfl⟩, fun b hb => ?_, q⟩
    have e : b = s1.heap.objs.size := by simpa using hb
    subst e
    exact I1.fpOk (Nat.le_refl _) (I1.hok.fresh (Nat.le_refl _))
  · obtain ⟨its, rv, p, hz⟩ := I1.tuple hq
    refine wpAny_pyIter_tuple (show s1.heap.IsTuple a its.toArray from p) ?_
    refine ⟨s1.heap.objs.size, [s1.heap.objs.size], _, _, H1, rfl, I1.kept (t' := s1.toks) fun b o e => Heap.get?_push_of_some _ e, turn_tuple a _, ⟨_, Heap.get?_push_size _ rfl, rfl, rfl⟩, fun b hb => ?_, q⟩
    have e : b = s1.heap.objs.size := by simpa using hb
    subst e
    exact I1.fpOk (Nat.le_refl _) (I1.hok.fresh (Nat.le_refl _))
theorem itd_list {F : Hp} {a : Addr} {ds : List D} {vs : List V} (h : SqL T.K F a vs) (r : RepL T F ds vs) : ItD T (Itl T.K a) ds F := by
  refine ⟨fun i H F' g s hi => ?_, fun i H F' g s hi => ⟨vs, s.seq (g.seq h), by rw [r.length]; exact hi⟩, fun i H F' x H' hi g s y => ?_⟩
  · have : i < vs.length := by rw [r.length]; exact hi
    exact ⟨vs, vs[i], s.seq (g.seq h), by simp [this]⟩
  · obtain ⟨rfl, y⟩ := y
    have hx := y vs (s.seq (g.seq h))
    obtain ⟨v, h1, h2⟩ := r.get (List.getElem?_eq_getElem hi)
    rw [h1] at hx; cases hx
    exact ⟨_, F', List.getElem?_eq_getElem hi, Ext0.refl s, h2.mono g⟩
theorem itd_tup {F : Hp} {a : Addr} {ds : List D} {vs : List V} (h : SqT T.K F a vs) (r : RepL T F ds vs) : ItD T (Itt T.K a) ds F := by
  refine ⟨fun i H F' g s hi => ?_, fun i H F' g s hi => ⟨vs, sqT_mono s (sqT_mono g h), by rw [r.length]; exact hi⟩, fun i H F' x H' hi g s y => ?_⟩
  · have : i < vs.length := by rw [r.length]; exact hi
    exact ⟨vs, vs[i], sqT_mono s (sqT_mono g h), by simp [this]⟩
  · obtain ⟨rfl, y⟩ := y
    have hx := y vs (sqT_mono s (sqT_mono g h))
    obtain ⟨v, h1, h2⟩ := r.get (List.getElem?_eq_getElem hi)
    rw [h1] at hx; cases hx
    exact ⟨_, F', List.getElem?_eq_getElem hi, Ext0.refl s, h2.mono g⟩
theorem si_seq (hK : T.K = X.K) (h : SE X T W ms iter g) : SI X T W ms tg iter (gSeqI g) :=
  PI.imp (pi_seq h) fun σ H R ⟨F, env, fp, gd, o⟩ => ⟨F, env, fp, gd, OutI.bind o fun env1 d H1 F1 fp1 v g1 r1 o1 => by
    cases d with
    | lst ds =>
      unfold Rep at r1
      obtain ⟨a, vs, e, sq, rl⟩ := r1
      refine ⟨a, e, .inl ⟨⟨vs, by rw [← hK]; exact g1.sub.seq (.inl (.inl sq))⟩, ?_⟩⟩
      rw [← hK]
      exact o1 H1 F1 fp1 _ Step.refl g1 (itd_list (.inl (.inl sq)) rl)
    | tup ds =>
      unfold Rep at r1
      obtain ⟨a, vs, e, sq, rl⟩ := r1
      refine ⟨a, e, .inr ⟨⟨vs, by rw [← hK]; exact sqT_mono g1.sub sq⟩, ?_⟩⟩
      rw [← hK]
      exact o1 H1 F1 fp1 _ Step.refl g1 (itd_tup sq rl)
    | _ => exact o1.elim⟩
/-- range(n) -/
def rangeD (lo : Int) (n : Nat) : List D := (List.range n).map fun (i : Nat) => .int (lo + i)
theorem rangeD_length (lo : Int) (n : Nat) : (rangeD lo n).length = n := by simp [rangeD]
theorem itd_range {F : Hp} {lo : Int} {n : Nat} : ItD T (Itr lo n) (rangeD lo n) F := by
  refine ⟨fun i H F' g s hi => by rw [rangeD_length] at hi; exact hi, fun i H F' g s hi => by rw [rangeD_length] at hi; exact hi, fun i H F' x H' hi g s y => ?_⟩
  obtain ⟨rfl, rfl⟩ := y
  rw [rangeD_length] at hi
  exact ⟨.int (lo + i), F', by simp [rangeD, hi], Ext0.refl s, by unfold Rep; rfl⟩
def gRangeI (gs : GA) : GI := fun env => (gs env).bind fun env1 ds => match ds with
  | [.int j] => if -(2 ^ 62) ≤ j ∧ j < 2 ^ 62 then .ok env1 (rangeD 0 j.toNat) else .stuck
  | [.int i, .int j] => if -(2 ^ 62) ≤ i ∧ i < 2 ^ 62 ∧ -(2 ^ 62) ≤ j ∧ j < 2 ^ 62 then .ok env1 (rangeD i (j - i).toNat) else .stuck
  | _ => .stuck
theorem si_range1 (hg : Gl X "range") (hm : X.mg "range" = none) (ha : SA X T W ms [e] gs) (hc : Cnt gs 1) (hs : starEach [e] X.env = [(false, eval e X.env)] := by rfl) : SI X T W ms tg (.Call (.Name "range" p) [e] [] pos) (gRangeI gs) :=
  PI.imp (pi_range1 hg hm ha hs) fun σ H R ⟨F, env, fp, gd, o⟩ => by
    refine ⟨F, env, fp, gd, ?_⟩
    unfold gRangeI at o
    cases q : gs env with
    | err env1 x => rw [q] at o; exact o
    | stuck => rw [q] at o; exact o
    | ok env1 ds =>
      rw [q] at o
      have hl := hc _ _ _ q
      intro H1 F1 fp1 vs s1 g1 r1
      match ds, hl, o, r1 with
      | [d], _, o, r1 =>
        cases d with
        | int j =>
          simp only [Res.bind_ok] at o
          split at o
          · rename_i hj
            obtain ⟨v, rfl, rv⟩ := repL_one r1
            unfold Rep at rv
            subst rv
            exact ⟨j, rfl, hj.1, hj.2, o H1 F1 fp1 _ s1 g1 itd_range⟩
          · exact o.elim
        | _ => exact o.elim
theorem si_range2 (hg : Gl X "range") (hm : X.mg "range" = none) (ha : SA X T W ms [e, e2] gs) (hc : Cnt gs 2) (hs : starEach [e, e2] X.env = [(false, eval e X.env), (false, eval e2 X.env)] := by rfl) (hs2 : starEach [e2] X.env = [(false, eval e2 X.env)] := by rfl) : SI X T W ms tg (.Call (.Name "range" p) [e, e2] [] pos) (gRangeI gs) :=
  PI.imp (pi_range2 hg hm ha hs hs2) fun σ H R ⟨F, env, fp, gd, o⟩ => by
    refine ⟨F, env, fp, gd, ?_⟩
    unfold gRangeI at o
    cases q : gs env with
    | err env1 x => rw [q] at o; exact o
    | stuck => rw [q] at o; exact o
    | ok env1 ds =>
      rw [q] at o
      have hl := hc _ _ _ q
      intro H1 F1 fp1 vs s1 g1 r1
      match ds, hl, o, r1 with
      | [d, d'], _, o, r1 =>
        cases d with
        | int i =>
          cases d' with
          | int j =>
            simp only [Res.bind_ok] at o
            split at o
            · rename_i hj
              obtain ⟨v, u, rfl, rv, ru⟩ := repL_two r1
              unfold Rep at rv ru
              subst rv ru
              exact ⟨i, j, rfl, hj, o H1 F1 fp1 _ s1 g1 itd_range⟩
            · exact o.elim
          | _ => exact o.elim
        | _ => cases d' <;> exact o.elim
/-- zip of two lists -/
def zipD (xs ys : List D) : List D := (xs.zip ys).map fun p => .tup [p.1, p.2]
def gZipI (gs : GA) : GI := fun env => (gs env).bind fun env1 ds => match ds with
  | [.lst xs, .lst ys] => .ok env1 (zipD xs ys)
  | _ => .stuck
theorem itd_zip {F : Hp} {a b : Addr} {xs ys : List D} {vs us : List V} (h : SqL T.K F a vs) (h' : SqL T.K F b us) (r : RepL T F xs vs) (r' : RepL T F ys us) : ItD T (Itz T.K a b) (zipD xs ys) F := by
  have hl : (zipD xs ys).length = min xs.length ys.length := by simp [zipD]
  refine ⟨fun i H F' g s hi => ?_, fun i H F' g s hi => ⟨vs, us, s.seq (g.seq h), s.seq (g.seq h'), by rw [r.length, r'.length]; omega⟩, fun i H F' x H' hi g s y => ?_⟩
  · have h1 : i < vs.length := by rw [r.length]; omega
    have h2 : i < us.length := by rw [r'.length]; omega
    exact ⟨vs, us, vs[i], us[i], s.seq (g.seq h), s.seq (g.seq h'), by simp [h1], by simp [h2]⟩
  · obtain ⟨t, x1, y1, rfl, ht, rfl, q1, q2⟩ := y
    have hx := q1 vs (s.seq (g.seq h))
    have hy := q2 us (s.seq (g.seq h'))
    have i1 : i < xs.length := by omega
    have i2 : i < ys.length := by omega
    obtain ⟨v, h1, h2⟩ := r.get (List.getElem?_eq_getElem i1)
    obtain ⟨u, h3, h4⟩ := r'.get (List.getElem?_eq_getElem i2)
    rw [h1] at hx; cases hx
    rw [h3] at hy; cases hy
    have ex := Ext0.alloc (o := .tup [x1, y1]) s ht
    refine ⟨.tup [xs[i], ys[i]], _, ?_, ex, rep_tup upd_same ?_⟩
    · have hz : i < (xs.zip ys).length := by rw [List.length_zip]; omega
      simp only [zipD, List.getElem?_map, List.getElem?_eq_getElem hz, List.getElem_zip, Option.map_some]
    · have e1 := (h2.mono g).mono ex.grow
      have e2 := (h4.mono g).mono ex.grow
      unfold RepL
      exact ⟨x1, [y1], rfl, e1, RepL.one e2⟩
theorem si_zip {elts : List Expr} {kk : Nat} (hK : T.K = X.K) (hg : Gl X "zip") (hm : X.mg "zip" = none) (ha : SA X T W ms [e, e2] gs) 
    (hs : starEach [e, e2] X.env = (false, eval e X.env) :: starEach [e2] X.env := by rfl) (hpl : (backTo pos (starEach [e2] X.env)).any (·.1) = false := by rfl) : SI X T W ms (.Tuple elts kk tpos) (.Call (.Name "zip" p) [e, e2] [] pos) (gZipI gs) :=
  PI.imp (pi_zip hg hm ha hs hpl) fun σ H R ⟨F, env, fp, gd, o⟩ => ⟨F, env, fp, gd, OutI.bindA o fun env1 ds H1 F1 fp1 vs g1 r1 o1 => by
    split at o1
    · rename_i xs ys
      obtain ⟨v, u, rfl, rv, ru⟩ := repL_two r1
      unfold Rep at rv ru
      obtain ⟨a, vs, e1, sq, rl⟩ := rv
      obtain ⟨b, us, e2, sq', rl'⟩ := ru
      subst e1 e2
      refine ⟨a, b, vs, us, rfl, by rw [← hK]; exact g1.sub.seq (.inl (.inl sq)), by rw [← hK]; exact g1.sub.seq (.inl (.inl sq')), ?_⟩
      rw [← hK]
      exact o1 H1 F1 fp1 _ Step.refl g1 (itd_zip (.inl (.inl sq)) (.inl (.inl sq')) rl rl')
    · exact o1.elim⟩
/-- enumerate of a list -/
def enumD (xs : List D) : List D := xs.zipIdx.map fun p => .tup [.int (p.2 : Nat), p.1]
def gEnumI (gs : GA) : GI := fun env => (gs env).bind fun env1 ds => match ds with
  | [.lst xs] => .ok env1 (enumD xs)
  | _ => .stuck
theorem itd_enum {F : Hp} {a : Addr} {xs : List D} {vs : List V} (h : SqL T.K F a vs) (r : RepL T F xs vs) : ItD T (Ite T.K a) (enumD xs) F := by
  have hl : (enumD xs).length = xs.length := by simp [enumD]
  refine ⟨fun i H F' g s hi => ?_, fun i H F' g s hi => ⟨vs, s.seq (g.seq h), by rw [r.length]; omega⟩, fun i H F' x H' hi g s y => ?_⟩
  · have h1 : i < vs.length := by rw [r.length]; omega
    exact ⟨vs, vs[i], s.seq (g.seq h), by simp [h1]⟩
  · obtain ⟨t, x1, rfl, ht, rfl, q1⟩ := y
    have hx := q1 vs (s.seq (g.seq h))
    have i1 : i < xs.length := by omega
    obtain ⟨v, h1, h2⟩ := r.get (List.getElem?_eq_getElem i1)
    rw [h1] at hx; cases hx
    have ex := Ext0.alloc (o := .tup [.int (i : Nat), x1]) s ht
    refine ⟨.tup [.int (i : Nat), xs[i]], _, by simp [enumD, i1], ex, rep_tup upd_same ?_⟩
    unfold RepL
    exact ⟨_, [x1], rfl, (by unfold Rep; rfl), RepL.one ((h2.mono g).mono ex.grow)⟩
theorem si_enum {elts : List Expr} {kk : Nat} (hK : T.K = X.K) (hg : Gl X "enumerate") (hm : X.mg "enumerate" = none) (ha : SA X T W ms [e] gs) (hs : starEach [e] X.env = [(false, eval e X.env)] := by rfl) : SI X T W ms (.Tuple elts kk tpos) (.Call (.Name "enumerate" p) [e] [] pos) (gEnumI gs) :=
  PI.imp (pi_enum hg hm ha hs) fun σ H R ⟨F, env, fp, gd, o⟩ => ⟨F, env, fp, gd, OutI.bindA o fun env1 ds H1 F1 fp1 vs g1 r1 o1 => by
    split at o1
    · rename_i xs
      obtain ⟨v, rfl, rv⟩ := repL_one r1
      unfold Rep at rv
      obtain ⟨a, vs, e1, sq, rl⟩ := rv
      subst e1
      refine ⟨a, vs, rfl, by rw [← hK]; exact g1.sub.seq (.inl (.inl sq)), ?_⟩
      rw [← hK]
      exact o1 H1 F1 fp1 _ Step.refl g1 (itd_enum (.inl (.inl sq)) rl)
    · exact o1.elim⟩

/-! ### targets: names, tuples of names -/
inductive Tg where
  | nm (i : Nat) | tup (ts : List Nat)
def Tg.put (env : Env) (d : D) : Tg → Option Env
  | .nm i => some (env.set i (some d))
  | .tup is => match d with
    | .tup ds => if ds.length = is.length then some ((is.zip ds).foldl (fun e p => e.set p.1 (some p.2)) env) else none
    | _ => none
def Tg.slots : Tg → List Nat
  | .nm i => [i]
  | .tup is => is
/-- slots whose mode is 'shared' get shared values -/
structure TgOk (T : Tb) (ms : List Mode) (t : Tg) (g : TG) : Prop where
  run : ∀ (d : D) (v : V) (σ : L2.St) (H F : Hp) (env env' : Env) (fp : Nat → Ad) (Q : L2.St → Hp → Prop), Good T ms env σ H F fp → Rep T F d v → t.put env d = some env' →
    (∀ σ' fp', Good T ms env' σ' H F fp' → (∀ a, All fp' a → All fp a) → (∀ j, j ∉ t.slots → σ'[j]? = σ[j]?) → Q σ' H) → g v σ H Q
theorem good_put {env : Env} {σ : L2.St} {H F : Hp} {fp : Nat → Ad} {i : Nat} {d : D} {v : V} (g : Good T ms env σ H F fp) (hm : ms.getD i .sh = .sh) (r : Rep T F d v) : Good T ms (env.set i (some d)) (σ.set i (some v)) H F (fun j a => j ≠ i ∧ fp j a) := by
  refine ⟨by rw [List.length_set, List.length_set]; exact g.len, g.sub, fun j d' e => ?_, fun j j' a hne h1 h2 => g.dis j j' a hne h1.2 h2.2, fun j a h => g.off j a h.2⟩
  by_cases hj : j = i
  · subst hj
    have hl : j < env.length := by
      rcases Nat.lt_or_ge j env.length with z | z
      · exact z
      · rw [List.getElem?_eq_none (by rw [List.length_set]; omega)] at e; cases e
    rw [List.getElem?_set_self hl] at e
    cases e
    exact ⟨v, by rw [List.getElem?_set_self (by rw [← g.len]; exact hl)], by rw [hm]; exact ⟨fun a z => z.1 rfl, r⟩⟩
  · rw [List.getElem?_set_ne (Ne.symm hj)] at e
    obtain ⟨v', h1, h2⟩ := g.slot j d' e
    refine ⟨v', by rw [List.getElem?_set_ne (Ne.symm hj)]; exact h1, ?_⟩
    have : (fun a => j ≠ i ∧ fp j a) = fp j := by funext a; simp [hj]
    rw [this]; exact h2
theorem Good.fpLe {env : Env} {σ : L2.St} {H F : Hp} {fp : Nat → Ad} (g : Good T ms env σ H F fp) {i : Nat} (hm : ms.getD i .sh = .sh) : Good T ms env σ H F (fun j a => j ≠ i ∧ fp j a) := by
  refine ⟨g.len, g.sub, fun j d' e => ?_, fun j j' a hne h1 h2 => g.dis j j' a hne h1.2 h2.2, fun j a h => g.off j a h.2⟩
  obtain ⟨v', h1, h2⟩ := g.slot j d' e
  by_cases hj : j = i
  · subst hj
    rw [hm] at h2 ⊢
    exact ⟨v', h1, fun a z => z.1 rfl, h2.2⟩
  · refine ⟨v', h1, ?_⟩
    have : (fun a => j ≠ i ∧ fp j a) = fp j := by funext a; simp [hj]
    rw [this]; exact h2

end
section
variable {X : Cx} {T : Tb} {ms ms' : List Mode} {W : WX} {e e2 tg iter : Expr} {p pos tpos : Pos} {ga gb g : G} {gs : GA} {gi : GI}
theorem tg_name (i : Nat) (hm : ms.getD i .sh = .sh) : TgOk T ms (.nm i) (gName i) :=
  ⟨fun d v σ H F env env' fp Q g r e q => by
    cases e
    exact q _ _ (good_put g hm r) (fun a ⟨j, z⟩ => ⟨j, z.2⟩) fun j hj => by rw [List.getElem?_set_ne]; intro z; exact hj (by simp [Tg.slots, z])⟩
theorem put_all {H F : Hp} : ∀ (is : List Nat) (ds : List D) (vs : List V) (σ : L2.St) (env : Env) (fp : Nat → Ad), ds.length = is.length → RepL T F ds vs → (∀ i ∈ is, ms.getD i .sh = .sh) → Good T ms env σ H F fp →
    ∃ fp', Good T ms ((is.zip ds).foldl (fun e p => e.set p.1 (some p.2)) env) ((is.zip vs).foldl (fun s p => s.set p.1 (some p.2)) σ) H F fp' ∧ (∀ a, All fp' a → All fp a) ∧ ∀ j, j ∉ is → ((is.zip vs).foldl (fun s p => s.set p.1 (some p.2)) σ)[j]? = σ[j]?
  | [], [], vs, σ, env, fp, _, r, _, g => by unfold RepL at r; subst r; exact ⟨fp, g, fun _ h => h, fun _ _ => rfl⟩
  | i :: is, d :: ds, vs, σ, env, fp, hl, r, hm, g => by
    unfold RepL at r
    obtain ⟨v, r', e, q, t⟩ := r
    subst e
    have g1 := good_put g (hm i (by simp)) q
    obtain ⟨fp', g2, h2, h3⟩ := put_all is ds r' _ _ _ (by simpa using hl) t (fun j hj => hm j (List.mem_cons_of_mem _ hj)) g1
    refine ⟨fp', g2, fun a ha => ?_, fun j hj => ?_⟩
    · obtain ⟨k, z⟩ := h2 a ha; exact ⟨k, z.2⟩
    · rw [List.zip_cons_cons, List.foldl_cons, h3 j fun z => hj (List.mem_cons_of_mem _ z)]
      rw [List.getElem?_set_ne]; intro z; exact hj (by simp [z])
def gNms : List Nat → TGs
  | [] => L2.gNil
  | i :: is => L2.gCons (gName i) (gNms is)
theorem gNms_run : ∀ (is : List Nat) (vs : List V) (σ : L2.St) (H : Hp) (Q : L2.St → Hp → Prop), vs.length = is.length → Q ((is.zip vs).foldl (fun s p => s.set p.1 (some p.2)) σ) H → gNms is vs σ H Q
  | [], vs, σ, H, Q, h, q => ⟨List.length_eq_zero_iff.mp h, by simpa using q⟩
  | i :: is, [], σ, H, Q, h, q => by cases h
  | i :: is, v :: vs, σ, H, Q, h, q => ⟨v, vs, rfl, gNms_run is vs _ H Q (by simpa using h) (by simpa using q)⟩
theorem tg_tup (is : List Nat) (hm : ∀ i ∈ is, ms.getD i .sh = .sh) : TgOk T ms (.tup is) (L2.gTup T.K is.length (gNms is)) :=
  ⟨fun d v σ H F env env' fp Q g r e q => by
    cases d with
    | tup ds =>
      simp only [Tg.put] at e
      split at e
      · rename_i hl
        cases e
        unfold Rep at r
        obtain ⟨a, vs, e1, sq, rl⟩ := r
        obtain ⟨fp', g2, h2, h3⟩ := put_all is ds vs σ env fp hl rl hm g
        exact ⟨a, vs, e1, sqT_mono g.sub sq, by rw [rl.length, hl], gNms_run is vs σ H Q (by rw [rl.length, hl]) (q _ fp' g2 h2 h3)⟩
      · cases e
    | _ => cases e⟩

/-! ### for -/
def forG (t : Tg) (body : GS) : List D → Env → SRes
  | [], env => .next env
  | d :: ds, env => match t.put env d with
    | none => .stuck
    | some env1 => match body env1 with
      | .next env2 => forG t body ds env2
      | .cnt env2 => forG t body ds env2
      | .brk env2 => .next env2
      | r => r
def gFor (t : Tg) (gi : GI) (body : GS) : GS := fun env => (gi env).to fun env1 ds => forG t body ds env1
theorem SOut.expI {J : Jd} {E : Ends} {σ : L2.St} {H F : Hp} {fp : Nat → Ad} {r : Res (List D)} {f : Env → List D → SRes} {R : It → Hp → Prop} (hem : J.em ms) (kp : Keep J σ F) (h : SOut J ms' E H F fp (r.to f))
    (q : ∀ env1 ds H1 F1 fp1 It, Good J.T ms env1 σ H1 F1 fp1 → Keep J σ F1 → ItD J.T It ds F1 → SOut J ms' E H1 F1 fp1 (f env1 ds) → R It H1) : OutI J.T ms J.W σ H F fp R r := by
  cases r with
  | ok env' d => exact fun H1 F1 fp1 It s1 g1 e1 => q env' d H1 F1 fp1 It g1 (kp.mono s1.grow) e1 (SOut.step h s1)
  | err env' x => exact fun H' F' fp' cv dd s g e => h σ ms H' F' fp' cv dd hem s g (kp.mono s.grow) e
  | stuck => exact h
abbrev Jd.loop (J : Jd) (ms : List Mode) : Jd := { J with lm := ms }
theorem Keep.loop {J : Jd} {σ : L2.St} {F : Hp} (k : Keep J σ F) (ms : List Mode) : Keep (J.loop ms) σ F := ⟨k.own, k.sh⟩
theorem Keep.unloop {J : Jd} {σ : L2.St} {F : Hp} (k : Keep (J.loop ms) σ F) : Keep J σ F := ⟨k.own, k.sh⟩
theorem ss_for {J : Jd} {body : List Stmt} {t : Tg} {tgl : TG} {gb : GS} (hp : PassesOwn (model X.prog X.w) X.A X.env X.xe) (hc : X.calm = true) (hi : SI X J.T J.W ms tg iter gi) (hg : PG X tg tgl) (ht : TgOk J.T ms t tgl) (hb : SB X (J.loop ms) ms body ms gb) (hem : J.em ms) (hpar : ∀ i ∈ t.slots, J.pm.getD i .sh = .sh) (hs : ∀ x, foldedSetIterable iter X.env x = pure x := by intro _; rfl) :
    SS X J ms (.For tg iter body [] pos) ms (gFor t gi gb) :=
  PS.imp (ps_for hp hc hi hg hb hs) fun E σ H ⟨F, env, fp, gd, kp, o⟩ => ⟨F, env, fp, gd, SOut.expI hem kp o fun env1 ds H1 F1 fp1 It g1 k1 itd o1 => by
    refine ⟨fun i m σ H => m = ds.length - i ∧ i ≤ ds.length ∧ ∃ F env fp, Good J.T ms env σ H F fp ∧ Keep J σ F ∧ Same F1 F ∧ SOut J ms E H F fp (forG t gb (ds.drop i) env), ⟨_, rfl, Nat.zero_le _, F1, env1, fp1, g1, k1, Same.refl _, o1⟩, ?_⟩
    rintro i m σ H ⟨rfl, hi, F, env, fp, gd, kp, sm, o⟩
    by_cases hlt : i < ds.length
    · refine .inr ⟨itd.go i H F sm gd.sub hlt, fun σ' H' => ∃ F' env' fp', Good J.T ms env' σ' H' F' fp' ∧ Keep J σ' F' ∧ Same F1 F' ∧ SOut J ms E H' F' fp' (forG t gb (ds.drop (i + 1)) env'), fun σ' H' ⟨F', env', fp', a, b, c, d⟩ => ⟨ds.length - (i + 1), by omega, rfl, hlt, F', env', fp', a, b, c, d⟩, fun x H' y => ?_⟩
      obtain ⟨d, F2, hd, ex, rd⟩ := itd.yld i H F x H' hlt sm gd.sub y
      have g2 := gd.ext ex
      have k2 := kp.mono ex.grow
      have o2 := SOut.step o (ex.step gd)
      have hdr : ds.drop i = d :: ds.drop (i + 1) := by
        rw [List.drop_eq_getElem_cons hlt]
        rw [List.getElem?_eq_getElem hlt] at hd; cases hd; rfl
      rw [hdr] at o2
      unfold forG at o2
      cases hput : t.put env d with
      | none => rw [hput] at o2; exact o2.elim
      | some env2 =>
        rw [hput] at o2
        refine ht.run d x σ H' F2 env env2 fp _ g2 rd hput fun σ' fp' g3 hfp hs => ?_
        have k3 : Keep J σ' F2 := ⟨fun j hj => by rw [hs j fun z => hj (hpar j z)]; exact k2.own j hj, k2.sh⟩
        have o3 := SOut.step o2 (Step.refl.less hfp)
        refine ⟨F2, env2, fp', g3, k3.loop ms, ?_⟩
        have sm2 : Same F1 F2 := sm.trans ex.grow
        cases hb2 : gb env2 with
        | next env3 =>
          simp only [hb2] at o3
          exact fun σ4 H4 F4 fp4 s4 g4 k4 => ⟨F4, env3, fp4, g4, k4.unloop, sm2.trans s4.grow, SOut.step o3 s4⟩
        | cnt env3 =>
          simp only [hb2] at o3
          exact fun σ4 H4 F4 fp4 s4 g4 k4 => ⟨F4, env3, fp4, g4, k4.unloop, sm2.trans s4.grow, SOut.step o3 s4⟩
        | brk env3 =>
          simp only [hb2] at o3
          exact fun σ4 H4 F4 fp4 s4 g4 k4 => o3 σ4 H4 F4 fp4 s4 g4 k4.unloop
        | ret env3 d => simp only [hb2] at o3; exact o3
        | err env3 x => simp only [hb2] at o3; exact fun σ' ms'' H' F' fp' cv dd em s g k => o3 σ' ms'' H' F' fp' cv dd em s g k.unloop
        | stuck => simp only [hb2] at o3; exact o3
    · have e : i = ds.length := by omega
      subst e
      rw [List.drop_length] at o
      exact .inl ⟨itd.stop _ H F sm gd.sub (Nat.le_refl _), o σ H F fp Step.refl gd kp⟩⟩

/-! ### while -/
def whileG (t : GT) (body : GS) : Nat → Env → SRes
  | 0, _ => .stuck
  | n + 1, env => (t env).to fun env1 c => if c then (match body env1 with
      | .next env2 => whileG t body n env2
      | .cnt env2 => whileG t body n env2
      | .brk env2 => .next env2
      | r => r) else .next env1
theorem ss_while {J : Jd} {body : List Stmt} {c : Expr} {t : GT} {gb : GS} (fuel : Env → Nat) (hp : PassesOwn (model X.prog X.w) X.A X.env X.xe) (hc : ST X J.T J.W ms c t) (hb : SB X (J.loop ms) ms body ms gb) (hem : J.em ms) :
    SS X J ms (.While c body [] pos) ms (fun env => whileG t gb (fuel env) env) :=
  PS.imp (ps_while hp hc hb) fun E σ H ⟨F, env, fp, gd, kp, o⟩ => by
    refine ⟨fun m σ H => ∃ F env fp, Good J.T ms env σ H F fp ∧ Keep J σ F ∧ SOut J ms E H F fp (whileG t gb m env), ⟨_, F, env, fp, gd, kp, o⟩, ?_⟩
    rintro m σ H ⟨F, env, fp, gd, kp, o⟩
    cases m with
    | zero => exact o.elim
    | succ m =>
      refine ⟨F, env, fp, gd, SOut.expT hem kp o fun env1 c H1 F1 fp1 g1 k1 o1 => ?_⟩
      cases c with
      | false => exact iteF (o1 σ H1 F1 fp1 Step.refl g1 k1)
      | true =>
        refine iteT ⟨fun σ' H' => ∃ F env fp, Good J.T ms env σ' H' F fp ∧ Keep J σ' F ∧ SOut J ms E H' F fp (whileG t gb m env), fun σ' H' h => ⟨m, Nat.lt_succ_self _, h⟩, F1, env1, fp1, g1, k1.loop ms, ?_⟩
        simp only [if_true] at o1
        cases hb2 : gb env1 with
        | next env3 =>
          simp only [hb2] at o1
          exact fun σ4 H4 F4 fp4 s4 g4 k4 => ⟨F4, env3, fp4, g4, k4.unloop, SOut.step o1 s4⟩
        | cnt env3 =>
          simp only [hb2] at o1
          exact fun σ4 H4 F4 fp4 s4 g4 k4 => ⟨F4, env3, fp4, g4, k4.unloop, SOut.step o1 s4⟩
        | brk env3 =>
          simp only [hb2] at o1
          exact fun σ4 H4 F4 fp4 s4 g4 k4 => o1 σ4 H4 F4 fp4 s4 g4 k4.unloop
        | ret env3 d => simp only [hb2] at o1; exact o1
        | err env3 x => simp only [hb2] at o1; exact fun σ' ms'' H' F' fp' cv dd em s g k => o1 σ' ms'' H' F' fp' cv dd em s g k.unloop
        | stuck => simp only [hb2] at o1; exact o1
def gBrk : GS := .brk
def gCnt : GS := .cnt
theorem ss_break {J : Jd} (h : J.lm = ms) : SS X J ms (.Break pos) ms' gBrk := PS.imp ps_break fun E σ H ⟨F, env, fp, g, k, o⟩ => o σ H F fp Step.refl (by rw [h]; exact g) k
theorem ss_continue {J : Jd} (h : J.lm = ms) : SS X J ms (.Continue pos) ms' gCnt := PS.imp ps_continue fun E σ H ⟨F, env, fp, g, k, o⟩ => o σ H F fp Step.refl (by rw [h]; exact g) k
end
end TL

set_option Elab.async false
set_option linter.all false
set_option maxRecDepth 100000
set_option maxHeartbeats 400000
namespace TL
open PySem PySem.Spec PyProof.Rows L2

/-! ### comprehensions -/
def wipeE (env : Env) : List Nat → Env
  | [] => env
  | v :: vs => (wipeE env vs).set v none
def unw (env0 env : Env) : List Nat → Env
  | [] => env
  | v :: vs => (unw env0 env vs).set v (env0.getD v none)
theorem wipeE_length (env : Env) : ∀ vs, (wipeE env vs).length = env.length
  | [] => rfl
  | v :: vs => by unfold wipeE; rw [List.length_set, wipeE_length env vs]
theorem unw_length (env0 env : Env) : ∀ vs, (unw env0 env vs).length = env.length
  | [] => rfl
  | v :: vs => by unfold unw; rw [List.length_set, unw_length env0 env vs]
theorem wipeE_some {env : Env} {i : Nat} {d : D} : ∀ {vs : List Nat}, (wipeE env vs)[i]? = some (some d) → env[i]? = some (some d) ∧ i ∉ vs
  | [], h => ⟨h, by simp⟩
  | v :: vs, h => by
    unfold wipeE at h
    by_cases e : v = i
    · subst e
      rw [List.getElem?_set] at h
      simp at h
    · rw [List.getElem?_set_ne e] at h
      obtain ⟨a, b⟩ := wipeE_some h
      exact ⟨a, by simp [b, Ne.symm e]⟩
theorem wipe_get {σ : L2.St} {i : Nat} : ∀ {vs : List Nat}, i ∉ vs → (L2.wipe σ vs)[i]? = σ[i]?
  | [], h => rfl
  | v :: vs, h => by
    unfold L2.wipe
    rw [List.getElem?_set_ne (fun e => h (by simp [e])), wipe_get fun z => h (by simp [z])]
theorem unw_some {env0 env : Env} {i : Nat} {d : D} : ∀ {vs : List Nat}, (unw env0 env vs)[i]? = some (some d) → (i ∈ vs ∧ env0[i]? = some (some d)) ∨ (i ∉ vs ∧ env[i]? = some (some d))
  | [], h => .inr ⟨by simp, h⟩
  | v :: vs, h => by
    unfold unw at h
    by_cases e : v = i
    · subst e
      rw [List.getElem?_set] at h
      simp only [if_true] at h
      split at h
      · have h' := Option.some.inj h
        refine .inl ⟨by simp, ?_⟩
        cases q : env0[v]? with
        | none => simp [List.getD, q] at h'
        | some z => simp [List.getD, q] at h'; rw [h']
      · cases h
    · rw [List.getElem?_set_ne e] at h
      rcases unw_some h with ⟨a, b⟩ | ⟨a, b⟩
      · exact .inl ⟨by simp [a], b⟩
      · exact .inr ⟨by simp [a, Ne.symm e], b⟩
section
variable {T : Tb} {ms : List Mode} {k : Mode} {W : WX} {σ : L2.St} {H F : Hp} {fp : Nat → Ad} {env : Env}
theorem Good.wipe (g : Good T ms env σ H F fp) (vs : List Nat) : Good T ms (wipeE env vs) (L2.wipe σ vs) H F fp :=
  ⟨by rw [wipeE_length, L2.wipe_length]; exact g.len, g.sub, fun i d e => by
    obtain ⟨h, hi⟩ := wipeE_some e
    obtain ⟨v, h1, h2⟩ := g.slot i d h
    exact ⟨v, by rw [wipe_get hi]; exact h1, h2⟩, g.dis, g.off⟩
/-- behind a comprehension: its own names are the body's again -/
theorem Good.unw {env0 : Env} {H0 F0 : Hp} {fp0 : Nat → Ad} {vs : List Nat} (g : Good T ms env (L2.wipe σ vs) H F fp) (g0 : Good T ms env0 σ H0 F0 fp0) (s : Same F0 F) (hm : ∀ i ∈ vs, ms.getD i .sh = .sh) :
    Good T ms (unw env0 env vs) σ H F (fun i a => i ∉ vs ∧ fp i a) := by
  refine ⟨by rw [unw_length, g.len, L2.wipe_length], g.sub, fun i d e => ?_, fun i j a hne h1 h2 => g.dis i j a hne h1.2 h2.2, fun i a h => g.off i a h.2⟩
  rcases unw_some e with ⟨hi, e0⟩ | ⟨hi, e1⟩
  · obtain ⟨v, h1, h2⟩ := g0.slot i d e0
    rw [hm i hi] at h2 ⊢
    exact ⟨v, h1, fun a z => z.1 hi, h2.2.mono s⟩
  · obtain ⟨v, h1, h2⟩ := g.slot i d e1
    refine ⟨v, by rw [← wipe_get hi]; exact h1, ?_⟩
    have : (fun a => i ∉ vs ∧ fp i a) = fp i := by funext a; exact propext ⟨fun z => z.2, fun z => ⟨hi, z⟩⟩
    rw [this]; exact h2
/-- an object that is nobody's changes -/
theorem Good.upd {a : Addr} {o : HO} (g : Good T ms env σ H F fp) (hF : F a = none) (hp : ¬ All fp a) : Good T ms env σ (L2.upd H a o) F fp := by
  refine ⟨g.len, fun b u h => ?_, fun i d e => ?_, g.dis, fun i b h => ⟨(g.off i b h).1, ?_⟩⟩
  · rw [upd_ne (ne_of_none h hF)]; exact g.sub b u h
  · obtain ⟨v, h1, h2⟩ := g.slot i d e
    exact ⟨v, h1, h2.mono (Same.refl _) fun b hb => upd_ne fun (e : b = a) => hp ⟨i, by rw [← e]; exact hb⟩⟩
  · rw [upd_ne fun (e : b = a) => hp ⟨i, by rw [← e]; exact h⟩]; exact (g.off i b h).2
theorem OwnL.snoc {P : D → V → Ad → Prop} : ∀ {ds : List D} {vs : List V} {fp f : Ad} {d : D} {v : V}, OwnL P ds vs fp → P d v f → (∀ a, fp a → f a → False) → OwnL P (ds ++ [d]) (vs ++ [v]) (fun a => fp a ∨ f a)
  | [], vs, fp, f, d, v, h, p, dj => by
    obtain ⟨e, n⟩ := h
    subst e
    exact ⟨v, [], f, fun _ => False, rfl, fun a => ⟨fun z => .inl (z.elim (fun w => (n a w).elim) id), fun z => .inr (z.elim id False.elim)⟩, fun _ _ z => z, p, rfl, fun _ z => z⟩
  | d' :: ds, vs, fp, f, d, v, ⟨v', r, f1, f2, e, hf, dj', p', t⟩, p, dj => by
    subst e
    refine ⟨v', r ++ [v], f1, fun a => f2 a ∨ f a, rfl, fun a => ?_, fun a h1 h2 => h2.elim (dj' a h1) fun h => dj a ((hf a).mpr (.inl h1)) h, p', OwnL.snoc t p fun a h1 h2 => dj a ((hf a).mpr (.inr h1)) h2⟩
    show fp a ∨ f a ↔ f1 a ∨ (f2 a ∨ f a)
    rw [hf a, or_assoc]
def lcG (own : List Nat) (t : Tg) (gt : GT) (ge : G) : List D → Env → List D → Res (List D)
  | [], env, acc => .ok env acc
  | d :: ds, env, acc => match t.put env d with
    | none => .stuck
    | some env1 => match gt env1 with
      | .ok env2 true => match ge env2 with
        | .ok env3 y => if acc.length < bigN then lcG own t gt ge ds (wipeE env3 own) (acc ++ [y]) else .stuck
        | _ => .stuck
      | .ok env2 false => lcG own t gt ge ds (wipeE env2 own) acc
      | _ => .stuck
def gLc (own : List Nat) (t : Tg) (gi : GI) (gt : GT) (ge : G) : G := fun env => (gi env).bind fun env1 ds => match lcG own t gt ge ds (wipeE env1 own) [] with
  | .ok env2 acc => .ok (unw env1 env2 own) (.lst acc)
  | _ => .stuck
def gYes : GT := fun env => .ok env true
abbrev W0 : WX := fun _ _ _ _ => False
def tTs (X : Cx) (T : Tb) (ms : List Mode) (ifs : List Expr) (g : GT) : Prop := PTs X ifs (tT T W0 ms g)
theorem PTs.imp {X : Cx} {ifs : List Expr} {t u : TT} (h : PTs X ifs t) (i : ∀ σ H Q, u σ H Q → t σ H Q) : PTs X ifs u := ⟨fun pins s σ H Q I q => h.run pins s σ H Q I (i σ H Q q)⟩
theorem sts_nil {X : Cx} : PTs X [] (tT T W0 ms gYes) := PTs.imp pts_nil fun σ H Q ⟨F, env, fp, g, o⟩ => o H F fp Step.refl g
theorem sts_one {X : Cx} {e : Expr} {g : GT} (h : ST X T W0 ms e g) : PTs X [e] (tT T W0 ms g) := pts_one h
theorem SE.sp {X : Cx} {e : Expr} {g : G} (h : SE X T W ms e g) : SP' X T W ms .sh e g :=
  PE.imp h fun σ H Q ⟨F, env, fp, gd, o⟩ => ⟨F, env, fp, gd, by
    cases q : g env with
    | ok env' d => rw [q] at o; exact fun H' F' fp' v s g' r => o H' F' fp' v (fun _ => False) (s.less fun b z => z.elim id False.elim) g' ⟨fun _ z => z, r⟩ (fun _ z => z.elim) fun _ _ _ z => z
    | err env' x => rw [q] at o; exact o
    | stuck => rw [q] at o; exact o⟩
theorem OutP.bindI {Q : VK} {R : It → Hp → Prop} {r : Res (List D)} {f : Env → List D → Res D} (h : OutP T ms k W σ H F fp Q (r.bind f))
    (q : ∀ env1 ds H1 F1 fp1 It, Good T ms env1 σ H1 F1 fp1 → ItD T It ds F1 → OutP T ms k W σ H1 F1 fp1 Q (f env1 ds) → R It H1) : OutI T ms W σ H F fp R r := by
  cases r with
  | ok env' d => exact fun H1 F1 fp1 It s1 g1 e1 => q env' d H1 F1 fp1 It g1 e1 (OutP.step h s1)
  | err env' x => exact h
  | stuck => exact h
theorem put_length {env env' : Env} {d : D} {t : Tg} (h : t.put env d = some env') : env'.length = env.length := by
  cases t with
  | nm i => cases h; rw [List.length_set]
  | tup is =>
    cases d with
    | tup ds =>
      simp only [Tg.put] at h
      split at h
      · cases h
        have : ∀ (l : List (Nat × D)) (e : Env), (l.foldl (fun e p => e.set p.1 (some p.2)) e).length = e.length := fun l => by
          induction l with
          | nil => intro e; rfl
          | cons p l ih => intro e; rw [List.foldl_cons, ih, List.length_set]
        exact this _ _
      · cases h
    | _ => cases h
theorem wipe_in {σ σ2 : L2.St} (hl : σ2.length = σ.length) {j : Nat} : ∀ {vs : List Nat}, j ∈ vs → (L2.wipe σ2 vs)[j]? = (L2.wipe σ vs)[j]?
  | v :: vs, h => by
    unfold L2.wipe
    by_cases e : v = j
    · subst e
      rw [List.getElem?_set, List.getElem?_set]
      simp [L2.wipe_length, hl]
    · rw [List.getElem?_set_ne e, List.getElem?_set_ne e]
      exact wipe_in hl ((List.mem_cons.mp h).resolve_left (Ne.symm e))
theorem ownL_length {P : D → V → Ad → Prop} : ∀ {ds : List D} {vs : List V} {fp : Ad}, OwnL P ds vs fp → vs.length = ds.length
  | [], vs, _, h => by rw [h.1]; rfl
  | d :: ds, vs, _, ⟨v, r, f1, f2, e, _, _, _, t⟩ => by rw [e, List.length_cons, List.length_cons, ownL_length t]
/-- a step of a part, R beside it -/
theorem step_ctx {H F H1 F1 H2 F2 : Hp} {P A B R : Ad} (a : Step H F P H1 F1 (fun x => A x ∨ R x)) (b : Step H1 F1 A H2 F2 B) : Step H F P H2 F2 (fun x => B x ∨ R x) :=
  a.trans ⟨fun c o h n => b.keep c o h fun z => n (.inl z), b.grow, fun c h => (b.new c h).imp id (Or.imp id .inl), fun c h => h.elim (fun z => (b.fpn c z).imp .inl id) fun z => .inl (.inr z)⟩
theorem step_upd {H F H1 F1 : Hp} {P A : Ad} {Z : Addr} {o : HO} (a : Step H F P H1 F1 A) (hA : A Z) (hZ : H Z = none) : Step H F P (L2.upd H1 Z o) F1 A :=
  ⟨fun c u h n => by rw [upd_ne (ne_of_none h hZ)]; exact a.keep c u h n, a.grow, a.new, a.fpn⟩
/-- the state of a comprehension: the list at Z holds acc; what is left gives r -/
structure LcSt (T : Tb) (ms : List Mode) (k : Mode) (own : List Nat) (σ : L2.St) (H0 F0 : Hp) (P0 : Ad) (Z : Addr) (H : Hp) (r : Env → List D → Prop) : Prop where
  ex : ∃ F env fp acc vs R, Good T ms env (L2.wipe σ own) H F fp ∧ H Z = some (.lst vs) ∧ OwnL (Own T F H k) acc vs R ∧ F Z = none ∧ ¬ All fp Z ∧ ¬ R Z ∧ (∀ a, R a → F a = none ∧ H a ≠ none) ∧ (∀ a, R a → All fp a → False) ∧
    Step H0 F0 P0 H F (fun a => All fp a ∨ R a ∨ a = Z) ∧ r env acc
theorem lc_read {t : Tg} {tgl : TG} {gi : GI} {gt : GT} {ge : G} {own : List (Str × Nat)} (htg : TgOk T ms t tgl) (hm : ∀ i ∈ own.map (·.2), ms.getD i .sh = .sh) (hsl : ∀ i ∈ t.slots, i ∈ own.map (·.2)) {σ : L2.St} {H : Hp} {Q : VK}
    (rd : tP T W ms (.own k) (gLc (own.map (·.2)) t gi gt ge) σ H Q) : tLc (tI T W ms gi) tgl (tT T W0 ms gt) (tP T W0 ms k ge) (own.map (·.2)) σ H Q := by
  obtain ⟨F, env, fp, gd, o⟩ := rd
  exact ⟨F, env, fp, gd, OutP.bindI o fun env1 ds H1 F1 fp1 It g1 itd o1 => by
    generalize hwh : lcG (own.map (·.2)) t gt ge ds (wipeE env1 (own.map (·.2))) [] = whole at o1
    intro Z hZ
    have FZ : F1 Z = none := g1.sub.free hZ
    refine ⟨fun i m H => m = ds.length - i ∧ i ≤ ds.length ∧ LcSt T ms k (own.map (·.2)) σ H1 F1 (All fp1) Z H (fun env acc => lcG (own.map (·.2)) t gt ge (ds.drop i) env acc = whole), ⟨_, rfl, Nat.zero_le _, ⟨F1, wipeE env1 (own.map (·.2)), fp1, [], [], fun _ => False, ?_, upd_same, ⟨rfl, fun _ z => z⟩, FZ, ?_, id, fun _ z => z.elim, fun _ z _ => z, ?_, ?_⟩⟩, ?_⟩
    · exact (g1.wipe _).upd FZ fun ⟨i, z⟩ => (g1.off i Z z).2 hZ
    · exact fun ⟨i, z⟩ => (g1.off i Z z).2 hZ
    · exact ⟨fun b u h _ => by rw [upd_ne (ne_of_none h hZ)]; exact h, Same.refl _, fun b h => .inl h, fun b h => h.elim .inl fun z => z.elim False.elim fun e => .inr (e ▸ hZ)⟩
    · rw [List.drop_zero]; exact hwh
    rintro i m H2 ⟨rfl, hi2, F2, env2, fp2, acc, vs, R, g2, hZ2, ow, FZ2, nZ, nRZ, offR, disR, st, hr⟩
    have sm : Same F1 F2 := st.grow
    by_cases hlt : i < ds.length
    · refine .inr ⟨itd.go i H2 F2 sm g2.sub hlt, fun H' => LcSt T ms k (own.map (·.2)) σ H1 F1 (All fp1) Z H' (fun env acc => lcG (own.map (·.2)) t gt ge (ds.drop (i + 1)) env acc = whole), fun H' h => ⟨_, by omega, rfl, hlt, h⟩, fun x H' y => ?_⟩
      obtain ⟨d, F3, hd, ex, rd⟩ := itd.yld i H2 F2 x H' hlt sm g2.sub y
      have g3 := g2.ext ex
      have hdr : ds.drop i = d :: ds.drop (i + 1) := by
        rw [List.drop_eq_getElem_cons hlt]
        rw [List.getElem?_eq_getElem hlt] at hd; cases hd; rfl
      -- a list that is nobody's and what it holds, behind the walk's step
      have Z3 : H' Z = some (.lst vs) := ex.keep _ _ hZ2
      have F3Z : F3 Z = none := by
        cases q : F3 Z with
        | none => rfl
        | some u => exact ((ex.new Z (by rw [q]; exact fun z => nomatch z)).elim (fun z => z FZ2) fun z => by rw [hZ2] at z; cases z).elim
      have keepR : ∀ a, R a → H' a = H2 a := fun a ha => by
        cases q : H2 a with
        | none => exact ((offR a ha).2 q).elim
        | some u => exact ex.keep _ _ q
      have ow3 : OwnL (Own T F3 H' k) acc vs R := ow.imp fun d v f hs p => p.mono ex.grow fun a ha => keepR a (hs a ha)
      have offR3 : ∀ a, R a → F3 a = none ∧ H' a ≠ none := fun a ha => ⟨by
        cases q : F3 a with
        | none => rfl
        | some u => exact ((ex.new a (by rw [q]; exact fun z => nomatch z)).elim (fun z => z (offR a ha).1) fun z => (offR a ha).2 z).elim, by rw [keepR a ha]; exact (offR a ha).2⟩
      have st3 : Step H1 F1 (All fp1) H' F3 (fun a => All fp2 a ∨ R a ∨ a = Z) := st.trans ⟨fun b o h _ => ex.keep b o h, ex.grow, fun b h => (ex.new b h).imp id .inl, fun b h => .inl h⟩
      -- what a step of the element's parts leaves of it
      have carry : ∀ {H4 F4 : Hp} {fp4 : Nat → Ad} {P : Ad} {fpb : Nat → Ad} {Hb Fb : Hp}, Hb Z = some (.lst vs) → Fb Z = none → ¬ All fpb Z → OwnL (Own T Fb Hb k) acc vs R → (∀ a, R a → Fb a = none ∧ Hb a ≠ none) → (∀ a, R a → All fpb a → False) → Step Hb Fb (All fpb) H4 F4 P → (∀ a, All fp4 a → P a) →
          H4 Z = some (.lst vs) ∧ F4 Z = none ∧ ¬ All fp4 Z ∧ OwnL (Own T F4 H4 k) acc vs R ∧ (∀ a, R a → F4 a = none ∧ H4 a ≠ none) ∧ (∀ a, R a → All fp4 a → False) ∧ (¬ P Z) ∧ (∀ a, R a → ¬ P a) := by
        intro H4 F4 fp4 P fpb Hb Fb z1 z2 z3 o1 r1 r2 s hP
        have nP : ∀ a, Hb a ≠ none → ¬ All fpb a → ¬ P a := fun a h1 h2 p => (s.fpn a p).elim h2 fun z => h1 z
        have pZ : ¬ P Z := nP Z (by rw [z1]; exact fun z => nomatch z) z3
        have pR : ∀ a, R a → ¬ P a := fun a ha => nP a (r1 a ha).2 fun z => r2 a ha z
        have kp : ∀ a, Hb a ≠ none → ¬ All fpb a → H4 a = Hb a := fun a h1 h2 => by
          cases q : Hb a with
          | none => exact (h1 q).elim
          | some u => exact s.keep a u q h2
        have nF : ∀ a, Fb a = none → Hb a ≠ none → ¬ All fpb a → F4 a = none := fun a h0 h1 h2 => by
          cases q : F4 a with
          | none => rfl
          | some u =>
            rcases s.new a (by rw [q]; exact fun z => nomatch z) with z | z | z
            · exact (z h0).elim
            · exact (h1 z).elim
            · exact (h2 z).elim
        refine ⟨by rw [kp Z (by rw [z1]; exact fun z => nomatch z) z3]; exact z1, nF Z z2 (by rw [z1]; exact fun z => nomatch z) z3, fun z => pZ (hP Z z), o1.imp fun d v f hs p => p.mono s.grow fun a ha => kp a (r1 a (hs a ha)).2 fun z => r2 a (hs a ha) z, fun a ha => ⟨nF a (r1 a ha).1 (r1 a ha).2 fun z => r2 a ha z, by rw [kp a (r1 a ha).2 fun z => r2 a ha z]; exact (r1 a ha).2⟩, fun a ha z => pR a ha (hP a z), pZ, pR⟩
      cases hput : t.put env2 d with
      | none =>
        exfalso
        have hst := hr
        rw [hdr] at hst
        unfold lcG at hst
        simp only [hput] at hst
        have o2 := o1
        rw [← hst] at o2
        exact o2
      | some env3 =>
      refine htg.run d x (L2.wipe σ _) H' F3 env2 env3 fp2 _ g3 rd hput fun σ2 fp3 g4 hfp3 hs2 => ?_
      have hw : L2.wipe σ2 (own.map (·.2)) = L2.wipe σ (own.map (·.2)) := by
        apply List.ext_getElem?
        intro j
        by_cases hj : j ∈ own.map (·.2)
        · have l1 : σ2.length = σ.length := by rw [← g4.len, ← L2.wipe_length σ (own.map (·.2)), ← g3.len]; exact put_length hput
          exact wipe_in l1 hj
        · rw [wipe_get hj, hs2 j (fun z => hj (hsl j z))]
      refine ⟨hw, F3, env3, fp3, g4, ?_⟩
      have z3' : ¬ All fp3 Z := fun z => nZ (hfp3 Z z)
      have dR3 : ∀ a, R a → All fp3 a → False := fun a ha z => disR a ha (hfp3 a z)
      have st4 : Step H1 F1 (All fp1) H' F3 (fun a => All fp3 a ∨ R a ∨ a = Z) := st3.less fun b hb => hb.imp (hfp3 b) id
      have hst := hr
      rw [hdr] at hst
      unfold lcG at hst
      simp only [hput] at hst
      have o2 := o1
      rw [← hst] at o2
      cases hgt : gt env3 with
      | err env4 x => simp only [hgt] at hst; rw [← hst] at o1; exact o1.elim
      | stuck => simp only [hgt] at hst; rw [← hst] at o1; exact o1.elim
      | ok env4 b =>
        simp only [hgt] at hst
        intro H4 F4 fp4 s4 g5
        obtain ⟨c1, c2, c3, c4, c5, c6, c7, c8⟩ := carry Z3 F3Z z3' ow3 offR3 dR3 s4 (fun a z => z)
        have st5 : Step H1 F1 (All fp1) H4 F4 (fun a => All fp4 a ∨ R a ∨ a = Z) := step_ctx st4 s4
        cases b with
        | false =>
          simp only at hst
          refine iteF ⟨F4, _, fp4, acc, vs, R, by rw [← hw]; exact g5.wipe _, c1, c4, c2, c3, nRZ, c5, c6, st5, hst⟩
        | true =>
          simp only at hst
          refine iteT ⟨F4, env4, fp4, g5, ?_⟩
          cases hge : ge env4 with
          | err env5 x => simp only [hge] at hst; rw [← hst] at o1; exact o1.elim
          | stuck => simp only [hge] at hst; rw [← hst] at o1; exact o1.elim
          | ok env5 y =>
            simp only [hge] at hst
            by_cases hlen : acc.length < bigN
            · rw [if_pos hlen] at hst
              intro H5 F5 fp5 v fv s5 g6 ov offv disv
              obtain ⟨e1, e2, e3, e4, e5, e6, e7, e8⟩ := carry c1 c2 c3 c4 c5 c6 s5 (fun a z => .inl z)
              have la : vs.length = acc.length := ownL_length e4
              refine ⟨vs, e1, by rw [la]; exact big_line' hlen, ?_⟩
              have st6 : Step H1 F1 (All fp1) H5 F5 (fun a => (All fp5 a ∨ fv a) ∨ R a ∨ a = Z) := step_ctx st5 s5
              refine ⟨F5, wipeE env5 _, fp5, acc ++ [y], vs ++ [v], fun a => R a ∨ fv a, ?_, upd_same, ?_, e2, e3, ?_, fun a ha => ?_, fun a ha z => ?_, ?_, hst⟩
              · rw [← hw]; exact (g6.wipe _).upd e2 e3
              · refine OwnL.snoc (e4.imp fun d v f hs p => p.mono (Same.refl _) fun a ha => upd_ne fun (z : a = Z) => nRZ (by rw [← z]; exact hs a ha)) (ov.mono (Same.refl _) fun a ha => upd_ne fun (z : a = Z) => e7 (.inr (by rw [← z]; exact ha))) fun a h1 h2 => e8 a h1 (.inr h2)
              · exact fun z => z.elim nRZ fun z => e7 (.inr z)
              · rcases ha with ha | ha
                · exact ⟨(e5 a ha).1, by rw [upd_ne fun (z : a = Z) => nRZ (by rw [← z]; exact ha)]; exact (e5 a ha).2⟩
                · exact ⟨(offv a ha).1, by rw [upd_ne fun (z : a = Z) => e7 (.inr (by rw [← z]; exact ha))]; exact (offv a ha).2⟩
              · rcases ha with ha | ha
                · exact e6 a ha z
                · obtain ⟨j, z⟩ := z; exact disv j a z ha
              · exact step_upd (st6.less fun b hb => by
                  rcases hb with h | (h | h) | h
                  · exact .inl (.inl h)
                  · exact .inr (.inl h)
                  · exact .inl (.inr h)
                  · exact .inr (.inr h)) (.inr (.inr rfl)) hZ
            · rw [if_neg hlen] at hst
              rw [← hst] at o1
              exact o1.elim
    · have e : i = ds.length := by omega
      subst e
      refine .inl ⟨itd.stop _ H2 F2 sm g2.sub (Nat.le_refl _), ?_⟩
      have hst := hr
      rw [List.drop_length] at hst
      unfold lcG at hst
      have o2 := o1
      rw [← hst] at o2
      refine o2 H2 F2 _ (.ref Z) (fun a => a = Z ∨ R a) (st.less fun b hb => ?_) (g2.unw g1 sm hm) ⟨Z, vs, R, rfl, hZ2, nRZ, fun b => Iff.rfl, ow⟩ (fun a ha => ?_) fun j a h1 h2 => ?_
      · rcases hb with ⟨j, z⟩ | z | z
        · exact .inl ⟨j, z.2⟩
        · exact .inr (.inr z)
        · exact .inr (.inl z)
      · rcases ha with ha | ha
        · subst ha; exact ⟨FZ2, by rw [hZ2]; exact fun z => nomatch z⟩
        · exact offR a ha
      · rcases h2 with h2 | h2
        · subst h2; exact nZ ⟨j, h1.2⟩
        · exact disR a h2 ⟨j, h1.2⟩⟩
theorem sp_lc {X : Cx} {elt tg iter : Expr} {ifs : List Expr} {scope : Scope} {own : List (Str × Nat)} {pos : Pos} {t : Tg} {tgl : TG} {gi : GI} {gt : GT} {ge : G} (hc : X.calm = true) (hN : X.N.Nodup) (hi : SI X T W ms tg iter gi) (ok : BlkOk X.N X.env.scope scope own)
    (hg : ∀ (s : Shared) (H : Hp) (C : Addr) (cl : List (Str × Addr)) (fp : List Addr), PG (X.blk s H scope (compEnvC scope cl C X.env) fp) tg tgl) (htg : TgOk T ms t tgl)
    (ht : ∀ (s : Shared) (H : Hp) (C : Addr) (cl : List (Str × Addr)) (fp : List Addr), PTs (X.blk s H scope (compEnvC scope cl C X.env) fp) ifs (tT T W0 ms gt))
    (he : ∀ (s : Shared) (H : Hp) (C : Addr) (cl : List (Str × Addr)) (fp : List Addr), SP' (X.blk s H scope (compEnvC scope cl C X.env) fp) T W0 ms k elt ge) (hm : ∀ i ∈ own.map (·.2), ms.getD i .sh = .sh) (hsl : ∀ i ∈ t.slots, i ∈ own.map (·.2))
    (hs : ∀ x, foldedSetIterable iter X.env x = pure x := by intro _; rfl) : SP' X T W ms (.own k) (.ListComp elt [⟨tg, iter, ifs, 0⟩] scope pos) (gLc (own.map (·.2)) t gi gt ge) :=
  PE.imp (pe_lc hc hN hi ok hg ht he hs) fun σ H Q rd => lc_read htg hm hsl rd
end
end TL

set_option Elab.async false
set_option linter.all false
set_option maxRecDepth 100000
set_option maxHeartbeats 400000
namespace TL
open PySem PySem.Spec PyProof.Rows L2
section
variable {T : Tb} {ms : List Mode} {k m : Mode} {W : WX} {σ : L2.St} {H F H' : Hp} {fp : Nat → Ad} {env : Env} {i : Nat} {d' : D} {v : V} {f' fv : Ad}
/-- what one slot owns changes (and takes fv in) -/
theorem Good.mut (g : Good T ms env σ H F fp) (hv : σ[i]? = some (some v)) (ow : Own T F H' (ms.getD i .sh) d' v f') (hf : ∀ a, f' a → fp i a ∨ fv a) (hd : ∀ j a, fp j a → fv a → False) (off : ∀ a, f' a → F a = none ∧ H' a ≠ none)
    (kp : ∀ a, H a ≠ none → ¬ fp i a → H' a = H a) : Good T ms (env.set i (some d')) σ H' F (fun j a => if j = i then f' a else fp j a) := by
  refine ⟨by rw [List.length_set]; exact g.len, fun b o h => ?_, fun j d e => ?_, fun j j' a hne h1 h2 => ?_, fun j a h => ?_⟩
  · rw [kp b (by rw [g.sub b o h]; exact fun z => nomatch z) fun z => by rw [(g.off i b z).1] at h; cases h]; exact g.sub b o h
  · by_cases hj : j = i
    · subst hj
      have hl : j < env.length := by
        rcases Nat.lt_or_ge j env.length with z | z
        · exact z
        · rw [List.getElem?_eq_none (by rw [List.length_set]; omega)] at e; cases e
      rw [List.getElem?_set_self hl] at e
      cases e
      refine ⟨v, hv, ?_⟩
      have : (fun a => if j = j then f' a else fp j a) = f' := by funext a; simp
      rw [this]; exact ow
    · rw [List.getElem?_set_ne (Ne.symm hj)] at e
      obtain ⟨u, h1, h2⟩ := g.slot j d e
      refine ⟨u, h1, ?_⟩
      have : (fun a => if j = i then f' a else fp j a) = fp j := by funext a; simp [hj]
      rw [this]
      exact h2.mono (Same.refl _) fun a ha => kp a (g.off j a ha).2 fun z => g.dis j i a hj ha z
  · split at h1
    · rename_i e1
      split at h2
      · rename_i e2; exact hne (e1.trans e2.symm)
      · rename_i e2
        rcases hf a h1 with z | z
        · exact g.dis j' i a e2 h2 z
        · exact hd j' a h2 z
    · rename_i e1
      split at h2
      · rcases hf a h2 with z | z
        · exact g.dis j i a e1 h1 z
        · exact hd j a h1 z
      · exact g.dis j j' a hne h1 h2
  · split at h
    · exact off a h
    · rename_i hj
      rw [kp a (g.off j a h).2 fun z => g.dis j i a hj h z]
      exact g.off j a h
theorem step_mut (kp : ∀ a, H a ≠ none → ¬ fp i a → H' a = H a) (hf : ∀ a, f' a → fp i a ∨ fv a) : Step H F (fun a => All fp a ∨ fv a) H' F (All (fun j a => if j = i then f' a else fp j a)) :=
  ⟨fun b o h n => by rw [kp b (by rw [h]; exact fun z => nomatch z) fun z => n (.inl ⟨i, z⟩)]; exact h, Same.refl _, fun b h => .inl h, fun b ⟨j, h⟩ => by
    replace h : if j = i then f' b else fp j b := h
    split at h
    · exact .inl ((hf b h).imp (fun z => ⟨i, z⟩) id)
    · exact .inl (.inl ⟨j, h⟩)⟩
theorem step_mut0 (kp : ∀ a, H a ≠ none → ¬ fp i a → H' a = H a) (hf : ∀ a, f' a → fp i a) : Step H F (All fp) H' F (All (fun j a => if j = i then f' a else fp j a)) :=
  ⟨fun b o h n => by rw [kp b (by rw [h]; exact fun z => nomatch z) fun z => n ⟨i, z⟩]; exact h, Same.refl _, fun b h => .inl h, fun b ⟨j, h⟩ => by
    replace h : if j = i then f' b else fp j b := h
    split at h
    · exact .inl ⟨i, hf b h⟩
    · exact .inl ⟨j, h⟩⟩
theorem SOut.exp' {J : Jd} {ms' : List Mode} {E : Ends} {r : Res D} {f : Env → D → SRes} {Q' : VK} (hem : J.em ms) (kp : Keep J σ F) (h : SOut J ms' E H F fp (r.to f))
    (q : ∀ env1 d H1 F1 fp1 v, Step H F (All fp) H1 F1 (All fp1) → Good J.T ms env1 σ H1 F1 fp1 → Keep J σ F1 → Rep J.T F1 d v → SOut J ms' E H1 F1 fp1 (f env1 d) → Q' v H1) : Out J.T ms J.W σ H F fp Q' r := by
  cases r with
  | ok env' d => exact fun H1 F1 fp1 v s1 g1 e1 => q env' d H1 F1 fp1 v s1 g1 (kp.mono s1.grow) e1 (SOut.step h s1)
  | err env' x => exact fun H' F' fp' cv dd s g e => h σ ms H' F' fp' cv dd hem s g (kp.mono s.grow) e
  | stuck => exact h
theorem upd_kp {a : Addr} {o : HO} (h : fp i a) : ∀ b, H b ≠ none → ¬ fp i b → L2.upd H a o b = H b := fun b _ n => upd_ne fun e => n (by rw [e]; exact h)
end

section
variable {X : Cx} {J : Jd} {T : Tb} {ms ms' : List Mode} {W : WX} {e o a b c : Expr} {es : List Expr} {p pos apos cpos : Pos} {g ga gb : G} {gs : GA} {k m : Mode} {x f : Str} {i : Nat}
/-! ### x.append(e), x one's own -/
def gApp (i : Nat) (g : G) : GS := fun env => match env[i]? with
  | some (some (.lst _)) => (g env).to fun env1 d => match env1[i]? with
    | some (some (.lst ds)) => if ds.length < bigN then .next (env1.set i (some (.lst (ds ++ [d])))) else .stuck
    | _ => .stuck
  | _ => .stuck
theorem ss_app (i : Nat) (hm : ms.getD i .sh = .own m) (he : SP' X J.T J.W ms m e g) (hem : J.em ms) (hN : X.N[i]? = some x := by rfl) (hv : Vis X.env.scope x := by first | exact Or.inl rfl | exact Or.inr (Or.inl rfl) | exact Or.inr (Or.inr rfl))
    (hd : (x == ("__debug__" : Str)) = false := by decide) (hcd : (x == ("__classdict__" : Str)) = false := by decide)
    (hs : swapsWith (.Call (.Attribute (.Name x p) "append" apos) [e] [] cpos) none pos.line X.env = pure false := by rfl)
    (hbase : attributeBase (.Name x p) "append" X.env (eval (.Name x p) X.env) = eval (.Name x p) X.env := by rfl)
    (hfew : ((backTo cpos (starEach [e] X.env)).all (fun x => !x.1) && (backToKw cpos (keywordEach [] X.env)).all (fun x => x.1.isSome)
      && decide (([e] : List Expr).length + ([] : List Keyword).length + (if ([] : List Keyword).isEmpty then 0 else 1) < 30)) = true := by rfl)
    (hline : (apos.endLine == cpos.line) = true := by rfl) (hst : starEach [e] X.env = (false, eval e X.env) :: starEach [] X.env := by rfl) (hplain : (backTo cpos (starEach [] X.env)).any (·.1) = false := by rfl) :
    SS X J ms (.Expr (.Call (.Attribute (.Name x p) "append" apos) [e] [] cpos) pos) ms (gApp i g) :=
  PS.imp (ps_expr (pe_bm PySem.F.plainAttrs_list PySem.F.slot_list_append PySem.F.type_list_append mt_append (pe_var hN hv hd hcd) (pa_cons he pa_nil hst) hbase hfew hline hst hplain) hs) fun E σ H ⟨F, env, fp, gd, kp, o⟩ => by
    unfold gApp at o
    split at o
    · rename_i ds0 h0
      obtain ⟨v0, hv0, ow0⟩ := gd.slot i _ h0
      rw [hm] at ow0
      have ow0' := ow0
      unfold Own at ow0'
      obtain ⟨l, vs0, R0, ev, hl0, _⟩ := ow0'
      subst ev
      refine ⟨_, hv0, .inl ⟨rfl, vs0, SqL.of hl0⟩, F, env, fp, gd, SOut.expP hem kp o fun env1 d H1 F1 fp1 v fv er s1 g1 k1 ow off dis => ?_⟩
      rw [er] at o
      simp only [Res.to_ok] at o
      split at o
      · rename_i ds h1
        split at o
        · rename_i hlen
          obtain ⟨v1, hv1, ow1⟩ := g1.slot i _ h1
          have ev : v1 = V.ref l := by rw [hv0] at hv1; simpa using hv1.symm
          subst ev
          rw [hm] at ow1
          unfold Own at ow1
          obtain ⟨l', vs, R, ev, hl, nR, hfp, ol⟩ := ow1
          cases ev
          have il : fp1 i l := (hfp l).mpr (.inl rfl)
          have hle := ownL_length ol
          refine ⟨l, vs, v, rfl, rfl, hl, by rw [hle]; exact big_line' hlen, ?_⟩
          have nv : ¬ fv l := fun z => dis i l il z
          have gm := g1.mut (H' := upd H1 l (.lst (vs ++ [v]))) (d' := .lst (ds ++ [d])) (f' := fun a => fp1 i a ∨ fv a) (fv := fv) hv1 (by
            rw [hm]
            unfold Own
            refine ⟨l, vs ++ [v], fun a => R a ∨ fv a, rfl, upd_same, fun z => z.elim nR nv, fun b => by show fp1 i b ∨ fv b ↔ b = l ∨ (R b ∨ fv b); rw [hfp b, or_assoc], ?_⟩
            refine OwnL.snoc (ol.imp fun d v f hs p => p.mono (Same.refl _) fun a ha => upd_ne fun (z : a = l) => nR (by rw [← z]; exact hs a ha)) (ow.mono (Same.refl _) fun a ha => upd_ne fun (z : a = l) => nv (by rw [← z]; exact ha)) fun a h1 h2 => dis i a ((hfp a).mpr (.inr h1)) h2) (fun a h => h) dis (fun a h => by
            rcases h with h | h
            · refine ⟨(g1.off i a h).1, ?_⟩
              by_cases z : a = l
              · subst z; rw [upd_same]; exact fun z => nomatch z
              · rw [upd_ne z]; exact (g1.off i a h).2
            · refine ⟨(off a h).1, ?_⟩
              rw [upd_ne fun (z : a = l) => nv (by rw [← z]; exact h)]; exact (off a h).2) (upd_kp il)
          exact o σ _ F1 _ (s1.trans (step_mut (upd_kp il) fun a h => h)) gm k1
        · exact o.elim
      · exact o.elim
    · exact o.elim
/-! ### x[i] = e, x one's own list of shared things -/
def gSetI (i : Nat) (gi : G) (g : G) : GS := fun env => (g env).to fun env1 d => match env1[i]? with
  | some (some (.lst _)) => (gi env1).to fun env2 di => match di, env2[i]? with
    | .int z, some (some (.lst ds)) => match ixN ds.length z with
      | some j => .next (env2.set i (some (.lst (ds.set j d))))
      | none => .stuck
    | _, _ => .stuck
  | _ => .stuck
theorem ss_setI (i : Nat) {ix : Expr} {gi : G} {tp : Pos} (hm : ms.getD i .sh = .own .sh) (he : SE X J.T J.W ms e g) (hix : SE X J.T J.W ms ix gi) (hem : J.em ms) (hN : X.N[i]? = some x := by rfl) (hv : Vis X.env.scope x := by first | exact Or.inl rfl | exact Or.inr (Or.inl rfl) | exact Or.inr (Or.inr rfl))
    (hd : (x == ("__debug__" : Str)) = false := by decide) (hcd : (x == ("__classdict__" : Str)) = false := by decide)
    (has : ∀ v, assign (.Subscript (.Name x p) ix tp) X.env v = (do
      let ov ← holding [v] (eval (.Name x p) X.env)
      let iv ← holding [v, ov] (eval ix X.env)
      standAt tp
      holding [v, ov, iv] (setItem ov iv v)
      release [v, ov, iv] []) := by intro _; rfl)
    (hsw : swapsWithSole [.Subscript (.Name x p) ix tp] e pos.line X.env = pure false := by rfl) (hw : swappedStores [.Subscript (.Name x p) ix tp] e X.env = pure none := by rfl) :
    SS X J ms (.Assign [.Subscript (.Name x p) ix tp] e pos) ms (gSetI i gi g) :=
  PS.imp (ps_asg he (pg_sub (pe_var hN hv hd hcd) hix set_list has) hsw hw) fun E σ H ⟨F, env, fp, gd, kp, o⟩ => by
    refine ⟨F, env, fp, gd, SOut.exp hem kp o fun env1 d H1 F1 fp1 v g1 k1 r1 o1 => ?_⟩
    split at o1
    · rename_i ds0 h0
      obtain ⟨v0, hv0, ow0⟩ := g1.slot i _ h0
      refine ⟨v0, hv0, F1, env1, fp1, g1, SOut.exp' hem k1 o1 fun env2 di H2 F2 fp2 u s2 g2 k2 r2 o2 => ?_⟩
      have k2g := s2.grow
      cases di with
      | int z =>
        split at o2
        · rename_i z' ds hz h2
          cases hz
          split at o2
          · rename_i j hj
            obtain ⟨v2, hv2, ow2⟩ := g2.slot i _ h2
            have ev : v2 = v0 := by rw [hv0] at hv2; simpa using hv2.symm
            subst ev
            rw [hm] at ow2
            obtain ⟨l, vs, ev, hl, rl, hfp⟩ := own_list' ow2
            subst ev
            have il : fp2 i l := (hfp l).mpr rfl
            unfold Rep at r2
            subst r2
            refine ⟨l, vs, _, j, rfl, rfl, hl, by rw [rl.length]; exact hj, ?_⟩
            have gm := g2.mut (H' := upd H2 l (.lst (vs.set j v))) (d' := .lst (ds.set j d)) (f' := fun b => b = l) (fv := fun _ => False) hv2 (by
              rw [hm]
              exact own_list upd_same (rl.set (r1.mono k2g))) (fun a h => .inl (by rw [h]; exact il)) (fun _ _ _ z => z) (fun a h => by
              subst h
              exact ⟨(g2.off i a il).1, by rw [upd_same]; exact fun z => nomatch z⟩) (upd_kp il)
            exact o2 σ _ F2 _ (step_mut0 (upd_kp il) fun a h => by rw [h]; exact il) gm k2
          · exact o2.elim
        · exact o2.elim
      | _ => exact o2.elim
    · exact o1.elim
/-! ### x.clear(), x one's own -/
def gClear (i : Nat) : GS := fun env => match env[i]? with
  | some (some (.lst _)) => .next (env.set i (some (.lst [])))
  | _ => .stuck
theorem ss_clear (i : Nat) (hm : ms.getD i .sh = .own m) (hN : X.N[i]? = some x := by rfl) (hv : Vis X.env.scope x := by first | exact Or.inl rfl | exact Or.inr (Or.inl rfl) | exact Or.inr (Or.inr rfl))
    (hd : (x == ("__debug__" : Str)) = false := by decide) (hcd : (x == ("__classdict__" : Str)) = false := by decide)
    (hs : swapsWith (.Call (.Attribute (.Name x p) "clear" apos) [] [] cpos) none pos.line X.env = pure false := by rfl)
    (hbase : attributeBase (.Name x p) "clear" X.env (eval (.Name x p) X.env) = eval (.Name x p) X.env := by rfl) (hline : (apos.endLine == cpos.line) = true := by rfl) :
    SS X J ms (.Expr (.Call (.Attribute (.Name x p) "clear" apos) [] [] cpos) pos) ms (gClear i) :=
  PS.imp (ps_expr (pe_bm0 PySem.F.plainAttrs_list PySem.F.slot_list_clear PySem.F.type_list_clear mt_clear (pe_var hN hv hd hcd) hbase hline) hs) fun E σ H ⟨F, env, fp, gd, kp, o⟩ => by
    unfold gClear at o
    split at o
    · rename_i ds h0
      obtain ⟨v0, hv0, ow⟩ := gd.slot i _ h0
      rw [hm] at ow
      unfold Own at ow
      obtain ⟨l, vs, R, ev, hl, nR, hfp, ol⟩ := ow
      subst ev
      have il : fp i l := (hfp l).mpr (.inl rfl)
      refine ⟨_, hv0, .inl ⟨rfl, vs, SqL.of hl⟩, l, vs, rfl, rfl, hl, ?_⟩
      have gm := gd.mut (H' := upd H l (.lst [])) (d' := .lst []) (f' := fun b => b = l) (fv := fun _ => False) hv0 (by
        rw [hm]
        unfold Own
        exact ⟨l, [], fun _ => False, rfl, upd_same, id, fun b => by simp, rfl, fun _ z => z⟩) (fun a h => .inl (by rw [h]; exact il)) (fun _ _ _ z => z) (fun a h => by
        subst h
        exact ⟨(gd.off i a il).1, by rw [upd_same]; exact fun z => nomatch z⟩) (upd_kp il)
      exact o σ _ F _ (step_mut0 (upd_kp il) fun a h => by rw [h]; exact il) gm kp
    · exact o.elim
/-! ### reading what is one's own: x[i], len(x) -/
def gIxP (i : Nat) (gi : G) : G := fun env => match env[i]? with
  | some (some (.lst _)) => (gi env).bind fun env1 di => match env1[i]? with
    | some (some (.lst ds)) => .ofO env1 (dIx (.lst ds) di)
    | _ => .stuck
  | _ => .stuck
theorem se_ixP (i : Nat) (hm : ms.getD i .sh = .own .sh) (hb : SE X T W ms b gb) (hN : X.N[i]? = some x := by rfl) (hv : Vis X.env.scope x := by first | exact Or.inl rfl | exact Or.inr (Or.inl rfl) | exact Or.inr (Or.inr rfl))
    (hd : (x == ("__debug__" : Str)) = false := by decide) (hcd : (x == ("__classdict__" : Str)) = false := by decide) (hs : PlainIx b := by exact fun _ _ => rfl) : SE X T W ms (.Subscript (.Name x p) b pos) (gIxP i gb) :=
  PE.imp (pe_ix ix_list (pe_var hN hv hd hcd) hb hs) fun σ H Q ⟨F, env, fp, gd, o⟩ => by
    unfold gIxP at o
    split at o
    · rename_i ds0 h0
      obtain ⟨v0, hv0, ow0⟩ := gd.slot i _ h0
      refine ⟨v0, hv0, F, env, fp, gd, Out.bind o fun env1 di H1 F1 fp1 u g1 r1 o1 => ?_⟩
      split at o1
      · rename_i ds h1
        obtain ⟨v1, hv1, ow1⟩ := g1.slot i _ h1
        have ev : v1 = v0 := by rw [hv0] at hv1; simpa using hv1.symm
        subst ev
        rw [hm] at ow1
        obtain ⟨l, vs, ev, hl, rl, hfp⟩ := own_list' ow1
        subst ev
        cases di with
        | int z =>
          simp only [dIx] at o1
          cases qa : atI ds z with
          | none => rw [qa] at o1; exact o1.elim
          | some d =>
            rw [qa] at o1
            obtain ⟨w', h1, h2⟩ := atI_rep rl qa
            unfold Rep at r1
            exact ⟨l, vs, z, w', rfl, r1, SqL.of hl, h1, Out.fin o1 g1 (Ext0.refl g1.sub) h2⟩
        | _ => exact o1.elim
      · exact o1.elim
    · exact o.elim
def gLenP (i : Nat) : G := fun env => match env[i]? with
  | some (some (.lst ds)) => .ok env (.int ds.length)
  | _ => .stuck
theorem se_lenP (i : Nat) {q : Pos} (hm : ms.getD i .sh = .own m) (hg : Gl X "len") (hml : X.mg "len" = none) (hN : X.N[i]? = some x := by rfl) (hv : Vis X.env.scope x := by first | exact Or.inl rfl | exact Or.inr (Or.inl rfl) | exact Or.inr (Or.inr rfl))
    (hd : (x == ("__debug__" : Str)) = false := by decide) (hcd : (x == ("__classdict__" : Str)) = false := by decide) (hst : starEach [.Name x p] X.env = (false, eval (.Name x p) X.env) :: starEach [] X.env := by rfl) (hpl : (backTo pos (starEach [] X.env)).any (·.1) = false := by rfl) :
    SE X T W ms (.Call (.Name "len" q) [.Name x p] [] pos) (gLenP i) :=
  PE.imp (pe_callB call_len_seq hg hml PySem.boot_len (pa_cons (pe_var hN hv hd hcd) pa_nil hst) (by decide) (by decide) hst hpl) fun σ H Q ⟨F, env, fp, gd, o⟩ => by
    unfold gLenP at o
    split at o
    · rename_i ds h0
      obtain ⟨v0, hv0, ow⟩ := gd.slot i _ h0
      rw [hm] at ow
      unfold Own at ow
      obtain ⟨l, vs, R, ev, hl, nR, hfp, ol⟩ := ow
      subst ev
      refine ⟨_, hv0, l, vs, rfl, .inl (SqL.of hl), ?_⟩
      rw [ownL_length ol]
      exact Out.fin o gd (Ext0.refl gd.sub) (by unfold Rep; rfl)
    · exact o.elim
/-! ### self.f = e in an __init__ -/
def gFldSet (c i : Nat) (j : Nat) (g : G) : GS := fun env => (g env).to fun env1 d => match env1[i]? with
  | some (some (.part c' ds)) => if c' = c ∧ ds.length = j then .next (env1.set i (some (.part c (ds ++ [d])))) else .stuck
  | _ => .stuck
theorem putF_zip : ∀ {fs : List Str} {vs : List V} {f : Str} {v : V}, fs.Nodup → fs[vs.length]? = some f → putF f v (fs.zip vs) = fs.zip (vs ++ [v])
  | [], vs, f, v, _, h => by simp at h
  | g :: fs, [], f, v, _, h => by simp at h; subst h; simp [putF]
  | g :: fs, u :: vs, f, v, nd, h => by
    have h' : fs[vs.length]? = some f := by simpa using h
    have hg : g ≠ f := fun e => by
      subst e
      exact (List.nodup_cons.mp nd).1 (List.mem_of_getElem? h')
    show putF f v ((g, u) :: fs.zip vs) = (g, u) :: fs.zip (vs ++ [v])
    unfold putF
    rw [if_neg hg, putF_zip (List.nodup_cons.mp nd).2 h']
theorem ss_fld (c i j : Nat) {tp : Pos} (cd : ClsD X J.T c) (hm : ms.getD i .sh = .part) (hj : (J.T.fl c)[j]? = some f) (he : SE X J.T J.W ms e g) (hem : J.em ms) (hN : X.N[i]? = some x := by rfl) (hv : Vis X.env.scope x := by first | exact Or.inl rfl | exact Or.inr (Or.inl rfl) | exact Or.inr (Or.inr rfl))
    (hd : (x == ("__debug__" : Str)) = false := by decide) (hcd : (x == ("__classdict__" : Str)) = false := by decide) (hs : swapsWith e (some (.Attribute (.Name x p) f tp)) pos.line X.env = pure false := by rfl) :
    SS X J ms (.Assign [.Attribute (.Name x p) f tp] e pos) ms (gFldSet c i j g) :=
  PS.imp (ps_fld (pe_var hN hv hd hcd) he hs) fun E σ H ⟨F, env, fp, gd, kp, o⟩ => ⟨F, env, fp, gd, SOut.exp hem kp o fun env1 d H1 F1 fp1 v g1 k1 r1 o1 => by
    split at o1
    · rename_i c' ds h0
      split at o1
      · rename_i hc
        obtain ⟨hc, hl⟩ := hc
        subst hc
        obtain ⟨v0, hv0, ow⟩ := g1.slot i _ h0
        rw [hm] at ow
        unfold Own at ow
        obtain ⟨l, dx, vs, ev, hins, hfp, hle, rl⟩ := ow
        subst ev
        have il : fp1 i l := (hfp l).mpr rfl
        have hjl : j < (J.T.fl c').length := (List.getElem?_eq_some_iff.mp hj).1
        have hvs : vs.length = j := by rw [rl.length, hl]
        refine ⟨_, hv0, l, _, dx, _, rfl, hins, cd.cls, cd.no f (List.mem_of_getElem? hj), ?_, ?_⟩
        · rw [List.length_zip]; have := cd.few; omega
        rw [putF_zip cd.nd (by rw [hvs]; exact hj)]
        have gm := g1.mut (H' := upd H1 l (.ins (J.T.cl c') dx ((J.T.fl c').zip (vs ++ [v])))) (d' := .part c' (ds ++ [d])) (f' := fun b => b = l) (fv := fun _ => False) hv0 (by
          rw [hm]
          unfold Own
          exact ⟨l, dx, vs ++ [v], rfl, upd_same, fun b => Iff.rfl, by rw [List.length_append]; simp; omega, rl.append (RepL.one r1)⟩) (fun a h => .inl (by rw [h]; exact il)) (fun _ _ _ z => z) (fun a h => by
          subst h
          exact ⟨(g1.off i a il).1, by rw [upd_same]; exact fun z => nomatch z⟩) (upd_kp il)
        exact o1 σ _ F1 _ (step_mut0 (upd_kp il) fun a h => by rw [h]; exact il) gm k1
      · exact o1.elim
    · exact o1.elim⟩
end
end TL

set_option Elab.async false
set_option linter.all false
set_option maxRecDepth 100000
set_option maxHeartbeats 2000000
namespace TLQ
open PySem PySem.SeqAt
open AutoSeq1 (wpAny_loadPart')
open MeetsSeq MeetsSeq2 MeetsSeq3 SeqRoads2
section
variable {prog : Program} {w : World} {A : Around} {R : Result → Shared → Prop}
abbrev FinOf (prog : Program) (w : World) (A : Around) (R : Result → Shared → Prop) : Fin → Shared → Prop := fun fin s' => match fin with
  | .done f => R (.ok f) s'
  | .again c' => c'.quiet = true ∧ codeAny (model prog w) A c' R s'
/-- the two lists as they lie at a state, N items each -/
def Lies (l b : Addr) (N : Nat) (s : Shared) (items items2 : Array Value) : Prop :=
  (∃ n dd sl, s.heap.get? l = some { cls := .type "list", dict := dd, data := .seq items n, slots := sl }) ∧ (∃ n dd sl, s.heap.get? b = some { cls := .type "list", dict := dd, data := .seq items2 n, slots := sl }) ∧ items.size = N ∧ items2.size = N
/-- the loop over the items: I i ahead of the i-th, Z where two were unlike -/
def TurnB (prog : Program) (w : World) (A : Around) (E : Value → Shared → Prop) (l b : Addr) (N : Nat) (I : Nat → Shared → Prop) (Z : Shared → Prop) : Prop :=
  ∀ i s, I i s → ∃ items items2, Lies l b N s items items2 ∧
    ∀ (h1 : i < items.size) (h2 : i < items2.size), wpAny (model prog w) A.in1 (eqBool items[i] items2[i]) (fun r s' => if r = true then I (i + 1) s' else Z s' ∧ ∃ is is2, Lies l b N s' is is2) E s
theorem loopB (ne : Bool) (l b : Addr) (N : Nat) (I : Nat → Shared → Prop) (Z : Shared → Prop) (hl : TurnB prog w A (fun e s' => R (.error e) s') l b N I Z)
    (fin : ∀ s, I N s → R (.ok (.ret (.bool (!ne)))) s) (finZ : ∀ s, Z s → R (.ok (.ret (.bool ne))) s) (k : Nat) :
    ∀ i : Nat, N - i = k → i ≤ N → ∀ s, I i s →
      wpAny (model prog w) A.in1 (Builtin.«list.__eq__.loop» ⟨[.ref l, .ref b, rawInt i, rawInt (if ne then 3 else 2)], []⟩) (FinOf prog w A R) (fun e s' => R (.error e) s') s := by
  induction k with
  | zero =>
    intro i hk hi s h
    obtain ⟨items, items2, ⟨⟨n, dd, sl, hl1⟩, ⟨n2, dd2, sl2, hb1⟩, hs1, hs2⟩, _⟩ := hl _ _ h
    have hi' : i = N := by omega
    have hR : R (.ok (.ret (.bool (!ne)))) s := fin s (hi' ▸ h)
    obtain ⟨hp, g, d, tk, os⟩ := s
    have hi1 : items[((i : Nat) : Int).toNat]? = none := by simp; omega
    have hi2 : items2[((i : Nat) : Int).toNat]? = none := by simp; omega
    cases ne with
    | false =>
      wp_walk using wpAny_loadPart' hl1, wpAny_loadPart' hb1
      rw [hi1, hi2]
      wp_walk using wpAny_loadPart' hl1, wpAny_loadPart' hb1
      show R (.ok (.ret (.bool (items.size == items2.size)))) _
      rw [hs1, hs2]
      simpa using hR
    | true =>
      wp_walk using wpAny_loadPart' hl1, wpAny_loadPart' hb1
      rw [hi1, hi2]
      wp_walk using wpAny_loadPart' hl1, wpAny_loadPart' hb1
      show R (.ok (.ret (.bool (items.size != items2.size)))) _
      rw [hs1, hs2]
      simpa using hR
  | succ k ih =>
    intro i hk hi s h
    obtain ⟨items, items2, ⟨⟨n, dd, sl, hl1⟩, ⟨n2, dd2, sl2, hb1⟩, hs1, hs2⟩, turn⟩ := hl _ _ h
    have hlt : i < items.size := by omega
    have hlt2 : i < items2.size := by omega
    have ht := turn hlt hlt2
    obtain ⟨hp, g, d, tk, os⟩ := s
    have hi1 : items[((i : Nat) : Int).toNat]? = some items[i] := by simp [hlt]
    have hi2 : items2[((i : Nat) : Int).toNat]? = some items2[i] := by simp [hlt2]
    have hc : ((i : Int) + 1) = ((i + 1 : Nat) : Int) := by omega
    cases ne with
    | false =>
      wp_walk using wpAny_loadPart' hl1, wpAny_loadPart' hb1
      rw [hi1, hi2]
      refine wpAny_bind (wpAny_mono ht (fun r s2 h2 => ?_) fun _ _ x => x)
      cases r with
      | true =>
        have h2 : I (i + 1) s2 := by simpa using h2
        have hrec := ih (i + 1) (by omega) (by omega) s2 h2
        obtain ⟨hp2, g2, d2, tk2, os2⟩ := s2
        wp_walk
        rw [hc]
        exact ⟨plainId_quiet plain_eq_loop _, codeAny_builtin entry_eq_loop (by
          rw [Around.under_plainId plain_eq_loop _]
          exact hrec)⟩
      | false =>
        obtain ⟨hz, is, is2, ⟨n3, dd3, sl3, e1⟩, ⟨n4, dd4, sl4, e2⟩, e3, e4⟩ : Z s2 ∧ ∃ is is2, Lies l b N s2 is is2 := by simpa using h2
        have hR := finZ s2 hz
        obtain ⟨hp2, g2, d2, tk2, os2⟩ := s2
        have j1 : is[((i : Nat) : Int).toNat]? = some (is[i]'(by omega)) := by simp
        have j2 : is2[((i : Nat) : Int).toNat]? = some (is2[i]'(by omega)) := by simp
        wp_walk using wpAny_loadPart' e1, wpAny_loadPart' e2
        rw [j1, j2]
        wp_walk
        simpa using hR
    | true =>
      wp_walk using wpAny_loadPart' hl1, wpAny_loadPart' hb1
      rw [hi1, hi2]
      refine wpAny_bind (wpAny_mono ht (fun r s2 h2 => ?_) fun _ _ x => x)
      cases r with
      | true =>
        have h2 : I (i + 1) s2 := by simpa using h2
        have hrec := ih (i + 1) (by omega) (by omega) s2 h2
        obtain ⟨hp2, g2, d2, tk2, os2⟩ := s2
        wp_walk
        rw [hc]
        exact ⟨plainId_quiet plain_eq_loop _, codeAny_builtin entry_eq_loop (by
          rw [Around.under_plainId plain_eq_loop _]
          exact hrec)⟩
      | false =>
        obtain ⟨hz, is, is2, ⟨n3, dd3, sl3, e1⟩, ⟨n4, dd4, sl4, e2⟩, e3, e4⟩ : Z s2 ∧ ∃ is is2, Lies l b N s2 is is2 := by simpa using h2
        have hR := finZ s2 hz
        obtain ⟨hp2, g2, d2, tk2, os2⟩ := s2
        have j1 : is[((i : Nat) : Int).toNat]? = some (is[i]'(by omega)) := by simp
        have j2 : is2[((i : Nat) : Int).toNat]? = some (is2[i]'(by omega)) := by simp
        wp_walk using wpAny_loadPart' e1, wpAny_loadPart' e2
        rw [j1, j2]
        wp_walk
        simpa using hR
theorem listB (ne : Bool) (l b : Addr) (N : Nat) (I : Nat → Shared → Prop) (Z : Shared → Prop) (hl : TurnB prog w A (fun e s' => R (.error e) s') l b N I Z)
    (fin : ∀ s, I N s → R (.ok (.ret (.bool (!ne)))) s) (finZ : ∀ s, Z s → R (.ok (.ret (.bool ne))) s) {s : Shared} (h : I 0 s) :
    wpAny (model prog w) A.in1 ((if ne then Builtin.«list.__ne__» else Builtin.«list.__eq__») ⟨[.ref l, .ref b], []⟩) (FinOf prog w A R) (fun e s' => R (.error e) s') s := by
  obtain ⟨items, items2, ⟨⟨n, dd, sl, hl1⟩, ⟨n2, dd2, sl2, hb1⟩, hs1, hs2⟩, _⟩ := hl _ _ h
  have hrec := loopB (A := A) (R := R) ne l b N I Z hl fin finZ _ 0 rfl (Nat.zero_le _) s h
  obtain ⟨hp, g, d, tk, os⟩ := s
  have f3 := AutoSeq1.sub_list_list
  have hne : ¬ (items.size != items2.size) = true := by simp [hs1, hs2]
  cases ne with
  | false =>
    simp only [Bool.false_eq_true, if_false] at hrec ⊢
    wp_walk using wpAny_loadPart' hl1, wpAny_loadPart' hb1
    exact ⟨plainId_quiet plain_eq_loop _, codeAny_builtin entry_eq_loop (by
      rw [Around.under_plainId plain_eq_loop _]
      exact hrec)⟩
  | true =>
    simp only [if_true] at hrec ⊢
    wp_walk using wpAny_loadPart' hl1, wpAny_loadPart' hb1
    exact ⟨plainId_quiet plain_eq_loop _, codeAny_builtin entry_eq_loop (by
      rw [Around.under_plainId plain_eq_loop _]
      exact hrec)⟩
end
section
variable {prog : Program} {w : World} {A : Around} {E : Value → Shared → Prop} {s : Shared}
theorem here {T : String} {name : Str} {id : String} {B : Builtin} {self : Value} {rest : List Value} {Q : Value → Shared → Prop} (slot : Slot T name id) (hT : s.TypeIs self T)
    (entry : entryFor table id = some B) (args : argsOk id ⟨self :: rest, []⟩)
    (h : wpAny (model prog w) A.in1 (B ⟨self :: rest, []⟩) (FinOf prog w A (wants Q E)) (fun e s' => wants Q E (.error e) s') s) : wpAny (model prog w) A (call (.builtin id) (self :: rest)) Q E s :=
  GQ.call_here slot hT entry args h
/-- == or != of two lists of one length -/
theorem rcB_list (ne : Bool) {l b : Addr} {N : Nat} {Q : Value → Shared → Prop} (hu : A.units < cLine) (I : Nat → Shared → Prop) (Z : Shared → Prop) (hl : TurnB prog w A E l b N I Z)
    (fin : ∀ s, I N s → Q (.bool (!ne)) s) (finZ : ∀ s, Z s → Q (.bool ne) s) (h : I 0 s) : wpAny (model prog w) A (richCompare (if ne then .NotEq else .Eq) (.ref l) (.ref b)) Q E s := by
  obtain ⟨items, items2, ⟨⟨n, dd, sl, hl1⟩, ⟨n2, dd2, sl2, hb1⟩, _⟩, _⟩ := hl _ _ h
  have z := listB (prog := prog) (w := w) (A := A) (R := wants (fun v s' => v ≠ .notImplemented ∧ Q v s') E) ne l b N I Z hl (fun s' q => ⟨(fun x => nomatch x), fin s' q⟩) (fun s' q => ⟨(fun x => nomatch x), finZ s' q⟩) h
  cases ne with
  | false => exact wpAny_richCompare_same_room (op := .Eq) ⟨_, hl1, rfl⟩ ⟨_, hb1, rfl⟩ F.slot_list_eq (here F.slot_list_eq ⟨_, hl1, rfl⟩ F.entry_list_eq (F.args_list_eq_2 _ _) z) hu
  | true => exact wpAny_richCompare_same_room (op := .NotEq) ⟨_, hl1, rfl⟩ ⟨_, hb1, rfl⟩ F.slot_list_ne (here F.slot_list_ne ⟨_, hl1, rfl⟩ F.entry_list_ne (F.args_list_ne_2 _ _) z) hu
end
end TLQ

set_option Elab.async false
set_option linter.all false
set_option maxRecDepth 100000
set_option maxHeartbeats 1000000
namespace TL
open PySem PySem.Spec PyProof.Rows L2

mutual
/-- a tree without instances as data -/
def toPD : D → Option PyData
  | .non => some .none
  | .bl b => some (.bool b)
  | .int i => some (.int i)
  | .str x => some (.str x)
  | .lst ds => (toPDL ds).map .list
  | .tup ds => (toPDL ds).map .tuple
  | _ => none
def toPDL : List D → Option (List PyData)
  | [] => some []
  | d :: ds => match toPD d, toPDL ds with
    | some p, some ps => some (p :: ps)
    | _, _ => none
end
mutual
theorem dp_of {T : Tb} {F : Hp} : ∀ {d : D} {v : V} {p : PyData}, toPD d = some p → Rep T F d v → Dp T.K F v p
  | .non, v, p, h, r => by
    unfold toPD at h; unfold Rep at r; cases h; subst r; exact .non
  | .bl b, v, p, h, r => by
    unfold toPD at h; unfold Rep at r; cases h; subst r; exact .bl b
  | .int i, v, p, h, r => by
    unfold toPD at h; unfold Rep at r; cases h; subst r; exact .int i
  | .str x, v, p, h, r => by
    unfold toPD at h; unfold Rep at r; cases h; subst r; exact .str x
  | .lst ds, v, p, h, r => by
    unfold toPD at h; unfold Rep at r
    obtain ⟨a, vs, e, q, rl⟩ := r
    subst e
    cases hp : toPDL ds with
    | none => rw [hp] at h; cases h
    | some ps => rw [hp] at h; cases h; exact .lst (.inl (.inl q)) (dpAll_of hp rl)
  | .tup ds, v, p, h, r => by
    unfold toPD at h; unfold Rep at r
    obtain ⟨a, vs, e, q, rl⟩ := r
    subst e
    cases hp : toPDL ds with
    | none => rw [hp] at h; cases h
    | some ps => rw [hp] at h; cases h; exact .tup q (dpAll_of hp rl)
  | .ty _, _, _, h, _ => by unfold toPD at h; cases h
  | .at_ _, _, _, h, _ => by unfold toPD at h; cases h
  | .obj _ _, _, _, h, _ => by unfold toPD at h; cases h
  | .part _ _, _, _, h, _ => by unfold toPD at h; cases h
  | .dic _ _, _, _, h, _ => by unfold toPD at h; cases h
theorem dpAll_of {T : Tb} {F : Hp} : ∀ {ds : List D} {vs : List V} {ps : List PyData}, toPDL ds = some ps → RepL T F ds vs → DpAll T.K F vs ps
  | [], vs, ps, h, r => by
    unfold toPDL at h; unfold RepL at r; cases h; subst r; exact .nil
  | d :: ds, vs, ps, h, r => by
    unfold toPDL at h; unfold RepL at r
    obtain ⟨v, t, e, r1, r2⟩ := r
    subst e
    cases h1 : toPD d with
    | none => rw [h1] at h; cases h
    | some p =>
      cases h2 : toPDL ds with
      | none => rw [h1, h2] at h; cases h
      | some ps' => rw [h1, h2] at h; cases h; exact .cons (dp_of h1 r1) (dpAll_of h2 r2)
end
/-- kinds that are never equal when unlike -/
def kdD : D → Nat
  | .non => 1
  | .bl _ => 2
  | .int _ => 2
  | .str _ => 3
  | .lst _ => 4
  | .tup _ => 5
  | _ => 0
def mis (d d' : D) : Bool := kdD d != 0 && kdD d' != 0 && kdD d != kdD d'
/-- == of trees without instances, and of unlike kinds -/
def dflat (d d' : D) : Option Bool := if mis d d' then some false else match toPD d, toPD d' with
  | some p, some q => if SeqAt.shaped p && SeqAt.shaped q then some (PyData.eqv p q) else none
  | _, _ => none
mutual
/-- == of trees, by own answers for instances -/
def deq (own : Nat → D → D → Option Bool) : D → D → Option Bool
  | .obj c fs, d => own c (.obj c fs) d
  | .lst xs, .lst ys => if xs.length = ys.length then deqL own xs ys else some false
  | d, d' => dflat d d'
def deqL (own : Nat → D → D → Option Bool) : List D → List D → Option Bool
  | x :: xs, y :: ys => match deq own x y with
    | some true => deqL own xs ys
    | some false => some false
    | none => none
  | _, _ => some true
end
mutual
def dep : D → Nat
  | .lst xs => depL xs + 1
  | _ => 0
def depL : List D → Nat
  | [] => 0
  | x :: xs => max (dep x) (depL xs)
end

section
variable {X : Cx} {T : Tb} {n m : Nat}
def EqT (X : Cx) (T : Tb) (n : Nat) (d1 d2 : D) (b : Bool) : Prop :=
  ∀ (A : Around) (pins : List (Addr × Obj)) (s : Shared) (σ : L2.St) (H F : Hp) (x y : V) (u v : Value), Sub X n A → Inv X pins σ H s → Same F H → Rep T F d1 x → Rep T F d2 y → RelV x u → RelV y v →
    wpAny (model X.prog X.w) A (eqBool u v) (fun r s' => r = b ∧ ∃ H' F', Inv X pins σ H' s' ∧ Ext0 H F H' F') X.xe s
def RcT (X : Cx) (T : Tb) (ne : Bool) (n : Nat) (d1 d2 : D) (b : Bool) : Prop :=
  ∀ (A : Around) (pins : List (Addr × Obj)) (s : Shared) (σ : L2.St) (H F : Hp) (x y : V) (u v : Value), Sub X n A → Inv X pins σ H s → Same F H → Rep T F d1 x → Rep T F d2 y → RelV x u → RelV y v →
    wpAny (model X.prog X.w) A (richCompare (if ne then .NotEq else .Eq) u v) (fun r s' => r = .bool (if ne then !b else b) ∧ ∃ H' F', Inv X pins σ H' s' ∧ Ext0 H F H' F') X.xe s
theorem EqT.mono {d1 d2 : D} {b : Bool} (h : EqT X T n d1 d2 b) (hn : n ≤ m) : EqT X T m d1 d2 b := fun A pins s σ H F x y u v sb => h A pins s σ H F x y u v (sb.mono hn)
theorem misAt {pins : List (Addr × Obj)} {σ : L2.St} {H F : Hp} {s : Shared} {d1 d2 : D} {x y : V} {u v : Value} {A : Around} (hK : T.K = X.K) (hu : A.units < cLine) (I : L2.Inv X pins σ H s) (sub : Same F H) (hm : mis d1 d2 = true) (r1 : Rep T F d1 x) (r2 : Rep T F d2 y) (ru : RelV x u) (rv : RelV y v) :
    SeqAt.EqAt A s u v false ∧ SeqAt.RcAt A s u v false ∧ SeqAt.RcNeAt A s u v true := by
  have L : ∀ {ds : List D} {v : V} {w : Value}, Rep T F (.lst ds) v → RelV v w → ∃ l its, w = .ref l ∧ s.heap.IsList l its := by
    intro ds v w r rw'
    unfold Rep at r
    obtain ⟨a, vs, e1, sq, _⟩ := r
    subst e1
    cases rw'
    obtain ⟨is, q1, p1, _⟩ := I.list (show SqL X.K H a vs by rw [← hK]; exact sub.seq (.inl (.inl sq)))
    exact ⟨a, _, rfl, p1.isList⟩
  have U : ∀ {ds : List D} {v : V} {w : Value}, Rep T F (.tup ds) v → RelV v w → ∃ l its, w = .ref l ∧ s.heap.IsTuple l its := by
    intro ds v w r rw'
    unfold Rep at r
    obtain ⟨a, vs, e1, sq, _⟩ := r
    subst e1
    cases rw'
    obtain ⟨is, q1, p1, _⟩ := I.tuple (show SqT X.K H a vs by rw [← hK]; exact sqT_mono sub sq)
    obtain ⟨o, h1, h2, n, h3⟩ := p1
    exact ⟨a, _, rfl, ⟨o, h1, h2, n, h3⟩⟩
  cases d1 with
  | non =>
    unfold Rep at r1; subst r1; cases ru
    cases d2 with
    | bl b => unfold Rep at r2; subst r2; cases rv; exact ⟨SeqAt.EqAt.none_bool b, SeqAt.RcAt.none_bool b, SeqAt.RcNeAt.none_bool b⟩
    | int i => unfold Rep at r2; subst r2; obtain ⟨t, rfl⟩ := rv; exact ⟨SeqAt.EqAt.none_int i t, SeqAt.RcAt.none_int i t, SeqAt.RcNeAt.none_int i t⟩
    | str i => unfold Rep at r2; subst r2; obtain ⟨t, rfl⟩ := rv; exact ⟨SeqAt.EqAt.none_str i t, SeqAt.RcAt.none_str i t, SeqAt.RcNeAt.none_str i t⟩
    | lst ds => obtain ⟨l, its, rfl, h⟩ := L r2 rv; exact ⟨SeqAt.EqAt.none_list h hu, SeqAt.RcAt.none_list h hu, SeqAt.RcNeAt.none_list h hu⟩
    | tup ds => obtain ⟨l, its, rfl, h⟩ := U r2 rv; exact ⟨SeqAt.EqAt.none_tuple h hu, SeqAt.RcAt.none_tuple h hu, SeqAt.RcNeAt.none_tuple h hu⟩
    | _ => exact absurd hm (by simp [mis, kdD])
  | bl a =>
    unfold Rep at r1; subst r1; cases ru
    cases d2 with
    | non => unfold Rep at r2; subst r2; cases rv; exact ⟨SeqAt.EqAt.bool_none a, SeqAt.RcAt.bool_none a, SeqAt.RcNeAt.bool_none a⟩
    | str i => unfold Rep at r2; subst r2; obtain ⟨t, rfl⟩ := rv; exact ⟨SeqAt.EqAt.bool_str a i t, SeqAt.RcAt.bool_str a i t, SeqAt.RcNeAt.bool_str a i t⟩
    | lst ds => obtain ⟨l, its, rfl, h⟩ := L r2 rv; exact ⟨SeqAt.EqAt.bool_list a h hu, SeqAt.RcAt.bool_list a h hu, SeqAt.RcNeAt.bool_list a h hu⟩
    | tup ds => obtain ⟨l, its, rfl, h⟩ := U r2 rv; exact ⟨SeqAt.EqAt.bool_tuple a h hu, SeqAt.RcAt.bool_tuple a h hu, SeqAt.RcNeAt.bool_tuple a h hu⟩
    | _ => exact absurd hm (by simp [mis, kdD])
  | int a =>
    unfold Rep at r1; subst r1; obtain ⟨t0, rfl⟩ := ru
    cases d2 with
    | non => unfold Rep at r2; subst r2; cases rv; exact ⟨SeqAt.EqAt.int_none a t0, SeqAt.RcAt.int_none a t0, SeqAt.RcNeAt.int_none a t0⟩
    | str i => unfold Rep at r2; subst r2; obtain ⟨t, rfl⟩ := rv; exact ⟨SeqAt.EqAt.int_str a t0 i t, SeqAt.RcAt.int_str a t0 i t, SeqAt.RcNeAt.int_str a t0 i t⟩
    | lst ds => obtain ⟨l, its, rfl, h⟩ := L r2 rv; exact ⟨SeqAt.EqAt.int_list a t0 h hu, SeqAt.RcAt.int_list a t0 h hu, SeqAt.RcNeAt.int_list a t0 h hu⟩
    | tup ds => obtain ⟨l, its, rfl, h⟩ := U r2 rv; exact ⟨SeqAt.EqAt.int_tuple a t0 h hu, SeqAt.RcAt.int_tuple a t0 h hu, SeqAt.RcNeAt.int_tuple a t0 h hu⟩
    | _ => exact absurd hm (by simp [mis, kdD])
  | str a =>
    unfold Rep at r1; subst r1; obtain ⟨t0, rfl⟩ := ru
    cases d2 with
    | non => unfold Rep at r2; subst r2; cases rv; exact ⟨SeqAt.EqAt.str_none a t0, SeqAt.RcAt.str_none a t0, SeqAt.RcNeAt.str_none a t0⟩
    | bl b => unfold Rep at r2; subst r2; cases rv; exact ⟨SeqAt.EqAt.str_bool a t0 b, SeqAt.RcAt.str_bool a t0 b, SeqAt.RcNeAt.str_bool a t0 b⟩
    | int i => unfold Rep at r2; subst r2; obtain ⟨t, rfl⟩ := rv; exact ⟨SeqAt.EqAt.str_int a t0 i t, SeqAt.RcAt.str_int a t0 i t, SeqAt.RcNeAt.str_int a t0 i t⟩
    | lst ds => obtain ⟨l, its, rfl, h⟩ := L r2 rv; exact ⟨SeqAt.EqAt.str_list a t0 h hu, SeqAt.RcAt.str_list a t0 h hu, SeqAt.RcNeAt.str_list a t0 h hu⟩
    | tup ds => obtain ⟨l, its, rfl, h⟩ := U r2 rv; exact ⟨SeqAt.EqAt.str_tuple a t0 h hu, SeqAt.RcAt.str_tuple a t0 h hu, SeqAt.RcNeAt.str_tuple a t0 h hu⟩
    | _ => exact absurd hm (by simp [mis, kdD])
  | lst xs =>
    obtain ⟨l1, its1, rfl, h1⟩ := L r1 ru
    cases d2 with
    | non => unfold Rep at r2; subst r2; cases rv; exact ⟨SeqAt.EqAt.list_none h1 hu, SeqAt.RcAt.list_none h1 hu, SeqAt.RcNeAt.list_none h1 hu⟩
    | bl b => unfold Rep at r2; subst r2; cases rv; exact ⟨SeqAt.EqAt.list_bool b h1 hu, SeqAt.RcAt.list_bool b h1 hu, SeqAt.RcNeAt.list_bool b h1 hu⟩
    | int i => unfold Rep at r2; subst r2; obtain ⟨t, rfl⟩ := rv; exact ⟨SeqAt.EqAt.list_int i t h1 hu, SeqAt.RcAt.list_int i t h1 hu, SeqAt.RcNeAt.list_int i t h1 hu⟩
    | str i => unfold Rep at r2; subst r2; obtain ⟨t, rfl⟩ := rv; exact ⟨SeqAt.EqAt.list_str i t h1 hu, SeqAt.RcAt.list_str i t h1 hu, SeqAt.RcNeAt.list_str i t h1 hu⟩
    | tup ds => obtain ⟨l, its, rfl, h⟩ := U r2 rv; exact ⟨SeqAt.EqAt.list_tuple h1 h hu, SeqAt.RcAt.list_tuple h1 h hu, SeqAt.RcNeAt.list_tuple h1 h hu⟩
    | _ => exact absurd hm (by simp [mis, kdD])
  | tup xs =>
    obtain ⟨l1, its1, rfl, h1⟩ := U r1 ru
    cases d2 with
    | non => unfold Rep at r2; subst r2; cases rv; exact ⟨SeqAt.EqAt.tuple_none h1 hu, SeqAt.RcAt.tuple_none h1 hu, SeqAt.RcNeAt.tuple_none h1 hu⟩
    | bl b => unfold Rep at r2; subst r2; cases rv; exact ⟨SeqAt.EqAt.tuple_bool b h1 hu, SeqAt.RcAt.tuple_bool b h1 hu, SeqAt.RcNeAt.tuple_bool b h1 hu⟩
    | int i => unfold Rep at r2; subst r2; obtain ⟨t, rfl⟩ := rv; exact ⟨SeqAt.EqAt.tuple_int i t h1 hu, SeqAt.RcAt.tuple_int i t h1 hu, SeqAt.RcNeAt.tuple_int i t h1 hu⟩
    | str i => unfold Rep at r2; subst r2; obtain ⟨t, rfl⟩ := rv; exact ⟨SeqAt.EqAt.tuple_str i t h1 hu, SeqAt.RcAt.tuple_str i t h1 hu, SeqAt.RcNeAt.tuple_str i t h1 hu⟩
    | lst ds => obtain ⟨l, its, rfl, h⟩ := L r2 rv; exact ⟨SeqAt.EqAt.tuple_list h1 h hu, SeqAt.RcAt.tuple_list h1 h hu, SeqAt.RcNeAt.tuple_list h1 h hu⟩
    | _ => exact absurd hm (by simp [mis, kdD])
  | _ => exact absurd hm (by simp [mis, kdD])
theorem dp_up {F H : Hp} {K : PySem.W.Frag} (s : Same F H) : ∀ {v : V} {p : PyData}, Dp K F v p → Dp K H v p := fun {v p} h => by
  refine Dp.rec (motive_1 := fun v p _ => Dp K H v p) (motive_2 := fun vs ps _ => DpAll K H vs ps) .non (fun b => .bl b) (fun i => .int i) (fun x => .str x) (fun h _ i => .lst (s.seq h) i) (fun h _ i => .tup (sqT_mono s h) i) .nil (fun _ _ i j => .cons i j) h
theorem eqT_flat (hK : T.K = X.K) {d1 d2 : D} {b : Bool} (h : dflat d1 d2 = some b) : EqT X T n d1 d2 b := fun A pins s σ H F x y u v sb I sub r1 r2 ru rv => by
  unfold dflat at h
  split at h
  · rename_i hm
    cases h
    exact (misAt hK sb.room.units0 I sub hm r1 r2 ru rv).1 X.prog X.w X.xe _ ⟨rfl, H, F, I, Ext0.refl sub⟩
  · split at h
    · rename_i p q hp hq
      split at h
      · rename_i hs
        cases h
        obtain ⟨s1, s2⟩ := Bool.and_eq_true_iff.mp hs
        obtain ⟨as, z1⟩ := Dp.reads I p x u (by rw [← hK]; exact dp_up sub (dp_of hp r1)) ru
        obtain ⟨bs, z2⟩ := Dp.reads I q y v (by rw [← hK]; exact dp_up sub (dp_of hq r2)) rv
        exact SeqAt.eqAt_reads p q A s u v as bs z1 z2 (SeqAt.canLay_of_shaped s1) (SeqAt.canLay_of_shaped s2) (SeqAt.room_of_shaped s1 sb.room.units) X.prog X.w X.xe _ ⟨rfl, H, F, I, Ext0.refl sub⟩
      · cases h
    · cases h
theorem rcT_flat (hK : T.K = X.K) (ne : Bool) {d1 d2 : D} {b : Bool} (h : dflat d1 d2 = some b) : RcT X T ne n d1 d2 b := fun A pins s σ H F x y u v sb I sub r1 r2 ru rv => by
  unfold dflat at h
  split at h
  · rename_i hm
    cases h
    have z := misAt hK sb.room.units0 I sub hm r1 r2 ru rv
    cases ne with
    | false => exact z.2.1 X.prog X.w X.xe _ ⟨rfl, H, F, I, Ext0.refl sub⟩
    | true => exact z.2.2 X.prog X.w X.xe _ ⟨rfl, H, F, I, Ext0.refl sub⟩
  · split at h
    · rename_i p q hp hq
      split at h
      · rename_i hs
        cases h
        obtain ⟨s1, s2⟩ := Bool.and_eq_true_iff.mp hs
        obtain ⟨as, z1⟩ := Dp.reads I p x u (by rw [← hK]; exact dp_up sub (dp_of hp r1)) ru
        obtain ⟨bs, z2⟩ := Dp.reads I q y v (by rw [← hK]; exact dp_up sub (dp_of hq r2)) rv
        cases ne with
        | false => exact SeqAt.compareEq_shaped (prog := X.prog) (w := X.w) (A := A) (E := X.xe) (s := s) z1 z2 s1 s2 sb.room.units ⟨rfl, H, F, I, Ext0.refl sub⟩
        | true => exact SeqAt.compareNe_shaped (prog := X.prog) (w := X.w) (A := A) (E := X.xe) (s := s) z1 z2 s1 s2 sb.room.units ⟨rfl, H, F, I, Ext0.refl sub⟩
      · cases h
    · cases h
/-- lists item by item -/
theorem rcT_list (hK : T.K = X.K) (ne : Bool) {xs ys : List D} {b : Bool} (own : Nat → D → D → Option Bool) (hl : xs.length = ys.length) (hb : deqL own xs ys = some b)
    (items : ∀ (i : Nat) (d1 d2 : D) (r : Bool), xs[i]? = some d1 → ys[i]? = some d2 → deq own d1 d2 = some r → EqT X T n d1 d2 r) : RcT X T ne (n + 1) (.lst xs) (.lst ys) b := by
  intro A pins s σ H F x y u v sb I sub r1 r2 ru rv
  unfold Rep at r1 r2
  obtain ⟨a, vs, e1, sq1, rl1⟩ := r1
  obtain ⟨c, us, e2, sq2, rl2⟩ := r2
  subst e1 e2
  cases ru
  cases rv
  have lies : ∀ {H1 F1 : Hp} {s1 : Shared}, Inv X pins σ H1 s1 → Same F F1 → Same F1 H1 → ∃ is is2 : List Value, Vals vs is ∧ Vals us is2 ∧ TLQ.Lies a c xs.length s1 is.toArray is2.toArray := by
    intro H1 F1 s1 I1 g g1
    obtain ⟨is, q1, ⟨o, k, ho, hc, hd, hs⟩, _⟩ := I1.list (show SqL X.K H1 a vs by rw [← hK]; exact g1.seq (g.seq (.inl (.inl sq1))))
    obtain ⟨is2, q2, ⟨o2, k2, ho2, hc2, hd2, hs2⟩, _⟩ := I1.list (show SqL X.K H1 c us by rw [← hK]; exact g1.seq (g.seq (.inl (.inl sq2))))
    obtain ⟨oc, od, odat, osl⟩ := o
    obtain ⟨oc2, od2, odat2, osl2⟩ := o2
    simp only at hc hd hs hc2 hd2 hs2
    subst hc hd hs hc2 hd2 hs2
    exact ⟨is, is2, q1, q2, ⟨_, _, _, ho⟩, ⟨_, _, _, ho2⟩, by rw [List.size_toArray, ← q1.length, rl1.length], by rw [List.size_toArray, ← q2.length, rl2.length, hl]⟩
  let Lp : Nat → Shared → Prop := fun i s1 => (∃ H1 F1, Inv X pins σ H1 s1 ∧ Ext0 H F H1 F1) ∧ i ≤ xs.length ∧ deqL own (xs.drop i) (ys.drop i) = some b
  let Lz : Shared → Prop := fun s1 => (∃ H1 F1, Inv X pins σ H1 s1 ∧ Ext0 H F H1 F1) ∧ b = false
  refine TLQ.rcB_list (N := xs.length) ne sb.room.units0 Lp Lz (fun i s1 ⟨⟨H1, F1, I1, ex⟩, hi, hd⟩ => ?_) (fun s1 ⟨⟨H1, F1, I1, ex⟩, hi, hd⟩ => ?_) (fun s1 ⟨⟨H1, F1, I1, ex⟩, hb⟩ => ?_) ⟨⟨H, F, I, Ext0.refl sub⟩, Nat.zero_le _, by simpa using hb⟩
  · obtain ⟨is, is2, q1, q2, ly⟩ := lies I1 ex.grow ex.sub
    refine ⟨is.toArray, is2.toArray, ly, fun h1 h2 => ?_⟩
    have k1 : i < xs.length := by rw [← ly.2.2.1]; exact h1
    have k2 : i < ys.length := by omega
    obtain ⟨v1, g1, w1⟩ := rl1.get (List.getElem?_eq_getElem k1)
    obtain ⟨v2, g2, w2⟩ := rl2.get (List.getElem?_eq_getElem k2)
    obtain ⟨u1, g3, w3⟩ := q1.get g1
    obtain ⟨u2, g4, w4⟩ := q2.get g2
    have e1 : is.toArray[i] = u1 := by
      have h1' : i < is.length := by simpa using h1
      rw [List.getElem?_eq_getElem h1'] at g3
      simpa using g3
    have e2 : is2.toArray[i] = u2 := by
      have h2' : i < is2.length := by simpa using h2
      rw [List.getElem?_eq_getElem h2'] at g4
      simpa using g4
    rw [e1, e2]
    rw [List.drop_eq_getElem_cons k1, List.drop_eq_getElem_cons k2] at hd
    unfold deqL at hd
    cases hq : deq own xs[i] ys[i] with
    | none => rw [hq] at hd; cases hd
    | some r =>
      rw [hq] at hd
      refine wpAny_mono (items i _ _ r (List.getElem?_eq_getElem k1) (List.getElem?_eq_getElem k2) hq A.in1 pins s1 σ H1 F1 v1 v2 u1 u2 sb.in1 I1 ex.sub (w1.mono ex.grow) (w2.mono ex.grow) w3 w4) (fun r' s2 ⟨er, H2, F2, I2, ex2⟩ => ?_) fun _ _ z => z
      subst er
      cases r' with
      | true => exact ⟨⟨H2, F2, I2, ex.trans ex2⟩, k1, hd⟩
      | false =>
        obtain ⟨is', is2', _, _, ly'⟩ := lies I2 (ex.grow.trans ex2.grow) ex2.sub
        exact ⟨⟨⟨H2, F2, I2, ex.trans ex2⟩, (Option.some.inj hd).symm⟩, _, _, ly'⟩
  · have hd' := hd
    rw [List.drop_length] at hd'
    have hb' : b = true := by
      unfold deqL at hd'
      exact (Option.some.inj hd').symm
    subst hb'
    exact ⟨by cases ne <;> rfl, H1, F1, I1, ex⟩
  · subst hb
    exact ⟨by cases ne <;> rfl, H1, F1, I1, ex⟩
/-- lists of unlike lengths -/
theorem rcT_lens (hK : T.K = X.K) (ne : Bool) {xs ys : List D} (hl : xs.length ≠ ys.length) : RcT X T ne (n + 1) (.lst xs) (.lst ys) false := by
  intro A pins s σ H F x y u v sb I sub r1 r2 ru rv
  unfold Rep at r1 r2
  obtain ⟨a, vs, e1, sq1, rl1⟩ := r1
  obtain ⟨c, us, e2, sq2, rl2⟩ := r2
  subst e1 e2
  cases ru
  cases rv
  obtain ⟨is, q1, p1, _⟩ := I.list (show SqL X.K H a vs by rw [← hK]; exact sub.seq (.inl (.inl sq1)))
  obtain ⟨is2, q2, p2, _⟩ := I.list (show SqL X.K H c us by rw [← hK]; exact sub.seq (.inl (.inl sq2)))
  have hs : (is.toArray.size != is2.toArray.size) = true := by
    simp only [List.size_toArray, bne_iff_ne, ne_eq]
    rw [← q1.length, ← q2.length, rl1.length, rl2.length]; exact hl
  cases ne with
  | false => exact SeqAt.RcAt.lists_lengths p1.isList p2.isList hs sb.room.units0 X.prog X.w X.xe _ ⟨rfl, H, F, I, Ext0.refl sub⟩
  | true => exact SeqAt.RcNeAt.lists_lengths p1.isList p2.isList hs sb.room.units0 X.prog X.w X.xe _ ⟨rfl, H, F, I, Ext0.refl sub⟩
end
end TL

set_option Elab.async false
set_option linter.all false
set_option maxRecDepth 100000
set_option maxHeartbeats 1000000
namespace TL
open PySem PySem.Spec PyProof.Rows L2

section
variable {prog : Program} {w : World} {A : Around} {E : Value → Shared → Prop} {s : Shared}
theorem eqBool_left {l : Addr} {v : Value} {Q : Bool → Shared → Prop} (hne : v ≠ .ref l) (h : wpAny (model prog w) A (richCompare .Eq (.ref l) v) (fun u s' => ∃ r, u = .bool r ∧ Q r s') E s) : wpAny (model prog w) A (eqBool (.ref l) v) Q E s := by
  unfold eqBool
  refine wpAny_holding ?_
  refine wpAny_ite_split (fun hab => absurd (eq_of_beq hab).symm hne) (fun _ => ?_)
  refine wpAny_bind (wpAny_mono h (fun u s' hu => ?_) fun _ _ x => x)
  obtain ⟨r, rfl, q⟩ := hu
  exact wpAny_truthy_bool q
end
def kdV : V → Nat
  | .non => 1
  | .bl _ => 2
  | .int _ => 2
  | .str _ => 3
  | _ => 4
section
variable {X : Cx} {T : Tb} {n m : Nat} {own : Nat → D → D → Option Bool}
theorem kd_rep {F : Hp} {d : D} {v : V} (h : kdD d ≠ 0) (r : Rep T F d v) : kdV v = kdD d ∨ (kdV v = 4 ∧ 4 ≤ kdD d) := by
  cases d with
  | non => unfold Rep at r; subst r; exact .inl rfl
  | bl b => unfold Rep at r; subst r; exact .inl rfl
  | int b => unfold Rep at r; subst r; exact .inl rfl
  | str b => unfold Rep at r; subst r; exact .inl rfl
  | lst ds => unfold Rep at r; obtain ⟨a, vs, e, _⟩ := r; subst e; exact .inl rfl
  | tup ds => unfold Rep at r; obtain ⟨a, vs, e, _⟩ := r; subst e; exact .inr ⟨rfl, Nat.le_succ 4⟩
  | _ => exact absurd rfl h
theorem lst_tup {pins : List (Addr × Obj)} {σ : L2.St} {H F : Hp} {s : Shared} {xs ys : List D} {v : V} (hK : T.K = X.K) (I : L2.Inv X pins σ H s) (sub : Same F H) (r1 : Rep T F (.lst xs) v) (r2 : Rep T F (.tup ys) v) : False := by
  unfold Rep at r1 r2
  obtain ⟨a, vs, e1, q1, _⟩ := r1
  obtain ⟨b, us, e2, q2, _⟩ := r2
  subst e1
  cases e2
  obtain ⟨_, _, ⟨o, k, h1, h2, _⟩, _⟩ := I.list (show SqL X.K H a vs by rw [← hK]; exact sub.seq (.inl (.inl q1)))
  obtain ⟨_, _, ⟨o', h1', h2', _⟩, _⟩ := I.tuple (show SqT X.K H a us by rw [← hK]; exact sqT_mono sub q2)
  rw [h1] at h1'
  cases h1'
  rw [h2] at h2'
  revert h2'
  decide
theorem mis_same {pins : List (Addr × Obj)} {σ : L2.St} {H F : Hp} {s : Shared} {d1 d2 : D} {v : V} (hK : T.K = X.K) (I : L2.Inv X pins σ H s) (sub : Same F H) (r1 : Rep T F d1 v) (r2 : Rep T F d2 v) : mis d1 d2 = false := by
  cases hm : mis d1 d2 with
  | false => rfl
  | true =>
    exfalso
    unfold mis at hm
    simp only [Bool.and_eq_true, bne_iff_ne, ne_eq] at hm
    obtain ⟨⟨h1, h2⟩, h3⟩ := hm
    have k1 := kd_rep h1 r1
    have k2 := kd_rep h2 r2
    cases d1 with
    | lst xs =>
      cases d2 with
      | tup ys => exact lst_tup hK I sub r1 r2
      | lst ys => exact h3 rfl
      | non => rcases k1 with k1 | k1 <;> rcases k2 with k2 | k2 <;> simp [kdD] at k1 k2 <;> omega
      | bl _ => rcases k1 with k1 | k1 <;> rcases k2 with k2 | k2 <;> simp [kdD] at k1 k2 <;> omega
      | int _ => rcases k1 with k1 | k1 <;> rcases k2 with k2 | k2 <;> simp [kdD] at k1 k2 <;> omega
      | str _ => rcases k1 with k1 | k1 <;> rcases k2 with k2 | k2 <;> simp [kdD] at k1 k2 <;> omega
      | _ => exact h2 rfl
    | tup xs =>
      cases d2 with
      | lst ys => exact lst_tup hK I sub r2 r1
      | tup ys => exact h3 rfl
      | non => rcases k1 with k1 | k1 <;> rcases k2 with k2 | k2 <;> simp [kdD] at k1 k2 <;> omega
      | bl _ => rcases k1 with k1 | k1 <;> rcases k2 with k2 | k2 <;> simp [kdD] at k1 k2 <;> omega
      | int _ => rcases k1 with k1 | k1 <;> rcases k2 with k2 | k2 <;> simp [kdD] at k1 k2 <;> omega
      | str _ => rcases k1 with k1 | k1 <;> rcases k2 with k2 | k2 <;> simp [kdD] at k1 k2 <;> omega
      | _ => exact h2 rfl
    | _ =>
      cases d2 <;> simp [kdD] at h1 h2 h3 k1 k2 <;> omega
theorem dflat_same {pins : List (Addr × Obj)} {σ : L2.St} {H F : Hp} {s : Shared} {d1 d2 : D} {x : V} {u : Value} {b : Bool} (hK : T.K = X.K) (I : L2.Inv X pins σ H s) (sub : Same F H) (r1 : Rep T F d1 x) (r2 : Rep T F d2 x) (ru : RelV x u) (h : dflat d1 d2 = some b) : b = true := by
  unfold dflat at h
  rw [if_neg (by rw [mis_same hK I sub r1 r2]; exact Bool.false_ne_true)] at h
  split at h
  · rename_i p q hp hq
    split at h
    · rename_i hs
      cases h
      obtain ⟨s1, s2⟩ := Bool.and_eq_true_iff.mp hs
      obtain ⟨as, z1⟩ := Dp.reads I p x u (by rw [← hK]; exact dp_up sub (dp_of hp r1)) ru
      obtain ⟨bs, z2⟩ := Dp.reads I q x u (by rw [← hK]; exact dp_up sub (dp_of hq r2)) ru
      have e := SeqAt.Reads.unique p q u as bs (SeqAt.canLay_of_shaped s1) z1 z2
      subst e
      exact SeqAt.eqv_refl p (SeqAt.canLay_of_shaped s1)
    · cases h
  · cases h
structure OwnQ (X : Cx) (T : Tb) (n : Nat) (own : Nat → D → D → Option Bool) : Prop where
  rc : ∀ {c fs d b}, own c (.obj c fs) d = some b → RcT X T false n (.obj c fs) d b
  same : ∀ {c fs d b} {pins : List (Addr × Obj)} {σ : L2.St} {H F : Hp} {s : Shared} {x : V} {u : Value}, L2.Inv X pins σ H s → Same F H → Rep T F (.obj c fs) x → Rep T F d x → RelV x u → own c (.obj c fs) d = some b → b = true
mutual
theorem deq_same (hK : T.K = X.K) (O : OwnQ X T n own) {pins : List (Addr × Obj)} {σ : L2.St} {H F : Hp} {s : Shared} (I : L2.Inv X pins σ H s) (sub : Same F H) :
    ∀ {d1 d2 : D} {x : V} {u : Value} {b : Bool}, Rep T F d1 x → Rep T F d2 x → RelV x u → deq own d1 d2 = some b → b = true
  | .obj c fs, d2, x, u, b, r1, r2, ru, h => by unfold deq at h; exact O.same I sub r1 r2 ru h
  | .lst xs, d2, x, u, b, r1, r2, ru, h => by
    cases d2 with
    | lst ys =>
      unfold deq at h
      unfold Rep at r1 r2
      obtain ⟨a, vs, e1, q1, l1⟩ := r1
      obtain ⟨a', us, e2, q2, l2⟩ := r2
      subst e1
      cases e2
      have q1' : SqL X.K H a vs := by rw [← hK]; exact sub.seq (.inl (.inl q1))
      have e := I.list_inj q1' (by rw [← hK]; exact sub.seq (.inl (.inl q2)))
      subst e
      obtain ⟨is, q3, _, _⟩ := I.list q1'
      rw [if_pos (by rw [← l1.length, ← l2.length])] at h
      exact deqL_same hK O I sub l1 l2 q3 h
    | _ => exact dflat_same hK I sub r1 r2 ru (by unfold deq at h; exact h)
  | .non, d2, x, u, b, r1, r2, ru, h => dflat_same hK I sub r1 r2 ru (by unfold deq at h; exact h)
  | .bl _, d2, x, u, b, r1, r2, ru, h => dflat_same hK I sub r1 r2 ru (by unfold deq at h; exact h)
  | .int _, d2, x, u, b, r1, r2, ru, h => dflat_same hK I sub r1 r2 ru (by unfold deq at h; exact h)
  | .str _, d2, x, u, b, r1, r2, ru, h => dflat_same hK I sub r1 r2 ru (by unfold deq at h; exact h)
  | .ty _, d2, x, u, b, r1, r2, ru, h => dflat_same hK I sub r1 r2 ru (by unfold deq at h; exact h)
  | .at_ _, d2, x, u, b, r1, r2, ru, h => dflat_same hK I sub r1 r2 ru (by unfold deq at h; exact h)
  | .tup _, d2, x, u, b, r1, r2, ru, h => dflat_same hK I sub r1 r2 ru (by unfold deq at h; exact h)
  | .part _ _, d2, x, u, b, r1, r2, ru, h => dflat_same hK I sub r1 r2 ru (by unfold deq at h; exact h)
  | .dic _ _, d2, x, u, b, r1, r2, ru, h => dflat_same hK I sub r1 r2 ru (by unfold deq at h; exact h)
theorem deqL_same (hK : T.K = X.K) (O : OwnQ X T n own) {pins : List (Addr × Obj)} {σ : L2.St} {H F : Hp} {s : Shared} (I : L2.Inv X pins σ H s) (sub : Same F H) :
    ∀ {xs ys : List D} {vs : List V} {us : List Value} {b : Bool}, RepL T F xs vs → RepL T F ys vs → Vals vs us → deqL own xs ys = some b → b = true
  | [], ys, vs, us, b, r1, r2, ru, h => by
    unfold deqL at h
    exact (Option.some.inj h).symm
  | x :: xs, [], vs, us, b, r1, r2, ru, h => by
    unfold deqL at h
    exact (Option.some.inj h).symm
  | x :: xs, y :: ys, vs, us, b, r1, r2, ru, h => by
    unfold RepL at r1 r2
    obtain ⟨v, t, e1, p1, p2⟩ := r1
    obtain ⟨v', t', e2, p3, p4⟩ := r2
    subst e1
    cases e2
    cases ru with
    | cons k1 k2 =>
      unfold deqL at h
      cases hq : deq own x y with
      | none => rw [hq] at h; cases h
      | some r =>
        have e := deq_same hK O I sub p1 p3 k1 hq
        subst e
        rw [hq] at h
        exact deqL_same hK O I sub p2 p4 k2 h
end
/-- from a rich comparison to == inside a list -/
theorem RcT.eq {d1 d2 : D} {b : Bool} (h : RcT X T false n d1 d2 b) (hr : ∀ F x, Rep T F d1 x → ∃ a, x = .ref a)
    (hs : ∀ {pins : List (Addr × Obj)} {σ : L2.St} {H F : Hp} {s : Shared} {x : V} {u : Value}, L2.Inv X pins σ H s → Same F H → Rep T F d1 x → Rep T F d2 x → RelV x u → b = true) : EqT X T n d1 d2 b := by
  intro A pins s σ H F x y u v sb I sub r1 r2 ru rv
  obtain ⟨a, rfl⟩ := hr F x r1
  cases ru
  by_cases hv : v = .ref a
  · subst hv
    have e : y = .ref a := RelV.inj rv rfl
    subst e
    have hb := hs I sub r1 r2 (u := .ref a) rfl
    subst hb
    exact SeqAt.EqAt.same (A := A) (s := s) (.ref a) X.prog X.w X.xe _ ⟨rfl, H, F, I, Ext0.refl sub⟩
  · refine eqBool_left hv (wpAny_mono (h A pins s σ H F (.ref a) y _ _ sb I sub r1 r2 rfl rv) (fun r s' q => ?_) fun _ _ z => z)
    exact ⟨b, q.1, rfl, q.2⟩
theorem RcT.mono {ne : Bool} {d1 d2 : D} {b : Bool} (h : RcT X T ne n d1 d2 b) (hn : n ≤ m) : RcT X T ne m d1 d2 b := fun A pins s σ H F x y u v sb => h A pins s σ H F x y u v (sb.mono hn)
theorem dep_item : ∀ {xs : List D} {i : Nat} {d : D}, xs[i]? = some d → dep d ≤ depL xs
  | x :: xs, 0, d, h => by
    cases h
    unfold depL
    exact Nat.le_max_left _ _
  | x :: xs, i + 1, d, h => by
    unfold depL
    exact Nat.le_trans (dep_item (xs := xs) (i := i) h) (Nat.le_max_right _ _)
  | [], i, d, h => by simp at h
theorem rcT_lst (hK : T.K = X.K) (ne : Bool) {xs ys : List D} {b : Bool} (h : deq own (.lst xs) (.lst ys) = some b)
    (items : ∀ (i : Nat) (d1 d2 : D) (r : Bool), xs[i]? = some d1 → ys[i]? = some d2 → deq own d1 d2 = some r → EqT X T n d1 d2 r) : RcT X T ne (n + 1) (.lst xs) (.lst ys) b := by
  unfold deq at h
  split at h
  · rename_i hl
    exact rcT_list hK ne own hl h items
  · rename_i hl
    cases h
    exact rcT_lens hK ne hl
theorem eqT_all (hK : T.K = X.K) (O : OwnQ X T n own) (N : Nat) : ∀ {d1 d2 : D} {b : Bool}, dep d1 ≤ N → deq own d1 d2 = some b → EqT X T (n + N) d1 d2 b := by
  induction N with
  | zero =>
    intro d1 d2 b hd h
    cases d1 with
    | obj c fs =>
      have h' : own c (.obj c fs) d2 = some b := by unfold deq at h; exact h
      exact RcT.eq (O.rc h') (fun F x r => by unfold Rep at r; obtain ⟨a, _, _, e, _⟩ := r; exact ⟨a, e⟩) fun I sub r1 r2 ru => O.same I sub r1 r2 ru h'
    | lst xs => unfold dep at hd; omega
    | _ => exact eqT_flat hK (by unfold deq at h; exact h)
  | succ N ih =>
    intro d1 d2 b hd h
    cases d1 with
    | obj c fs =>
      have h' : own c (.obj c fs) d2 = some b := by unfold deq at h; exact h
      exact (RcT.eq (O.rc h') (fun F x r => by unfold Rep at r; obtain ⟨a, _, _, e, _⟩ := r; exact ⟨a, e⟩) fun I sub r1 r2 ru => O.same I sub r1 r2 ru h').mono (by omega)
    | lst xs =>
      cases d2 with
      | lst ys =>
        refine RcT.eq (rcT_lst hK false h fun i e1 e2 r g1 g2 g3 => ih (Nat.le_trans (dep_item g1) (by unfold dep at hd; omega)) g3) (fun F x r => by unfold Rep at r; obtain ⟨a, _, e, _⟩ := r; exact ⟨a, e⟩) fun I sub r1 r2 ru => deq_same hK O I sub r1 r2 ru h
      | _ => exact eqT_flat hK (by unfold deq at h; exact h)
    | _ => exact eqT_flat hK (by unfold deq at h; exact h)
theorem rcT_all (hK : T.K = X.K) (O : OwnQ X T n own) (N : Nat) {d1 d2 : D} {b : Bool} (hd : dep d1 ≤ N) (h : deq own d1 d2 = some b) : RcT X T false (n + N) d1 d2 b := by
  cases d1 with
  | obj c fs =>
    have h' : own c (.obj c fs) d2 = some b := by unfold deq at h; exact h
    exact (O.rc h').mono (by omega)
  | lst xs =>
    cases d2 with
    | lst ys =>
      unfold dep at hd
      exact (rcT_lst (n := n + depL xs) hK false h fun i e1 e2 r g1 g2 g3 => eqT_all hK O _ (dep_item g1) g3).mono (by omega)
    | _ => exact rcT_flat hK false (by unfold deq at h; exact h)
  | _ => exact rcT_flat hK false (by unfold deq at h; exact h)
/-- != : of lists item by item; of instances not here -/
def dne (own : Nat → D → D → Option Bool) : D → D → Option Bool
  | .obj _ _, _ => none
  | d, d' => deq own d d'
theorem rcN_all (hK : T.K = X.K) (O : OwnQ X T n own) (N : Nat) {d1 d2 : D} {b : Bool} (hd : dep d1 ≤ N) (h : dne own d1 d2 = some b) : RcT X T true (n + N) d1 d2 b := by
  cases d1 with
  | obj c fs => unfold dne at h; cases h
  | lst xs =>
    have h : deq own (.lst xs) d2 = some b := by unfold dne at h; exact h
    cases d2 with
    | lst ys =>
      unfold dep at hd
      exact (rcT_lst (n := n + depL xs) hK true h fun i e1 e2 r g1 g2 g3 => eqT_all hK O _ (dep_item g1) g3).mono (by omega)
    | _ => exact rcT_flat hK true (by unfold deq at h; exact h)
  | _ => exact rcT_flat hK true (by unfold dne deq at h; exact h)
def hEq (own : Nat → D → D → Option Bool) (N : Nat) : D → D → Option D := fun x y => if dep x ≤ N then (deq own x y).map .bl else none
def hNe (own : Nat → D → D → Option Bool) (N : Nat) : D → D → Option D := fun x y => if dep x ≤ N then (dne own x y).map fun b => .bl !b else none
theorem ops_eq (hK : T.K = X.K) (O : OwnQ X T n own) (N : Nat) (hr : Room (n + N) X.A) : OpS X T (compareOp .Eq) (hEq own N) := by
  intro pins s σ H x y v u Q I rx ry ⟨F, dx, dy, d, sub, r1, r2, e, q⟩
  unfold hEq at e
  split at e
  · rename_i hd
    cases hq : deq own dx dy with
    | none => rw [hq] at e; cases e
    | some b =>
      rw [hq] at e
      cases e
      refine wpAny_mono (rcT_all hK O N hd hq X.A pins s σ H F x y v u ⟨hr, rfl⟩ I sub r1 r2 rx ry) (fun r s' z => ?_) fun _ _ z => z
      obtain ⟨er, H', F', I', ex⟩ := z
      subst er
      exact ⟨.bl b, H', I', rfl, q H' F' _ ex rfl⟩
  · cases e
theorem ops_ne (hK : T.K = X.K) (O : OwnQ X T n own) (N : Nat) (hr : Room (n + N) X.A) : OpS X T (compareOp .NotEq) (hNe own N) := by
  intro pins s σ H x y v u Q I rx ry ⟨F, dx, dy, d, sub, r1, r2, e, q⟩
  unfold hNe at e
  split at e
  · rename_i hd
    cases hq : dne own dx dy with
    | none => rw [hq] at e; cases e
    | some b =>
      rw [hq] at e
      cases e
      refine wpAny_mono (rcN_all hK O N hd hq X.A pins s σ H F x y v u ⟨hr, rfl⟩ I sub r1 r2 rx ry) (fun r s' z => ?_) fun _ _ z => z
      obtain ⟨er, H', F', I', ex⟩ := z
      subst er
      exact ⟨.bl (!b), H', I', rfl, q H' F' _ ex rfl⟩
  · cases e
end
end TL

set_option Elab.async false
set_option linter.all false
set_option maxRecDepth 100000
set_option maxHeartbeats 1000000
namespace TL
open PySem PySem.Spec PyProof.Rows L2

/-- the type of a tree's value -/
def tyD (T : Tb) : D → Option Value
  | .non => some (.type "NoneType")
  | .bl _ => some (.type "bool")
  | .int _ => some (.type "int")
  | .str _ => some (.type "str")
  | .lst _ => some (.type "list")
  | .tup _ => some (.type "tuple")
  | .obj c _ => some (.ref (T.cl c))
  | _ => none
section
variable {X : Cx} {T : Tb} {n m lv : Nat} {own : Nat → D → D → Option Bool} {c : Nat} {g : G}
theorem looks_ty {pins : List (Addr × Obj)} {σ : L2.St} {H F : Hp} {s : Shared} {d : D} {v : V} {u t : Value} (hK : T.K = X.K) (I : L2.Inv X pins σ H s) (sub : Same F H) (r : Rep T F d v) (ru : RelV v u) (ht : tyD T d = some t) :
    PySem.W.Looks (model X.prog X.w) s.heap (typeOf u) t := by
  cases d with
  | non => unfold Rep at r; subst r; cases ru; cases ht; exact PySem.W.Looks.of_pure rfl
  | bl b => unfold Rep at r; subst r; cases ru; cases ht; exact PySem.W.Looks.of_pure rfl
  | int b => unfold Rep at r; subst r; obtain ⟨k, rfl⟩ := ru; cases ht; exact PySem.W.Looks.of_pure rfl
  | str b => unfold Rep at r; subst r; obtain ⟨k, rfl⟩ := ru; cases ht; exact PySem.W.Looks.of_pure rfl
  | lst ds =>
    unfold Rep at r
    obtain ⟨a, vs, e, q, _⟩ := r
    subst e
    cases ru
    cases ht
    obtain ⟨_, _, ⟨o, k, h1, h2, _⟩, _⟩ := I.list (show SqL X.K H a vs by rw [← hK]; exact sub.seq (.inl (.inl q)))
    exact fun A Q E s k q => wpAny_typeOf_ref (k _ _ h1) (by rw [h2]; exact q)
  | tup ds =>
    unfold Rep at r
    obtain ⟨a, vs, e, q, _⟩ := r
    subst e
    cases ru
    cases ht
    obtain ⟨_, _, ⟨o, h1, h2, _⟩, _⟩ := I.tuple (show SqT X.K H a vs by rw [← hK]; exact sqT_mono sub q)
    exact fun A Q E s k q => wpAny_typeOf_ref (k _ _ h1) (by rw [h2]; exact q)
  | obj c fs =>
    obtain ⟨a, dx, od, e1, e2, J, _⟩ := inst_of I sub r ru
    subst e1 e2
    cases ht
    exact J.type
  | _ => cases ht
/-- one class with an own __eq__ that raises nothing -/
def ownE (ok : D → Bool) (c : Nat) (g : G) : Nat → D → D → Option Bool := fun c' x y => if c' = c && ok y then match ans (g [some x, some y]) with
  | some (.bl b) => some b
  | _ => none
  else none
theorem rc_own {ok : D → Bool} (hK : T.K = X.K) (hF : OpD X T n c "__eq__" (spS T [] 2 g)) (hn : ∀ y, ok y = true → ∃ t, tyD T y = some t ∧ PySem.W.notFirst X.K (T.cl c) t = true)
    {fs : List D} {d : D} {c' : Nat} {b : Bool} (h : ownE ok c g c' (.obj c' fs) d = some b) : RcT X T false n (.obj c' fs) d b := by
  obtain ⟨f, fd, ps, h1, h2, h3, h4⟩ := hF.ex
  intro A pins s σ H F x y u v sb I sub r1 r2 ru rv
  unfold ownE at h
  split at h
  · rename_i hc
    obtain ⟨hc1, hc2⟩ := Bool.and_eq_true_iff.mp hc
    have hc1 : c' = c := of_decide_eq_true hc1
    subst hc1
    obtain ⟨t, ht, hnf⟩ := hn d hc2
    obtain ⟨a, dx, od, e1, e2, J, gs, _⟩ := inst_of I sub r1 ru
    subst e1 e2
    obtain ⟨m, hFr⟩ := I.fr
    split at h
    · rename_i b' hb
      cases h
      have hsp : spS T [] 2 g [.ref a, y] H (fun w H' => w = .bl b ∧ ∃ F', Ext0 H F H' F') E0 := spS_nox (ds := [.obj c' fs, d]) sub (by unfold RepL; exact ⟨_, _, rfl, r1, RepL.one r2⟩) rfl hb fun H' F' w ex rw' => ⟨rw', F', ex⟩
      refine PySem.W.cmp_K (op := .Eq) (tb := t) sb.room.units0 hFr I.ok.mod.kin J (looks_ty hK I sub r2 rv ht) hnf h1 h2 ?_
      have e0 : Env0 X.prog X.w X.K X.mg X.base A X.stack s H := by
        have e := I.env0
        exact ⟨by rw [sb.fr]; exact e.frames, e.mod, e.bs, e.bsz, e.funs, e.frf, e.hok, e.bare⟩
      have hl := h4.len _ _ _ _ hsp
      have r2' : Vals [V.ref a, y] [Value.ref a, v] := .cons rfl (.cons rv .nil)
      refine wpAny_call (codeAny_mono (h4.run A X.stack s H ⟨[.ref a, v], []⟩ [.ref a, v] [.ref a, y] _ E0 sb.room e0 (by
        have := h3 s [.ref a, v] I.kIn (by simpa using hl)
        simpa using this) r2' hsp) fun r s' hq => ?_)
      cases r with
      | error e => exact passN pins σ H s e s' I hq
      | ok fl =>
        cases fl with
        | ret w =>
          obtain ⟨z, H', I', rz, ez, F', ex⟩ := I.after hq
          subst ez
          cases rz
          exact ⟨rfl, H', F', I', ex⟩
        | next => exact False.elim hq
        | brk => exact False.elim hq
        | cont => exact False.elim hq
    · cases h
  · cases h
end
end TL

set_option Elab.async false
set_option linter.all false
set_option maxRecDepth 100000
set_option maxHeartbeats 1000000
namespace TL
open PySem PySem.Spec PyProof.Rows L2

/-! ### an exception whose __init__ keeps one argument as a field -/
def spIni (K : PySem.W.Frag) (fl : Str) : Sp := fun vs H Q _ => ∃ (a C : Addr) (y : V), vs = [.ref a, y] ∧ OexC K C ∧ PySem.W.findIn K (.ref C) fl = some none ∧ H a = some (exo a C none) ∧
  ∀ dx, H dx = none → dx ≠ a → Q .non (upd (upd H dx (exd dx [(fl, y)])) a (exo a C (some dx)))
section
variable {P : Program} {w : World} {K : PySem.W.Frag} {mg : Str → Option Value} {base : Heap}
theorem oex_init {x qual : Str} {st : Stmt} {f : Addr} {fd : FuncData} {lv : Nat} {na nb fl : Str} {p1 p2 p3 pos : Pos} (Fn : Fun K x qual st f fd) (S : FnScope [na, nb] [na, nb] (defScope st)) (hb : defBody st = [.Assign [.Attribute (.Name na p1) fl p2] (.Name nb p3) pos])
    (hva : Vis (defScope st) na) (hvb : Vis (defScope st) nb) (h1 : (na == ("__debug__" : Str)) = false := by decide) (h2 : (na == ("__classdict__" : Str)) = false := by decide) (h3 : (nb == ("__debug__" : Str)) = false := by decide) (h4 : (nb == ("__classdict__" : Str)) = false := by decide) :
    FnOk P w K mg base (L2N.CX P w) (lv + 1) f fd [na, nb] (spIni K fl) :=
  okN Fn S (fun vs H Q E ⟨a, C, y, e, _⟩ => by rw [e]; rfl) fun cdv A outer s H vs Q E hr ⟨a, C, y, e, hT, hno, hH, q⟩ => by
    subst e
    rw [hb]
    refine ⟨_, pss_one (ps_ost (pe_var (i := 0) rfl hva h1 h2) (pe_var (i := 1) rfl hvb h3 h4)), ?_⟩
    exact ⟨y, rfl, .ref a, rfl, a, C, rfl, hT, hno, .inl ⟨hH, fun dx hd hne => q dx hd hne⟩⟩
end
end TL

set_option Elab.async false
set_option linter.all false
set_option maxRecDepth 100000
set_option maxHeartbeats 1000000
namespace TLK
open PySem PySem.Spec PyProof.Rows

/-- nothing is handled, or an exception whose context is None -/
def Quiet (A : Around) (h : Heap) : Prop := A.handled = none ∨ ∃ x1, HotX.HotAt A x1 h
section
variable {prog : Program} {w : World} {A : Around} {E : Value → Shared → Prop} {s : Shared}
theorem Quiet.keeps {h h' : Heap} (q : Quiet A h) (k : ∀ b u, h.get? b = some u → h'.get? b = some u) : Quiet A h' := by
  rcases q with q | ⟨x, q, o, vs, e, r⟩
  · exact .inl q
  · exact .inr ⟨x, q, o, vs, k _ _ e, r⟩
/-- a walk's end is raised -/
theorem stop_q {α : Type} {Q : α → Shared → Prop} (q : Quiet A s.heap) (h : ∀ h' a o, (∀ b u, s.heap.get? b = some u → h'.get? b = some u) → h'.get? a = some o → o.cls = .type "StopIteration" → E (.ref a) { s with heap := h' }) :
    wpAny (model prog w) A (newExc (.type "StopIteration") [] >>= fun e => (raiseNew e : Sem α)) Q E s := by
  simp only [newExc, newTuple]
  refine wpAny_bind (wpAny_bind (wpAny_newObj_type (wpAny_bind (wpAny_of_eq (a := Value.none) (by first | rfl | (simp only [firstArgMember]; rfl)) (wpAny_newObj_type ?_ (by size_fits)))) (by size_fits)))
  rcases q with hn | ⟨x1, hh, o1, vs1, e1, d1, c1⟩
  · simp only [raiseNew]
    refine wpAny_bind (wpAny_handled ?_)
    rw [hn]
    exact wpAny_bind (wpAny_pure (wpAny_throw (h _ _ _ (fun b u z => Heap.get?_push_of_some _ (Heap.get?_push_of_some _ z)) (Heap.get?_push_size _ rfl) rfl)))
  · refine HotX.raiseNew_hot ⟨hh, o1, vs1, Heap.get?_push_of_some _ (Heap.get?_push_of_some _ e1), d1, c1⟩ (Nat.ne_of_lt (Heap.lt_size (Heap.get?_push_of_some _ e1))) (Heap.get?_push_size _ rfl) rfl (by first | (simp; done) | (simp; omega)) ?_
    refine h _ _ _ (fun b u z => ?_) (Heap.get?_update_self _ (Heap.get?_push_size _ rfl) rfl) rfl
    rw [Heap.get?_update_other _ _ (Nat.ne_of_gt (Heap.lt_size (Heap.get?_push_of_some _ z)))]
    exact Heap.get?_push_of_some _ (Heap.get?_push_of_some _ z)
/-- the walk over a list, or a tuple, ends -/
theorem list_end {it l : Addr} {i : Nat} {items : Array Value} {Q : Option Value → Shared → Prop} (q : Quiet A s.heap) (hne : ∀ x1, A.handled = some (.ref x1) → x1 ≠ it) (hit : s.heap.IsListIter it l i) (hl : s.heap.IsList l items) (hx : items[i]? = none)
    (hQ : ∀ h', (∀ b u, b ≠ it → s.heap.get? b = some u → h'.get? b = some u) → Q none { s with heap := h' }) : wpAny (model prog w) A (pyNext (.ref it)) Q E s := by
  obtain ⟨o, ho, hc, hd⟩ := id hit
  obtain ⟨ol, hol, _, nl, hdl⟩ := hl
  unfold pyNext
  refine wpAny_bind (wpAny_attempt (wpAny_callSpecial?_slot (name := Str.ofString "__next__") hit.typeIs slot_listiter_next (wpAny_call_entry slot_listiter_next hit.typeIs entry_listiter_next ?_ (args_listiter_next _))))
  refine wpAny_bind (m := field _ 0) (wpAny_field ho hd (x := .ref l) rfl ?_)
  rw [if_neg (show ¬ ((Value.ref l == Value.none) = true) from Bool.false_ne_true)]
  refine wpAny_bind (m := pure _) (wpAny_pure (wpAny_bind (m := field _ 1) (wpAny_field ho hd (x := .int i 0) rfl (wpAny_bind (m := seqItems? _) (wpAny_seqItems hol hdl ?_)))))
  simp only [Int.toNat_natCast, hx]
  refine wpAny_bind (wpAny_rule (wpAny_bind (wpAny_setField ho hd (by simp) ?_)))
  have k1 : ∀ b u, b ≠ it → s.heap.get? b = some u → (s.heap.update it (Obj.mapFields (·.setIfInBounds 0 .none))).get? b = some u := fun b u hb e => by rw [Heap.get?_update_other _ _ (Ne.symm hb)]; exact e
  refine stop_q ?_ fun h' a o' k e c => ?_
  · rcases q with q | ⟨x, h1, o1, v1, h2, h3⟩
    · exact .inl q
    · exact .inr ⟨x, h1, o1, v1, k1 _ _ (hne x h1) h2, h3⟩
  · refine wpAny_bind (wpAny_isInstance (T := "StopIteration") (b := true) ⟨_, e, c⟩ isSubtype_stop ?_)
    exact wpAny_pure (hQ _ fun b u hb z => k _ _ (k1 b u hb z))
theorem tuple_end {it l : Addr} {i : Nat} {items : Array Value} {Q : Option Value → Shared → Prop} (q : Quiet A s.heap) (hne : ∀ x1, A.handled = some (.ref x1) → x1 ≠ it) (hit : s.heap.IsTupleIter it l i) (hl : s.heap.IsTuple l items) (hx : items[i]? = none)
    (hQ : ∀ h', (∀ b u, b ≠ it → s.heap.get? b = some u → h'.get? b = some u) → Q none { s with heap := h' }) : wpAny (model prog w) A (pyNext (.ref it)) Q E s := by
  obtain ⟨o, ho, hc, hd⟩ := id hit
  obtain ⟨ol, hol, _, nl, hdl⟩ := hl
  unfold pyNext
  refine wpAny_bind (wpAny_attempt (wpAny_callSpecial?_slot (name := Str.ofString "__next__") hit.typeIs F.slot_tuple_iterator_next (wpAny_call_entry F.slot_tuple_iterator_next hit.typeIs F.entry_tuple_iterator_next ?_ (F.args_tuple_iterator_next_1 _))))
  refine wpAny_bind (m := field _ 0) (wpAny_field ho hd (x := .ref l) rfl ?_)
  rw [if_neg (show ¬ ((Value.ref l == Value.none) = true) from Bool.false_ne_true)]
  refine wpAny_bind (m := pure _) (wpAny_pure (wpAny_bind (m := field _ 1) (wpAny_field ho hd (x := .int i 0) rfl (wpAny_bind (m := seqItems? _) (wpAny_seqItems hol hdl ?_)))))
  simp only [Int.toNat_natCast, hx]
  refine wpAny_bind (wpAny_rule (wpAny_bind (wpAny_setField ho hd (by simp) ?_)))
  have k1 : ∀ b u, b ≠ it → s.heap.get? b = some u → (s.heap.update it (Obj.mapFields (·.setIfInBounds 0 .none))).get? b = some u := fun b u hb e => by rw [Heap.get?_update_other _ _ (Ne.symm hb)]; exact e
  refine stop_q ?_ fun h' a o' k e c => ?_
  · rcases q with q | ⟨x, h1, o1, v1, h2, h3⟩
    · exact .inl q
    · exact .inr ⟨x, h1, o1, v1, k1 _ _ (hne x h1) h2, h3⟩
  · refine wpAny_bind (wpAny_isInstance (T := "StopIteration") (b := true) ⟨_, e, c⟩ isSubtype_stop ?_)
    exact wpAny_pure (hQ _ fun b u hb z => k _ _ (k1 b u hb z))
end
end TLK

set_option Elab.async false
set_option linter.all false
set_option maxRecDepth 100000
set_option maxHeartbeats 1000000
namespace TLK
open PySem PySem.Spec PyProof.Rows L2

/-! ### walks and comprehensions while an exception is handled -/
structure Walk (P : Program) (w : World) (K : PySem.W.Frag) (tg : Expr) (J : It) (fp : List Addr) (it : Addr) (tn : Nat → Heap → Prop) : Prop where
  mem : it ∈ fp
  there : ∀ i h, tn i h → ∀ b ∈ fp, ∃ o, h.get? b = some o ∧ ∀ v, o.data ≠ .cell v
  stay : ∀ i h h', tn i h → (∀ b ∈ fp, ∀ o, h.get? b = some o → h'.get? b = some o) → tn i h'
  next : ∀ (X : Cx), X.prog = P → X.w = w → X.K = K → ∀ (i : Nat) (pins : List (Addr × Obj)) (s : Shared) (σ : L2.St) (H : Hp) (E : Value → Shared → Prop), Inv X pins σ H s → (∀ b ∈ fp, FpOk X pins H b) → tn i s.heap → J.go i H →
    wpAny (model P w) X.A (pyNext (.ref it)) (fun r s1 => ∃ u, r = some u ∧ wpAny (model P w) X.A (letOwnedTupleGo tg (.ref it) u) (fun _ s2 => ∃ x H', Inv X pins σ H' s2 ∧ RelV x u ∧ J.yld i H x H' ∧ tn (i + 1) s2.heap ∧ ∀ b ∈ fp, H' b = none) E s1) E s
  last : ∀ (X : Cx), X.prog = P → X.w = w → X.K = K → ∀ (i : Nat) (pins : List (Addr × Obj)) (s : Shared) (σ : L2.St) (H : Hp) (E : Value → Shared → Prop), Inv X pins σ H s → (∀ b ∈ fp, FpOk X pins H b) → Quiet X.A s.heap → (∀ x1, X.A.handled = some (.ref x1) → x1 ∉ fp) → tn i s.heap → J.stop i H →
    wpAny (model P w) X.A (pyNext (.ref it)) (fun r s1 => r = none ∧ Inv X pins σ H s1) E s
  self : ∀ (A : Around) (i : Nat) (s : Shared) (Q : Value → Shared → Prop) (E : Value → Shared → Prop), tn i s.heap → Q (.ref it) s → wpAny (model P w) A (pyIter (.ref it)) Q E s
theorem walk_list {P : Program} {w : World} {K : PySem.W.Frag} {tg : Expr} (a it : Addr) : Walk P w K tg (Itl K a) [it] it (fun i h => h.IsListIter it a i) where
  mem := (turn_list (P := P) (w := w) (K := K) (tg := tg) a it).mem
  there := (turn_list (P := P) (w := w) (K := K) (tg := tg) a it).obj
  stay := (turn_list (P := P) (w := w) (K := K) (tg := tg) a it).keep
  self := (turn_list (P := P) (w := w) (K := K) (tg := tg) a it).self
  next := fun X hP hw hK i pins s σ H E I hf st ⟨xs, x, hq, hx⟩ => by
    subst hP hw hK
    obtain ⟨its, rv, p, _⟩ := I.list hq
    obtain ⟨u, hu, ru⟩ := rv.get hx
    have f := hf it (by simp)
    refine wpAny_pyNext_list_item st p.isList (x := u) (by simpa using hu) fun h1 st1 sb => ?_
    obtain ⟨o, e, c, d⟩ := id st1
    refine ⟨u, rfl, go_of (s := { s with heap := h1 }) e c d (by decide) ⟨x, H, ?_, ru, ⟨rfl, fun ys hy => by rw [I.list_inj hy hq]; exact hx⟩, st1, fun b hb => (hf b hb).1⟩⟩
    exact I.turned (t' := s.toks) (fun b ob hb z => (sb.2 b hb).trans z) f.1 f.2.1 f.2.2.2.1 f.2.2.2.2.1 f.2.2.2.2.2
  last := fun X hP hw hK i pins s σ H E I hf q hn st ⟨xs, hq, hx⟩ => by
    subst hP hw hK
    obtain ⟨its, rv, p, _⟩ := I.list hq
    have f := hf it (by simp)
    have hl := rv.length
    exact list_end q (fun x1 e z => hn x1 e (by rw [z]; simp)) st p.isList (by simp; omega) fun h1 eb => ⟨rfl, I.turned (t' := s.toks) eb f.1 f.2.1 f.2.2.2.1 f.2.2.2.2.1 f.2.2.2.2.2⟩
theorem walk_tuple {P : Program} {w : World} {K : PySem.W.Frag} {tg : Expr} (a it : Addr) : Walk P w K tg (Itt K a) [it] it (fun i h => h.IsTupleIter it a i) where
  mem := (turn_tuple (P := P) (w := w) (K := K) (tg := tg) a it).mem
  there := (turn_tuple (P := P) (w := w) (K := K) (tg := tg) a it).obj
  stay := (turn_tuple (P := P) (w := w) (K := K) (tg := tg) a it).keep
  self := (turn_tuple (P := P) (w := w) (K := K) (tg := tg) a it).self
  next := fun X hP hw hK i pins s σ H E I hf st ⟨xs, x, hq, hx⟩ => by
    subst hP hw hK
    obtain ⟨its, rv, p, _⟩ := I.tuple hq
    obtain ⟨u, hu, ru⟩ := rv.get hx
    have f := hf it (by simp)
    refine wpAny_pyNext_tuple_item st (show s.heap.IsTuple a its.toArray from p) (x := u) (by simpa using hu) fun h1 st1 sb => ?_
    obtain ⟨o, e, c, d⟩ := id st1
    refine ⟨u, rfl, go_of (s := { s with heap := h1 }) e c d (by decide) ⟨x, H, ?_, ru, ⟨rfl, fun ys hy => by rw [I.tuple_inj hy hq]; exact hx⟩, st1, fun b hb => (hf b hb).1⟩⟩
    exact I.turned (t' := s.toks) (fun b ob hb z => (sb.2 b hb).trans z) f.1 f.2.1 f.2.2.2.1 f.2.2.2.2.1 f.2.2.2.2.2
  last := fun X hP hw hK i pins s σ H E I hf q hn st ⟨xs, hq, hx⟩ => by
    subst hP hw hK
    obtain ⟨its, rv, p, _⟩ := I.tuple hq
    have f := hf it (by simp)
    have hl := rv.length
    exact tuple_end q (fun x1 e z => hn x1 e (by rw [z]; simp)) st (show s.heap.IsTuple a its.toArray from p) (by simp; omega) fun h1 eb => ⟨rfl, I.turned (t' := s.toks) eb f.1 f.2.1 f.2.2.2.1 f.2.2.2.2.1 f.2.2.2.2.2⟩
def WIE (X : Cx) (pins : List (Addr × Obj)) (σ : L2.St) (tg : Expr) (R : It → Hp → Prop) (itv : Value) (s2 : Shared) : Prop :=
  ∃ (it : Addr) (fp : List Addr) (tn : Nat → Heap → Prop) (J : It) (H' : Hp), itv = .ref it ∧ Inv X pins σ H' s2 ∧ Walk X.prog X.w X.K tg J fp it tn ∧ tn 0 s2.heap ∧ (∀ b ∈ fp, FpOk X pins H' b) ∧ R J H'
structure WI (X : Cx) (tg iter : Expr) (wi : TI) : Prop where
  run : ∀ (pins : List (Addr × Obj)) (s : Shared) (σ : L2.St) (H : Hp) (R : It → Hp → Prop), Inv X pins σ H s → wi σ H R →
    wpAny (model X.prog X.w) X.A (eval iter X.env) (fun v s1 => wpAny (model X.prog X.w) X.A (pyIter v) (WIE X pins σ tg R) X.xe s1) X.xe s
/-- a block's context that keeps the handled exception -/
abbrev pinB (p : Addr × Obj) (Y : Cx) : Cx := Y.tr [p] fun _ _ => False
section
variable {X : Cx}
theorem pe_lcQ {elt tg iter : Expr} {ifs : List Expr} {scope : Scope} {own : List (Str × Nat)} {pos : Pos} {wi : TI} {g : TG} {tt : TT} {te : TE} {p : Addr × Obj} (hot : L2H.Hot1 X.A p) (hp : p ∈ X.pn) (hN : X.N.Nodup) (hi : WI X tg iter wi) (ok : BlkOk X.N X.env.scope scope own)
    (hg : ∀ (s : Shared) (H : Hp) (C : Addr) (cl : List (Str × Addr)) (fp : List Addr), PG (pinB p (X.blk s H scope (compEnvC scope cl C X.env) fp)) tg g)
    (ht : ∀ (s : Shared) (H : Hp) (C : Addr) (cl : List (Str × Addr)) (fp : List Addr), PTs (pinB p (X.blk s H scope (compEnvC scope cl C X.env) fp)) ifs tt)
    (he : ∀ (s : Shared) (H : Hp) (C : Addr) (cl : List (Str × Addr)) (fp : List Addr), PE (pinB p (X.blk s H scope (compEnvC scope cl C X.env) fp)) elt te)
    (hs : ∀ x, foldedSetIterable iter X.env x = pure x := by intro _; rfl) : PE X (.ListComp elt [⟨tg, iter, ifs, 0⟩] scope pos) (tLc wi g tt te (own.map (·.2))) := by
  refine ⟨fun pins s0 σ0 H0 Q0 J0 rd => ?_⟩
  rw [eval_ListComp]
  have clo : ∀ y ∈ scope.names, y.2 = .free → ∃ c, X.env.cells.lookup y.1 = some c := fun y hy e => J0.ok.has _ (by
    rcases ok.free y hy e with k | k
    · exact .inl k
    · exact .inr k)
  refine wpAny_comprehension_free (use := none) rfl hs (closure_ok clo) ok.kind (fun y hy e => by rw [ok.uniq y hy, e]) (thn (hi.run pins s0 σ0 H0 _ J0 rd) fun xv sa hx => thn hx fun itv sb hb => ?_)
  obtain ⟨it, fp, tn, J, Hb, e, Jb, Wk, stb, fb, q⟩ := hb
  subst e
  refine wpAny_newObj_type (newEnv_comp ?_) (by show 0 ≤ sizeLine; decide)
  -- Z: where the new list lies
  generalize hZ : sb.heap.objs.size = Z
  have HbZ : Hb Z = none := Jb.hok.fresh (Nat.le_of_eq hZ)
  obtain ⟨W, ⟨m0, w0⟩, turn⟩ := q Z HbZ
  generalize hsc : ({ sb with heap := sb.heap.push { cls := .type "list", data := .seq ([] : List Value).toArray } } : Shared) = sc
  have hph : sc.heap = sb.heap.push { cls := .type "list", data := .seq ([] : List Value).toArray } := by rw [← hsc]
  have Jc : Inv X pins σ0 (upd Hb Z (.lst [])) sc := by
    rw [← hsc]
    refine Jb.laid (t' := sb.toks) (fun b o z => Heap.get?_push_of_some _ z) (Nat.le_of_eq hZ) ⟨Nat.zero_le _, [], 0, .nil, ?_⟩
    rw [← hZ]
    exact Heap.get?_push_size _ rfl
  have small : ∀ b ∈ fp, b < sb.heap.objs.size := fun b hb => let ⟨o, z, _⟩ := Wk.there _ _ stb b hb; Heap.lt_size z
  generalize hHc : upd Hb Z (.lst []) = Hc at Jc w0
  have fc : ∀ b ∈ fp, FpOk X pins Hc b ∧ b < sc.heap.objs.size := fun b hb => ⟨⟨by rw [← hHc, upd_ne (by rw [← hZ]; exact Nat.ne_of_lt (small b hb))]; exact (fb b hb).1, (fb b hb).2⟩, by rw [hph, Heap.size_push]; exact Nat.lt_succ_of_lt (small b hb)⟩
  have stc : tn 0 sc.heap := Wk.stay _ _ _ stb fun b _ o z => by rw [hph]; exact Heap.get?_push_of_some _ z
  have pc := Jc.pin p (List.mem_append_left _ hp)
  have bs0 := block_start Jc ok hN fc
  generalize hcl : cellsFrom (sc.heap.objs.size + 1) scope.names (cloFrom X.env.cells scope.names []) = cl at bs0
  have pg := hg sc Hc sc.heap.objs.size cl fp
  have pt := ht sc Hc sc.heap.objs.size cl fp
  have pe := he sc Hc sc.heap.objs.size cl fp
  have key : ∀ ce : Env, ce = compEnvC scope cl sc.heap.objs.size X.env → codeAny (model X.prog X.w) X.A (.compStart (.ListComp elt [⟨tg, iter, ifs, 0⟩] scope pos) 0 (.ref it) (.ref Z) ce)
      (compPost (model X.prog X.w) X.A X.xe none (EP X pins σ0 Q0) (.ref Z) sc.heap.objs.size) { sc with heap := pushCells (sc.heap.push { cls := .type "dict", data := .dict #[] }) scope.names } := by
    intro ce hce
    rw [← hce] at bs0 pg pt pe
    have cL : ce.locals = sc.heap.objs.size := by rw [hce]; rfl
    generalize hsd : ({ sc with heap := pushCells (sc.heap.push { cls := .type "dict", data := .dict #[] }) scope.names } : Shared) = sd at bs0
    have kd : ∀ b o, sc.heap.get? b = some o → sd.heap.get? b = some o := fun b o z => by rw [← hsd]; exact pushCells_keeps _ _ _ _ (Heap.get?_push_of_some _ z)
    -- the exception lies apart of the block
    have pd : sd.heap.get? p.1 = some p.2 ∧ Hc p.1 = none ∧ p.1 ≠ ce.locals ∧ p.1 ∉ frs X.stack ∧ ∀ v, p.2.data ≠ .cell v := ⟨kd _ _ pc.1, pc.2.1, by rw [cL]; exact Nat.ne_of_lt (Heap.lt_size pc.1), fun z => (List.mem_cons.mp (Jc.stkSub p.1 z)).elim pc.2.2.1 pc.2.2.2.1, pc.2.2.2.2⟩
    have Jd : Inv (pinB p (X.blk sc Hc scope ce fp)) [] (wipe σ0 (own.map (·.2))) Hc sd := by
      have z : Inv (X.blk sc Hc scope ce fp) [p] (wipe σ0 (own.map (·.2))) Hc sd := bs0.pins_of fun q hq => by
        have e : q = p := by simpa using hq
        rw [e]
        exact pd
      exact z.toTry _
    have std : tn 0 sd.heap := Wk.stay _ _ _ stc fun b _ o z => kd b o z
    have nfp : p.1 ∉ fp := fun z => (fc p.1 z).1.2.2.2.2.2 p (List.mem_append_left _ hp) rfl
    -- what the walk asks of the state
    have isF : ∀ {H' : Hp} {σ' : L2.St} {s' : Shared}, Inv (pinB p (X.blk sc Hc scope ce fp)) [] σ' H' s' → (∀ b ∈ fp, H' b = none) → ∀ b ∈ fp, FpOk (pinB p (X.blk sc Hc scope ce fp)) [] H' b := fun {H' σ' s'} I' hn b hb =>
      ⟨hn b hb, (I'.ok.exf b hb).1, I'.ok.exfs b hb, .inl hb, fun x c z => (I'.ok.exf b hb).2 x c z, fun q hq => by
        have e : q = p := by simpa using hq
        rw [e]
        exact fun z => nfp (by rw [z]; exact hb)⟩
    have isQ : ∀ {H' : Hp} {σ' : L2.St} {s' : Shared}, Inv (pinB p (X.blk sc Hc scope ce fp)) [] σ' H' s' → Quiet X.A s'.heap := fun {H' σ' s'} I' => by
      obtain ⟨hh, vs, d, c⟩ := hot
      exact .inr ⟨p.1, hh, p.2, vs, (I'.pin p (List.mem_append_left _ (List.mem_singleton.mpr rfl))).1, d, c⟩
    have apart : ∀ x1, X.A.handled = some (.ref x1) → x1 ∉ fp := fun x1 e => by
      rw [hot.1] at e
      cases e
      exact nfp
    have go : codeAny (model X.prog X.w) X.A (.compLoop (.ListComp elt [⟨tg, iter, ifs, 0⟩] scope pos) 0 (.ref it) (.ref Z) ce) (compPost (model X.prog X.w) X.A X.xe none (EP X pins σ0 Q0) (.ref Z) sc.heap.objs.size) sd := by
      refine compLoop_any (fun n s' => ∃ i H', Inv (pinB p (X.blk sc Hc scope ce fp)) [] (wipe σ0 (own.map (·.2))) H' s' ∧ tn i s'.heap ∧ (∀ b ∈ fp, H' b = none) ∧ W i n H') ?_ m0 ⟨0, Hc, Jd, std, fun b hb => (fc b hb).1.1, w0⟩
      rintro n se ⟨i, He, Je, ste, ne, we⟩
      rcases turn i n He we with ⟨stop, fin⟩ | ⟨more, Nx, hNx, step⟩
      · refine thnF (Wk.last (pinB p (X.blk sc Hc scope ce fp)) rfl rfl rfl i [] se _ He (fun _ _ => False) Je (isF Je ne) (isQ Je) apart ste stop) fun r sf ⟨hr, Jf⟩ => ?_
        subst hr
        have fr : He sc.heap.objs.size = none := by
          have z := Jf.free
          have z' : He ce.locals = none := z
          rw [cL] at z'
          exact z'
        obtain ⟨m, hm, _⟩ := Jf.loc
        have hm' : sf.heap.Ns sc.heap.objs.size m := by rw [← cL]; exact hm
        have Jg : Inv X pins σ0 He sf := Jc.call' (ch := fp) Jf.os Jf.base Jf.hok Jf.bare fun b hb => let z := (fc b hb).1.2; ⟨z.2.2.1, z.1, z.2.2.2.1, z.2.2.2.2⟩
        have fC := Jc.fpOk (H' := He) (Nat.le_refl _) fr
        exact ⟨m, hm', fun h'' sbC => ⟨.ref Z, He, Jg.turned (t' := sf.toks) (fun b o hb z => (sbC.2 b hb).trans z) fC.1 fC.2.1 fC.2.2.2.1 fC.2.2.2.2.1 fC.2.2.2.2.2, rfl, fin⟩⟩
      · refine thnF (Wk.next (pinB p (X.blk sc Hc scope ce fp)) rfl rfl rfl i [] se _ He (fun _ _ => False) Je (isF Je ne) ste more) fun r sf ⟨u, hr, hu⟩ => ?_
        subst hr
        refine thnF hu fun _ sg ⟨x, Hg, Jg, rg, yg, stg, ng⟩ => ?_
        have Jg' := Jg.pinned (isF Jg ng) (Wk.there _ _ stg)
        refine thnF (pg.run _ sg _ Hg x u _ Jg' rg (step x Hg yg)) fun _ sh ⟨σh, Hh, Jh, hwh, qh⟩ => thnF (pt.run _ sh σh Hh _ Jh qh) fun b si ⟨Hi, Ji, qi⟩ => ?_
        have again : ∀ {s' : Shared} {H' : Hp}, Inv (pinB p (X.blk sc Hc scope ce fp)) ([] ++ pinsAt fp sg.heap) σh H' s' → Nx H' → ∃ m, m < n ∧ ∃ i H', Inv (pinB p (X.blk sc Hc scope ce fp)) [] (wipe σ0 (own.map (·.2))) H' s' ∧ tn i s'.heap ∧ (∀ b ∈ fp, H' b = none) ∧ W i m H' := fun {s' H'} I' nx => by
          obtain ⟨k, hk, w'⟩ := hNx H' nx
          have its : ∀ b ∈ fp, ∀ o, sg.heap.get? b = some o → s'.heap.get? b = some o ∧ H' b = none := fun b hb o z => (I'.pin (b, o) (List.mem_append_right _ (List.mem_append_right _ (mem_pinsAt hb z)))).imp id And.left
          refine ⟨k, hk, i + 1, H', (I'.unpinned (pins := [])).weak (by rw [← hwh, wipe_length]) (fun j v z => ?_), Wk.stay _ _ _ stg fun b hb o z => (its b hb o z).1, fun b hb => ?_, w'⟩
          · rw [← hwh] at z
            exact (wipe_some z).1
          · obtain ⟨o, z, _⟩ := Wk.there _ _ stg b hb
            exact (its b hb o z).2
        cases b with
        | false => exact again Ji qi
        | true =>
          refine thnF (pe.run _ si σh Hi _ Ji qi) fun z sj ⟨yv, Hj, Jj, rj, acc, hZj, hzj, nx⟩ => ?_
          exact app_ok (X := pinB p (X.blk sc Hc scope ce fp)) Jj hZj hzj rj fun sk Jk => again Jk nx
    exact codeAny_compStart_list go (Wk.self X.A 0 _ _ _ std go)
  exact key _ rfl
end
end TLK

set_option Elab.async false
set_option linter.all false
set_option maxRecDepth 100000
set_option maxHeartbeats 1000000
namespace TL
open PySem PySem.Spec PyProof.Rows L2

/-! ### defs that are called also while an exception is handled -/
structure FnB (P : Program) (w : World) (K : PySem.W.Frag) (mg : Str → Option Value) (base : Heap) (k : Nat) (f : Addr) (fd : FuncData) (ps : List Str) (sp : Sp) : Prop where
  ok : FnOk P w K mg base (L2N.CX P w) k f fd ps sp
  hot : L2H.FnH P w K mg base (L2N.CX P w) k f fd ps sp
def Amb (X : Cx) (k : Nat) : Prop := (X.calm = true ∧ Room k X.A) ∨ (L2H.HotC X ∧ L2H.RoomH k X.A)
def AmbAt (A : Around) (outer : List PySem.Env) (H : Hp) (s : Shared) (k : Nat) : Prop := Room k A ∨ ∃ p, L2H.Hot1 A p ∧ L2H.PinOk outer H s p ∧ L2H.RoomH k A
theorem Amb.mono {X : Cx} {j k : Nat} (a : Amb X k) (h : j ≤ k) : Amb X j := a.imp (fun z => ⟨z.1, z.2.mono h⟩) fun z => ⟨z.1, z.2.mono h⟩
theorem Amb.at {X : Cx} {k : Nat} {pins : List (Addr × Obj)} {σ : L2.St} {H : Hp} {s : Shared} (a : Amb X k) (I : L2.Inv X pins σ H s) : AmbAt X.A X.stack H s k := by
  rcases a with a | ⟨⟨p, hot, hp⟩, r⟩
  · exact .inl a.2
  · have z := I.pin p (List.mem_append_left _ hp)
    exact .inr ⟨p, hot, ⟨z.1, z.2.1, fun m => (List.mem_cons.mp (I.stkSub p.1 m)).elim z.2.2.1 z.2.2.2.1, z.2.2.2.2⟩, r⟩
theorem AmbAt.in1 {A : Around} {outer : List PySem.Env} {H : Hp} {s : Shared} {k t : Nat} (a : AmbAt A outer H s (k + 1)) : AmbAt A.in1 outer H { s with toks := t } k := by
  rcases a with a | ⟨p, hot, po, r⟩
  · exact .inl a.in1
  · refine .inr ⟨p, hot, ⟨po.get, po.free, po.nofs, po.nocell⟩, ⟨?_, ?_⟩⟩
    · have := r.dp
      show A.depth + 3 * k + 5 < _
      omega
    · have := r.un
      show A.units + 1 + 16 * k + 200 < _
      omega
section
variable {P : Program} {w : World} {K : PySem.W.Frag} {mg : Str → Option Value} {base : Heap} {k : Nat} {f : Addr} {fd : FuncData} {ps : List Str} {sp : Sp}
theorem FnB.len (F : FnB P w K mg base k f fd ps sp) : ∀ vs H Q E, sp vs H Q E → vs.length = ps.length := F.ok.len
theorem FnB.run (F : FnB P w K mg base k f fd ps sp) {A : Around} {outer : List PySem.Env} {s : Shared} {H : Hp} {args : Args} {us : List Value} {vs : List V} {Q : VK} {E : XK} (a : AmbAt A outer H s k) (e0 : Env0 P w K mg base A outer s H) (b : BindsTo s fd args (ps.zip us)) (r : Vals vs us) (h : sp vs H Q E) :
    codeAny (model P w) A (.call (.ref f) args) (CR (L2N.CX P w) outer P w H s Q E) s := by
  rcases a with a | ⟨p, hot, po, rm⟩
  · exact F.ok.run A outer s H args us vs Q E a e0 b r h
  · exact F.hot.run A outer s H args us vs Q E p rm hot po e0 b r h
end
section
variable {X : Cx} {k : Nat} {f C : Addr} {fd : FuncData} {ps : List Str} {sp : Sp} {dvs : List V} {ds : List Value} {E : L2.St → XK} {x m : Str} {p pos apos : Pos} {e o : Expr} {es : List Expr} {ta : TE} {t : TA}
theorem run_B {pins : List (Addr × Obj)} {σ : L2.St} {H : Hp} {s : Shared} {Q : VK} {us : List Value} {vs : List V} (F : FnB X.prog X.w X.K X.mg X.base k f fd ps sp) (a : Amb X k) (hb : Binds X.K fd ps ds) (hd : Vals dvs ds) (hx : PassesAt (L2N.CX X.prog X.w) X σ (E σ))
    (I : L2.Inv X pins σ H s) (r : Vals vs us) (h : sp (vs ++ dvs) H Q (E σ)) : wpAny (model X.prog X.w) X.A (call (.ref f) us) (EP X pins σ Q) X.xe s := by
  have r2 := r.append hd
  refine wpAny_call (codeAny_mono (F.run (args := ⟨us, []⟩) (a.at I) I.env0 (hb s us I.kIn (by rw [← r2.length]; exact F.len _ _ _ _ h)) r2 h) fun z s' hq => ?_)
  cases z with
  | error er => exact hx pins H s er s' I hq
  | ok fl =>
    cases fl with
    | ret u => exact I.after hq
    | next => exact hq.elim
    | brk => exact hq.elim
    | cont => exact hq.elim
theorem pe_callB (F : FnB X.prog X.w X.K X.mg X.base k f fd ps sp) (a : Amb X k) (hg : Gl X x) (hm : X.mg x = some (.ref f)) (hk : PySem.W.keepIn X.K (.ref f) = true) (hb : Binds X.K fd ps ds) (hd : Vals dvs ds) (hx : ∀ σ, PassesAt (L2N.CX X.prog X.w) X σ (E σ))
    (ha : PA X (e :: es) t) (hdb : (x == ("__debug__" : Str)) = false := by decide) (he : starEach (e :: es) X.env = (false, eval e X.env) :: starEach es X.env := by rfl) (hpl : (backTo pos (starEach es X.env)).any (·.1) = false := by rfl) :
    PE X (.Call (.Name x p) (e :: es) [] pos) (tCallSD sp dvs E t) :=
  ⟨fun pins s σ H Q I h => wpAny_Call_Name_kw (ld_glob I hg hm (PySem.W.callWith_K (h₀ := X.base) I.ok.mod.kin hk (thn (ha.run pos pins s σ H _ I h) fun us s1 ⟨vs, H1, I1, r, q⟩ => ⟨I1.kIn, run_B F a hb hd (hx σ) I1 r q⟩) he hpl) hdb)⟩
theorem pe_methB0 {pl : Sem Bool} (he : PE X o ta) (c : Cls X.K C) (hm : Meth X.K C m f) (F : FnB X.prog X.w X.K X.mg X.base k f fd ps sp) (am : Amb X k) (hb : Binds X.K fd ps ds) (hd : Vals dvs ds) (hx : ∀ σ, PassesAt (L2N.CX X.prog X.w) X σ (E σ))
    (ht : eval (.Call (.Attribute o m apos) [] [] pos) X.env = (do
      let ov ← eval o X.env
      standAt apos.atName
      let (f, first) ← holding [ov] (getMethod ov m pl)
      callWith pos f first (backTo pos (starEach [] X.env)) (backToKw pos (keywordEach [] X.env))) := by rfl) :
    PE X (.Call (.Attribute o m apos) [] [] pos) (tMethSD C m sp dvs E ta tNil) :=
  ⟨fun pins s σ H Q I h => PySem.W.methodCall_KW (pl := pl) (thn (he.run pins s σ H _ I h) fun u s1 ⟨x, H1, I1, rx, a, dx, fs, ex, ea, l, q⟩ => by
    subst ex
    obtain rfl : u = Value.ref a := rx
    exact getmeth_ok I1 ea c hm l (PySem.W.callWith_K0 (first := [.ref a]) I1.kIn hm.kp (run_B (us := [.ref a]) (vs := [.ref a]) F am hb hd (hx σ) I1 (.cons rfl .nil) q))) ht⟩
theorem pe_propB {ad g : Addr} {E1 : XK} (he : PE X e ta) (c : Cls X.K C) (hp : PropOf X.K C m ad g) (F : FnB X.prog X.w X.K X.mg X.base k g fd ps sp) (am : Amb X (k + 1)) (hb : Binds X.K fd ps ds) (hd : Vals dvs ds) (hx : Passes (L2N.CX X.prog X.w) X.nox E1)
    (hab : attributeBase e m X.env (eval e X.env) = eval e X.env) : PE X (.Attribute e m pos) (tProp C sp dvs E1 ta) := by
  refine ⟨fun pins s0 σ H Q J h => attr_of hab (thn (he.run pins s0 σ H _ J h) fun u s ⟨x, H1, I, rx, a, dx, fs, ex, ea, q⟩ => ?_)⟩
  subst ex
  obtain rfl : u = Value.ref a := rx
  obtain ⟨mA, O, _⟩ := ins_get I.hok ea
  obtain ⟨od, K1, _⟩ := O.look
  obtain ⟨rest, hrec⟩ := hp.rec_
  have I1 := I.tok (s.toks + 1)
  have isC : (PySem.W.clsIn X.K C).isSome = true := let ⟨cd, z, _⟩ := PySem.W.any_some c.hd; by rw [z]; rfl
  have pl := PySem.W.plainGet_of (c.get m)
  have r2 : Vals (V.ref a :: dvs) (Value.ref a :: ds) := .cons rfl hd
  refine PySem.W.get_bind I.kIn K1 pl.1 (PySem.W.findObj_data isC hp.at_ hp.get hp.tak) pl.2 (wpAny_call (PySem.W.prop_get (s := { s with toks := s.toks + 1 }) I.kIn hrec ?_))
  refine codeAny_mono (F.run (args := ⟨[.ref a], []⟩) (am.at I).in1 I1.env0.in1 (hb _ [.ref a] I1.kIn (by show (Value.ref a :: ds).length = _; rw [← r2.length]; exact F.len _ _ _ _ q)) r2 q) fun z s' hq => ?_
  cases z with
  | error er => exact (hx pins σ _ _ er s' (I1.wish _) hq).elim
  | ok fl =>
    cases fl with
    | ret u =>
      obtain ⟨v, H', I3, rv, q3⟩ := I1.after hq
      show wpAny _ _ (handedOut u) _ _ _
      rw [PySem.W.handedOut_of (handed_of rv)]
      exact wpAny_pure ⟨v, H', I3, rv, q3⟩
    | next => exact hq.elim
    | brk => exact hq.elim
    | cont => exact hq.elim
end

/-! ### in terms of trees -/
structure CalB (X : Cx) (lv : Nat) (x : Str) (dvs : List V) (sp : Sp) : Prop where
  ex : ∃ (f : Addr) (fd : FuncData) (ps : List Str) (ds : List Value), X.mg x = some (.ref f) ∧ PySem.W.keepIn X.K (.ref f) = true ∧ Binds X.K fd ps ds ∧ Vals dvs ds ∧ FnB X.prog X.w X.K X.mg X.base lv f fd ps sp
structure MetB (X : Cx) (T : Tb) (lv : Nat) (c : Nat) (m : Str) (dvs : List V) (sp : Sp) : Prop where
  ex : ∃ (f : Addr) (fd : FuncData) (ps : List Str) (ds : List Value), Meth X.K (T.cl c) m f ∧ Binds X.K fd ps ds ∧ Vals dvs ds ∧ FnB X.prog X.w X.K X.mg X.base lv f fd ps sp
  no : m ∉ T.fl c
structure PrpB (X : Cx) (T : Tb) (lv : Nat) (c : Nat) (f : Str) (sp : Sp) : Prop where
  ex : ∃ (q g : Addr) (fd : FuncData) (ps : List Str), PropOf X.K (T.cl c) f q g ∧ Binds X.K fd ps [] ∧ FnB X.prog X.w X.K X.mg X.base lv g fd ps sp
section
variable {X : Cx} {T : Tb} {ms : List Mode} {W : WX} {e o : Expr} {es : List Expr} {pos p apos : Pos} {ga g : G} {gs : GA} {k : Mode} {x m f : Str} {lv c : Nat} {dds : List D} {dvs : List V}
theorem se_callQ {cnt : Nat} (hF : CalB X lv x dvs (spS T [] (cnt + dds.length) g)) (a : Amb X lv) (tk : L2N.Takes X W) (hg : Gl X x) (hd : ∀ F, RepL T F dds dvs) (ha : SA X T W ms (e :: es) gs) (hc : Cnt gs cnt) (hdb : (x == ("__debug__" : Str)) = false := by decide)
    (he : starEach (e :: es) X.env = (false, eval e X.env) :: starEach es X.env := by rfl) (hpl : (backTo pos (starEach es X.env)).any (·.1) = false := by rfl) : SE X T W ms (.Call (.Name x p) (e :: es) [] pos) (gCall g dds gs) := by
  obtain ⟨f, fd, ps, ds, h1, h2, h3, h4, h5⟩ := hF.ex
  exact PE.imp (pe_callB (E := WE W) h5 a hg h1 h2 h3 h4 (fun σ => L2N.passAt tk σ) ha hdb he hpl) fun _ _ _ w => out_call hd (hc.app dds) w
theorem sp_callQ {cnt : Nat} (hF : CalB X lv x dvs (spP T [] (cnt + dds.length) k g)) (a : Amb X lv) (tk : L2N.Takes X W) (hg : Gl X x) (hd : ∀ F, RepL T F dds dvs) (ha : SA X T W ms (e :: es) gs) (hc : Cnt gs cnt) (hdb : (x == ("__debug__" : Str)) = false := by decide)
    (he : starEach (e :: es) X.env = (false, eval e X.env) :: starEach es X.env := by rfl) (hpl : (backTo pos (starEach es X.env)).any (·.1) = false := by rfl) : SP' X T W ms k (.Call (.Name x p) (e :: es) [] pos) (gCall g dds gs) := by
  obtain ⟨f, fd, ps, ds, h1, h2, h3, h4, h5⟩ := hF.ex
  exact PE.imp (pe_callB (E := WE W) h5 a hg h1 h2 h3 h4 (fun σ => L2N.passAt tk σ) ha hdb he hpl) fun _ _ _ w => out_callP hd (hc.app dds) w
theorem se_methQ0 {pl : Sem Bool} (cd : ClsD X T c) (hF : MetB X T lv c m dvs (spS T [] (0 + dds.length + 1) g)) (a : Amb X lv) (tk : L2N.Takes X W) (hd : ∀ F, RepL T F dds dvs) (ho : SE X T W ms o ga)
    (ht : eval (.Call (.Attribute o m apos) [] [] pos) X.env = (do
      let ov ← eval o X.env
      standAt apos.atName
      let (f, first) ← holding [ov] (getMethod ov m pl)
      callWith pos f first (backTo pos (starEach [] X.env)) (backToKw pos (keywordEach [] X.env))) := by rfl) :
    SE X T W ms (.Call (.Attribute o m apos) [] [] pos) (gMeth c g dds ga gNil) := by
  obtain ⟨f, fd, ps, ds, h1, h2, h3, h4⟩ := hF.ex
  exact PE.imp (pe_methB0 (E := WE W) ho cd.cls h1 h4 a h2 h3 (fun σ => L2N.passAt tk σ) ht) fun _ _ _ w => tMethSD_mono (out_meth hF.no hd cnt_nil w) fun _ _ z => tA_nil z
theorem out_prp {σ : L2.St} {H : Hp} {Q : VK} (r : tS T W ms (gPrp c g ga) σ H Q) : tProp (T.cl c) (spS T [] 1 g) [] E0 (tS T W ms ga) σ H Q := by
  obtain ⟨F, env, fp, gd, w⟩ := r
  refine ⟨F, env, fp, gd, Out.bind w fun env1 d H1 F1 fp1 v g1 r1 o1 => ?_⟩
  cases d with
  | obj c' fs =>
    simp only at o1
    split at o1
    · rename_i hc
      subst hc
      have r1' := r1
      unfold Rep at r1'
      obtain ⟨a, dx, vs, e1, qa, l, r⟩ := r1'
      cases hd : ans (g [some (.obj c' fs)]) with
      | none => rw [hd] at o1; exact o1.elim
      | some d =>
        rw [hd] at o1
        refine ⟨a, dx, _, e1, g1.sub _ _ qa, ?_⟩
        subst e1
        exact spS_nox (ds := [.obj c' fs]) g1.sub (RepL.one r1) rfl hd fun H' F' v e rv => Out.fin o1 g1 e rv
    · exact o1.elim
  | _ => exact o1.elim
theorem se_prpQ (cd : ClsD X T c) (hF : PrpB X T lv c f (spS T [] 1 g)) (a : Amb X (lv + 1)) (ha : SE X T W ms o ga) (hab : attributeBase o f X.env (eval o X.env) = eval o X.env := by rfl) : SE X T W ms (.Attribute o f pos) (gPrp c g ga) := by
  obtain ⟨q, ad, fd, ps, h1, h2, h3⟩ := hF.ex
  exact PE.imp (pe_propB (E1 := E0) (dvs := []) ha cd.cls h1 h3 a h2 .nil passN hab) fun σ H Q r => out_prp r
/-- a walk over a list or a tuple -/
abbrev SIQ (X : Cx) (T : Tb) (W : WX) (ms : List Mode) (tg iter : Expr) (g : GI) : Prop := TLK.WI X tg iter (tI T W ms g)
theorem wi_seq {tg l : Expr} {tl : TE} (hl : PE X l tl) : TLK.WI X tg l (iSeq X.K tl) := by
  refine ⟨fun pins s0 σ H R J h => thn (hl.run pins s0 σ H _ J h) fun v s ⟨x, H1, I, r1, a, e, q⟩ => ?_⟩
  subst e
  cases r1
  have fr : ∀ b ∈ [s.heap.objs.size], FpOk X pins H1 b := fun b hb => by
    have e : b = s.heap.objs.size := by simpa using hb
    subst e
    exact I.fpOk (Nat.le_refl _) (I.hok.fresh (Nat.le_refl _))
  rcases q with ⟨⟨xs, hq⟩, q⟩ | ⟨⟨xs, hq⟩, q⟩
  · obtain ⟨its, _, pl, _⟩ := I.list hq
    exact wpAny_pyIter_list pl.isList ⟨_, _, _, _, H1, rfl, I.kept (t' := s.toks) fun b o z => Heap.get?_push_of_some _ z, TLK.walk_list a _, ⟨_, Heap.get?_push_size _ rfl, rfl, rfl⟩, fr, q⟩
  · obtain ⟨its, _, pl, _⟩ := I.tuple hq
    exact wpAny_pyIter_tuple (show s.heap.IsTuple a its.toArray from pl) ⟨_, _, _, _, H1, rfl, I.kept (t' := s.toks) fun b o z => Heap.get?_push_of_some _ z, TLK.walk_tuple a _, ⟨_, Heap.get?_push_size _ rfl, rfl, rfl⟩, fr, q⟩
end
end TL

set_option Elab.async false
set_option linter.all false
set_option maxRecDepth 100000
set_option maxHeartbeats 1000000
namespace TL
open PySem PySem.Spec PyProof.Rows L2

section
variable {X : Cx} {T : Tb} {ms : List Mode} {W : WX} {e tg iter : Expr} {pos : Pos} {ga g : G} {k : Mode} {lv : Nat}
theorem seq_read (hK : T.K = X.K) {σ : L2.St} {H : Hp} {R : It → Hp → Prop} (w : tI T W ms (gSeqI g) σ H R) : iSeq X.K (tS T W ms g) σ H R := by
  obtain ⟨F, env, fp, gd, o⟩ := w
  refine ⟨F, env, fp, gd, OutI.bind o fun env1 d H1 F1 fp1 v g1 r1 o1 => ?_⟩
  cases d with
  | lst ds =>
    unfold Rep at r1
    obtain ⟨a, vs, e, sq, rl⟩ := r1
    refine ⟨a, e, .inl ⟨⟨vs, by rw [← hK]; exact g1.sub.seq (.inl (.inl sq))⟩, ?_⟩⟩
    rw [← hK]
    exact o1 H1 F1 fp1 _ Step.refl g1 (itd_list (.inl (.inl sq)) rl)
  | tup ds =>
    unfold Rep at r1
    obtain ⟨a, vs, e, sq, rl⟩ := r1
    refine ⟨a, e, .inr ⟨⟨vs, by rw [← hK]; exact sqT_mono g1.sub sq⟩, ?_⟩⟩
    rw [← hK]
    exact o1 H1 F1 fp1 _ Step.refl g1 (itd_tup sq rl)
  | _ => exact o1.elim
theorem TLK.WI.imp {t u : TI} (h : TLK.WI X tg iter t) (i : ∀ σ H R, u σ H R → t σ H R) : TLK.WI X tg iter u := ⟨fun pins s σ H R I q => h.run pins s σ H R I (i σ H R q)⟩
structure SIB (X : Cx) (T : Tb) (W : WX) (ms : List Mode) (tg iter : Expr) (g : GI) : Prop where
  ok : SI X T W ms tg iter g
  hot : SIQ X T W ms tg iter g
theorem sib_seq (hK : T.K = X.K) (h : SE X T W ms iter g) : SIB X T W ms tg iter (gSeqI g) := ⟨si_seq hK h, TLK.WI.imp (wi_seq h) fun _ _ _ w => seq_read hK w⟩
/-- a block's context -/
abbrev blkB (X : Cx) (s : Shared) (H : Hp) (scope : Scope) (ce : PySem.Env) (fp : List Addr) (pn : List (Addr × Obj)) : Cx := (X.blk s H scope ce fp).tr pn fun _ _ => False
theorem sp_lcB {elt : Expr} {ifs : List Expr} {scope : Scope} {own : List (Str × Nat)} {t : Tg} {tgl : TG} {gi : GI} {gt : GT} {ge : G} (am : Amb X lv) (hN : X.N.Nodup) (hi : SIB X T W ms tg iter gi) (ok : BlkOk X.N X.env.scope scope own) (htg : TgOk T ms t tgl)
    (parts : ∀ (s : Shared) (H : Hp) (C : Addr) (cl : List (Str × Addr)) (fp : List Addr) (pn : List (Addr × Obj)), Amb (blkB X s H scope (compEnvC scope cl C X.env) fp pn) lv →
      PG (blkB X s H scope (compEnvC scope cl C X.env) fp pn) tg tgl ∧ PTs (blkB X s H scope (compEnvC scope cl C X.env) fp pn) ifs (tT T W0 ms gt) ∧ SP' (blkB X s H scope (compEnvC scope cl C X.env) fp pn) T W0 ms k elt ge)
    (hm : ∀ i ∈ own.map (·.2), ms.getD i .sh = .sh) (hsl : ∀ i ∈ t.slots, i ∈ own.map (·.2)) (hs : ∀ x, foldedSetIterable iter X.env x = pure x := by intro _; rfl) :
    SP' X T W ms (.own k) (.ListComp elt [⟨tg, iter, ifs, 0⟩] scope pos) (gLc (own.map (·.2)) t gi gt ge) := by
  rcases am with ⟨hc, hr⟩ | ⟨⟨p, hot, hp⟩, hr⟩
  · have am1 : ∀ (s : Shared) (H : Hp) (C : Addr) (cl : List (Str × Addr)) (fp : List Addr), Amb (blkB X s H scope (compEnvC scope cl C X.env) fp []) lv := fun s H C cl fp => .inl ⟨hc, hr⟩
    exact PE.imp (pe_lc hc hN hi.ok ok (fun s H C cl fp => (parts s H C cl fp [] (am1 s H C cl fp)).1) (fun s H C cl fp => (parts s H C cl fp [] (am1 s H C cl fp)).2.1) (fun s H C cl fp => (parts s H C cl fp [] (am1 s H C cl fp)).2.2) hs) fun σ H Q rd => lc_read htg hm hsl rd
  · have am1 : ∀ (s : Shared) (H : Hp) (C : Addr) (cl : List (Str × Addr)) (fp : List Addr), Amb (blkB X s H scope (compEnvC scope cl C X.env) fp [p]) lv := fun s H C cl fp => .inr ⟨⟨p, hot, List.mem_singleton.mpr rfl⟩, hr⟩
    exact PE.imp (TLK.pe_lcQ hot hp hN hi.hot ok (fun s H C cl fp => (parts s H C cl fp [p] (am1 s H C cl fp)).1) (fun s H C cl fp => (parts s H C cl fp [p] (am1 s H C cl fp)).2.1) (fun s H C cl fp => (parts s H C cl fp [p] (am1 s H C cl fp)).2.2) hs) fun σ H Q rd => lc_read htg hm hsl rd
end

/-! ### a def's promise, in both ambiences -/
section
variable {P : Program} {w : World} {K : PySem.W.Frag} {mg : Str → Option Value} {base : Heap} {T : Tb}
abbrev cxB (P : Program) (w : World) (K : PySem.W.Frag) (mg : Str → Option Value) (base : Heap) (N : List Str) (qual : Str) (scope : Scope) (f : Addr) (cd : Value) (A : Around) (outer : List PySem.Env) (s : Shared) (H : Hp) (E : XK) (calm : Bool) (pn : List (Addr × Obj)) : Cx :=
  { cxOf (L2N.CX P w) P w K mg base N qual scope f cd A outer s H E with calm := calm, pn := pn }
theorem fun_tlB {x qual : Str} {st : Stmt} {f : Addr} {fd : FuncData} {N ps : List Str} {lv : Nat} (Fn : Fun K x qual st f fd) (S : FnScope N ps (defScope st)) (pm : List Mode) (hpm : pm.length ≤ ps.length) {ms' : List Mode} {g : GS} (hms' : pmOk pm ms' = true)
    (body : ∀ (cdv : Value) (A : Around) (outer : List PySem.Env) (s : Shared) (H : Hp) (E : XK) (vs : List V) (env0 : Env) (calm : Bool) (pn : List (Addr × Obj)), Amb (cxB P w K mg base N qual (defScope st) f cdv A outer s H E calm pn) lv → JOk (jOf T pm .sh E vs env0) →
      SB (cxB P w K mg base N qual (defScope st) f cdv A outer s H E calm pn) (jOf T pm .sh E vs env0) (padM pm N.length) (defBody st) ms' g) :
    FnB P w K mg base (lv + 1) f fd ps (spS T pm ps.length (gFun pm N.length g)) := by
  have jok : ∀ {E : XK} {vs : List V} {env0 : Env}, env0.length = vs.length → ps.length = vs.length → JOk (jOf T pm .sh E vs env0) := fun {E vs env0} hl hn => ⟨by simpa using hl, fun i hi => by
    rcases Nat.lt_or_ge i pm.length with z | z
    · show i < env0.length; omega
    · exact (hi (by simp [List.getD, List.getElem?_eq_none z])).elim⟩
  refine ⟨fun_tl Fn S pm hpm hms' fun cdv A outer s H E vs env0 hr jo => body cdv A outer s H E vs env0 true [] (.inl ⟨rfl, hr⟩) jo, ?_⟩
  obtain ⟨oc, od, kV, doc, pmm, an, cdv, ct, osl, rfl, lk, hcd⟩ := Fn.ex
  refine L2H.fn_ofH lk hcd S (fun vs H Q E h => h.1) fun A outer s H vs Q E p hot hr ⟨hn, F, env0, fp, gd, o⟩ => ?_
  have hl : env0.length = vs.length := by have := gd.len; simpa using this
  exact ⟨_, body cdv A outer s H E vs env0 false [p] (.inr ⟨⟨p, hot, List.mem_singleton.mpr rfl⟩, hr⟩) (jok hl hn.symm), F, _, fp, good_start gd, keep_start gd (by omega), fun_out hms' (by omega) gd rfl o⟩
end
end TL

set_option Elab.async false
set_option linter.all false
set_option maxRecDepth 100000
set_option maxHeartbeats 1000000
namespace TL
open PySem PySem.Spec PyProof.Rows L2

/-! ### raise -/
section
variable {X : Cx} {x fl : Str} {C fI : Addr} {e : Expr} {es : List Expr} {p pos : Pos} {ta : TA} {fd : FuncData} {ps : List Str} {lv : Nat}
theorem upd_del {H1 : Hp} {a d : Addr} {o1 o2 o3 o4 o5 : HO} (ha : H1 a = none) (hd : d ≠ a) : upd (del (upd (upd (upd H1 a o1) d o2) a o3) a) d o5 = upd H1 d o5 := by
  funext b
  by_cases hb : b = d
  · rw [hb, upd_same, upd_same]
  · rw [upd_ne hb, upd_ne hb]
    by_cases hc : b = a
    · rw [hc, del_same, ha]
    · rw [del_ne hc, upd_ne hc, upd_ne hb, upd_ne hc]
/-- C(y), where C's __init__ keeps y as the field fl -/
theorem pmk_ini (T : OexC X.K C) (iC : PySem.W.findIn X.K (.ref C) "__init__" = some (some (.ref fI))) (tI : PySem.W.typeIn X.K (.ref fI) = some (.type "function")) (hno : PySem.W.findIn X.K (.ref C) fl = some none) (F1 : FnOk X.prog X.w X.K X.mg X.base (L2N.CX X.prog X.w) lv fI fd ps (spIni X.K fl))
    (hr : Room (lv + 1) X.A) (hb : Binds X.K fd ps []) (hg : Gl X x) (hm : X.mg x = some (.ref C)) (ha : PA X (e :: es) ta) (hdb : (x == ("__debug__" : Str)) = false := by decide) (he : starEach (e :: es) X.env = (false, eval e X.env) :: starEach es X.env := by rfl)
    (hpl : (backTo pos (starEach es X.env)).any (·.1) = false := by rfl) :
    L2N.PMk X (.Call (.Name x p) (e :: es) [] pos) (fun σ H Q => ta σ H fun vs H1 => ∃ y, vs = [y] ∧ ∀ d, H1 d = none → Q (.ref C) (some d) (upd H1 d (.xd [(fl, y)]))) := by
  intro pins s0 σ H0 Q I0 rd
  obtain ⟨nm, qn, N, bs, bm, sn, sub, ab, col, dd, k0, k1, k2, k3, k5, hC, hbm⟩ := T.cls
  refine wpAny_Call_Name_kw (ld_glob I0 hg hm ?_ hdb)
  refine PySem.W.callWith_K (h₀ := X.base) I0.ok.mod.kin T.kC (thn (ha.run pos pins s0 σ H0 _ I0 rd) fun us s1 ⟨vs, H1, I, rv, y, ev, q⟩ => ⟨I.kIn, ?_⟩) he hpl
  subst ev
  cases rv with
  | @cons _ u _ ur ru rn =>
  cases rn
  show wpAny _ _ (call (.ref C) [u]) _ _ _
  obtain ⟨hp, g, dr, tk, os⟩ := s1
  have a1 : hp.objs.size ≤ hp.objs.size + 1 := Nat.le_succ _
  have na : H1 (hp.objs.size + 1) = none := I.hok.fresh a1
  have at_ : ((hp.push (PySem.W.kdv_tup [u])).push (PySem.HandSPX.excO C hp.objs.size)).get? (hp.objs.size + 1) = some (PySem.HandSPX.excO C hp.objs.size) := by heap_get
  have up : ∀ b o, hp.get? b = some o → ((hp.push (PySem.W.kdv_tup [u])).push (PySem.HandSPX.excO C hp.objs.size)).get? b = some o := fun b o z => Heap.get?_push_of_some _ (Heap.get?_push_of_some _ z)
  have J : Inv X pins σ (upd H1 (hp.objs.size + 1) (exo (hp.objs.size + 1) C none)) ⟨(hp.push (PySem.W.kdv_tup [u])).push (PySem.HandSPX.excO C hp.objs.size), g, dr, tk, os⟩ := I.laid (t' := tk) up a1 (exo_ok at_)
  have sp : spIni X.K fl [.ref (hp.objs.size + 1), y] (upd H1 (hp.objs.size + 1) (exo (hp.objs.size + 1) C none))
      (fun v H2 => v = .non ∧ ∃ (d : Addr) (fs : List (Str × V)), H2 (hp.objs.size + 1) = some (exo (hp.objs.size + 1) C (some d)) ∧ H2 d = some (exd d fs) ∧ H1 d = none ∧ Q (.ref C) (some d) (upd (del H2 (hp.objs.size + 1)) d (.xd fs))) (fun _ _ _ => False) := by
    refine ⟨_, C, y, rfl, T, hno, upd_same, fun d hd hne => ⟨rfl, d, [(fl, y)], upd_same, ?_, ?_, ?_⟩⟩
    · rw [upd_ne hne, upd_same]
    · rw [upd_ne hne] at hd; exact hd
    · rw [upd_del (o4 := .xd []) na hne]
      refine q d ?_
      rw [upd_ne hne] at hd; exact hd
  have rvs : Vals [V.ref (hp.objs.size + 1), y] [Value.ref (hp.objs.size + 1), u] := .cons rfl (.cons ru .nil)
  have bnd := hb _ [Value.ref (hp.objs.size + 1), u] J.kIn (by rw [List.append_nil, ← rvs.length]; exact F1.len _ _ _ _ sp)
  rw [List.append_nil] at bnd
  refine wpAny_call (PySem.HandSPX.call_own F.excBase_ValueError (fun Y => PySem.HandSPX.refsVE_contains Y bm hbm) (I.kIn _ _ hC) (PySem.W.looks_findIn I.kIn iC) (fun self => PySem.W.bind_fn I.kIn self tI) (by show 1 ≤ sizeLine; rw [sizeLine_eq]; omega)
    (codeAny_mono (F1.run _ X.stack _ _ ⟨[Value.ref (hp.objs.size + 1), u], []⟩ _ _ _ _ (hr.make C [u] []) (J.env0.make C [u] []) bnd rvs sp) fun r s' hq => ?_))
  cases r with
  | error er => exact passN pins σ _ _ er s' J hq
  | ok flw =>
    cases flw with
    | ret w' =>
      obtain ⟨v, H2, os2, bare2, un2, hok2, rv2, ev, d, fs, ea, ed, hd1, q2⟩ := hq
      subst ev
      obtain ⟨h2, g2, d2, t2, os'⟩ := s'
      obtain ⟨t0, G, JG, kG, ge, hoe, nae⟩ := mk_end0 (d2 := d2) (t2 := t2) I a1 up un2 hok2 os2 bare2 ea ed hd1
      refine ⟨rv2, hp.objs.size + 1, _, _, ⟨G, g2, d2, t2, os'⟩, _, .ref C, some d, rfl, JG, kG, ge, hoe, ⟨rfl, rfl, fun vs hv => ?_⟩, rfl, rfl, nae, rfl, bare2, raises_own T.exC T.tyC, q2⟩
      cases hv
      rfl
    | next => exact hq.elim
    | brk => exact hq.elim
    | cont => exact hq.elim
/-- C(), C without an own __init__ -/
theorem pmk_none {bmB : List Value} {B newId initId : String} (F : ExcBaseFacts B newId initId bmB) (q : PySem.W.excIn X.K C bmB newId = true) (gC : X.mg x = some (.ref C)) (kC : PySem.W.keepIn X.K (.ref C) = true) (r : Raises X (.ref C)) (hg : Gl X x)
    (hdb : (x == ("__debug__" : Str)) = false := by decide) : L2N.PMk X (.Call (.Name x p) [] [] pos) (fun _ H Q => Q (.ref C) none H) := fun pins s σ H Q I h => by
  refine wpAny_Call_Name_kw (ld_glob I hg gC (PySem.W.callWith_K0 I.kIn kC ?_) hdb)
  obtain ⟨_, _, _, _, _, _, _, _, _, _, _, _, _, _, _, _, mN, hC, hN, hni, T⟩ := exc_obj I.kIn q
  exact wpAny_call_exc_subT F T hC hN hni (fun h' a hm => L2N.mk_of I hm r h (I.hok.gone hm.new)) (by show 0 ≤ sizeLine; rw [sizeLine_eq]; omega)
end
def gRaise0 (c : Nat) : GS := fun env => .err env ⟨c, none⟩
def gRaise1 (c : Nat) (f : Str) (g : G) : GS := fun env => (g env).to fun env1 d => .err env1 ⟨c, some (f, d)⟩
/-- an exception class with one field: what the text tells of it -/
structure RaiD (X : Cx) (T : Tb) (lv : Nat) (x : Str) (c : Nat) (fl : Str) : Prop where
  ex : ∃ (fI : Addr) (fd : FuncData) (ps : List Str), OexC X.K (T.cl c) ∧ PySem.W.findIn X.K (.ref (T.cl c)) "__init__" = some (some (.ref fI)) ∧ PySem.W.typeIn X.K (.ref fI) = some (.type "function") ∧ PySem.W.findIn X.K (.ref (T.cl c)) fl = some none ∧
    FnOk X.prog X.w X.K X.mg X.base (L2N.CX X.prog X.w) lv fI fd ps (spIni X.K fl) ∧ Binds X.K fd ps [] ∧ X.mg x = some (.ref (T.cl c))
structure RaiN (X : Cx) (T : Tb) (x : Str) (c : Nat) : Prop where
  ex : ∃ (B newId initId : String) (bmB : List Value), ExcBaseFacts B newId initId bmB ∧ PySem.W.excIn X.K (T.cl c) bmB newId = true ∧ X.mg x = some (.ref (T.cl c)) ∧ PySem.W.keepIn X.K (.ref (T.cl c)) = true ∧ Raises X (.ref (T.cl c))
section
variable {X : Cx} {J : Jd} {ms ms' : List Mode} {x fl : Str} {c lv : Nat} {e : Expr} {p pos pos' : Pos} {g : G}
theorem ss_raise1 (hR : RaiD X J.T lv x c fl) (hr : Room (lv + 1) X.A) (hc : X.calm = true) (tk : L2N.Takes X J.W) (hg : Gl X x) (he : SE X J.T J.W ms e g) (hem : J.em ms) (hdb : (x == ("__debug__" : Str)) = false := by decide)
    (hst : starEach [e] X.env = [(false, eval e X.env)] := by rfl) : SS X J ms (.Raise (some (.Call (.Name x p) [e] [] pos')) none pos) ms' (gRaise1 c fl g) := by
  obtain ⟨fI, fd, ps, h1, h2, h3, h4, h5, h6, h7⟩ := hR.ex
  refine PS.imp (L2N.ps_raise hc tk (pmk_ini h1 h2 h3 h4 h5 hr h6 hg h7 (pa_cons he pa_nil hst) hdb hst rfl)) fun E σ H ⟨F, env, fp, gd, kp, o⟩ => ⟨F, env, fp, gd, SOut.exp hem kp o fun env1 d H1 F1 fp1 v g1 k1 r1 o1 => ⟨v, rfl, fun dx hdx => ?_⟩⟩
  have ext := Ext0.alloc (o := .xd [(fl, v)]) g1.sub hdx
  exact o1 σ ms _ _ fp1 _ _ hem (ext.step g1) (g1.ext ext) (k1.mono ext.grow) ⟨rfl, dx, v, rfl, upd_same, r1.mono ext.grow⟩
theorem ss_raise0 (hR : RaiN X J.T x c) (hc : X.calm = true) (tk : L2N.Takes X J.W) (hg : Gl X x) (hem : J.em ms) (hdb : (x == ("__debug__" : Str)) = false := by decide) :
    SS X J ms (.Raise (some (.Call (.Name x p) [] [] pos')) none pos) ms' (gRaise0 c) := by
  obtain ⟨B, n1, n2, bm, h1, h2, h3, h4, h5⟩ := hR.ex
  exact PS.imp (L2N.ps_raise hc tk (pmk_none h1 h2 h3 h4 h5 hg hdb)) fun E σ H ⟨F, env, fp, gd, kp, o⟩ => o σ ms H F fp _ _ hem Step.refl gd kp ⟨rfl, rfl⟩
end
end TL

set_option Elab.async false
set_option linter.all false
set_option maxRecDepth 100000
set_option maxHeartbeats 1000000
namespace TLK
open PySem PySem.Spec PyProof.Rows L2

/-! ### try with several clauses, each with or without a name -/
structure Cl where
  c : Value
  as : Option Nat
  ts : Addr → Value → Option Addr → TS
def clE (D : Ends) : Option Nat → Ends
  | none => D
  | some i => { nx := fun σ H => D.nx (σ.set i none) H, rt := D.rt, bk := fun σ H => D.bk (σ.set i none) H, ct := fun σ H => D.ct (σ.set i none) H }
def clS (a : Addr) (σ : L2.St) : Option Nat → L2.St
  | none => σ
  | some i => σ.set i (some (.ref a))
def wCl (K : PySem.W.Frag) (Wo : WX) (D : Ends) : List Cl → WX
  | [] => Wo
  | k :: r => fun cls d σ H => ∃ b, PySem.W.exmOne K cls k.c = some b ∧ (b = true → ∀ a, H a = none → k.ts a cls d (clE D k.as) (clS a σ k.as) H) ∧ (b = false → wCl K Wo D r cls d σ H)
def SuiteOk (X : Cx) (sts : List Stmt) (ts : Addr → Value → Option Addr → TS) : Prop :=
  ∀ (a : Addr) (oe : Obj) (cls : Value) (d : Option Addr) (pn : List (Addr × Obj)), L2N.Zn cls d oe → (∃ vs, oe.data = .fields vs) → PSs (X.suite a ((a, oe) :: pn)) sts (ts a cls d)
inductive Cls1 (X : Cx) : List ExceptHandler → List Cl → Prop
  | nil : Cls1 X [] []
  | bare {x : Str} {c : Value} {ts : Addr → Value → Option Addr → TS} {b : Stmt} {r : List Stmt} {np pos : Pos} {hds : List ExceptHandler} {l : List Cl} (hc : Names X x c) (hsu : SuiteOk X (b :: r) ts) (rest : Cls1 X hds l) :
      Cls1 X (.ExceptHandler (some (.Name x np)) none (b :: r) pos :: hds) (⟨c, none, ts⟩ :: l)
  | named {x n : Str} {c : Value} {i : Nat} {ts : Addr → Value → Option Addr → TS} {b : Stmt} {r : List Stmt} {np pos : Pos} {hds : List ExceptHandler} {l : List Cl} (hc : Names X x c) (hi : X.N[i]? = some n) (hl : X.env.kindOf n = some .local) (hsu : SuiteOk X (b :: r) ts) (rest : Cls1 X hds l) :
      Cls1 X (.ExceptHandler (some (.Name x np)) (some n) (b :: r) pos :: hds) (⟨c, some i, ts⟩ :: l)
section
variable {X : Cx} {body : List Stmt} {h₀ : ExceptHandler} {hds : List ExceptHandler} {l : List Cl} {pos : Pos} {tb : WX → TS} {Wo : WX}
theorem ps_tryN (hs : X.stack = X.env :: X.outer) (hf : X.env.frame = some X.env.locals) (hN : X.N.Nodup) (tk : L2N.Takes X Wo)
    (hb : ∀ (W : WX) (pn : List (Addr × Obj)) (xe : Value → Shared → Prop), L2N.Takes (X.tr pn xe) W → PassesOwn (model X.prog X.w) X.A X.env xe → PSs (X.tr pn xe) body (tb W))
    (hh : Cls1 X (h₀ :: hds) l) : PS X (.Try body (h₀ :: hds) [] [] pos) (fun D σ H => tb (wCl X.K Wo D l) D σ H) := by
  refine ⟨fun pins s σ H D I rd => wpAny_Try_except ?_⟩
  have ok := I.ok
  have hfr : X.A.frames = some (X.env :: X.outer) := by rw [ok.frames, hs]
  let xe : Value → Shared → Prop := fun e s₁ => wpAny (model X.prog X.w) X.A (noteFrame e X.env) (fun _ s₂ => wpAny (model X.prog X.w) X.A (setFlight e none) (fun _ s₃ => wpAny (model X.prog X.w) X.A (handleBy e X.env (h₀ :: hds)) (SP X pins D) X.xe s₃) X.xe s₂) X.xe s₁
  refine wpAny_mono ((hb (wCl X.K Wo D l) (X.pn ++ pins) xe (fun u s1 air => ?_) PassesOwn.looking).run [] s σ H D (I.toTry _) rd) (fun f s1 fin => ?_) fun e s1 z => z
  · obtain ⟨a, B, sI, pins', σ1, H1, cls, d, rfl, J', nb, up, sky, na, os, ag, w⟩ := air
    have J : Inv X pins σ1 H1 sI := J'.ofTry ok
    show wpAny (model X.prog X.w) X.A (noteFrame (.ref a) X.env) _ _ _
    refine L2N.Sky.land L2N.Zn.steady hfr hf (L := X.env.locals) (by rw [← hs]; exact sky) fun g fl upg => ?_
    have Jg : Inv X pins σ1 H1 { s1 with heap := g } := J.landed nb fl.1 (up.trans upg) os ag
    obtain ⟨oe, vs, he, hz, hd⟩ := fl.there
    have off : a ∉ frs (X.env :: X.outer) := fun m => by
      obtain ⟨_, o, z, n⟩ := fl.2.2.1.mem m
      rw [he] at z
      cases z
      exact n _ hd
    have nL : a ≠ X.env.locals := fun z => off (List.mem_filterMap.mpr ⟨X.env, List.mem_cons_self, by rw [hf, z]⟩)
    have nF : a ∉ X.fs := fun m => let ⟨v, hv, q⟩ := List.mem_filterMap.mp m; off (List.mem_filterMap.mpr ⟨v, List.mem_cons_of_mem _ hv, q⟩)
    have Sg := Jg.suite he hd na nL nF
    -- clause by clause
    have clauses : ∀ {hd' : List ExceptHandler} {l' : List Cl}, Cls1 X hd' l' → wCl X.K Wo D l' cls d σ1 H1 → wpAny (model X.prog X.w) X.A (handleBy (.ref a) X.env hd') (SP X pins D) X.xe { s1 with heap := g } := by
      intro hd' l' hk
      have LT : PySem.W.Looks (model X.prog X.w) g (typeOf (.ref a)) cls := fun A Q E s k q => wpAny_typeOf_ref (k _ _ he) (by rw [hz.1]; exact q)
      have test : ∀ {x : Str} {c : Value} {np : Pos} {Q : Value → Shared → Prop} {E : Value → Shared → Prop}, Names X x c → Q c { s1 with heap := g } → wpAny (model X.prog X.w) (X.A.mark (some (.ref a))) (eval (.Name x np) X.env) Q E { s1 with heap := g } := fun {x c np Q E} hc q => by
        obtain ⟨hg, hdbg, hm | ⟨hm, hv, hnn⟩⟩ := hc
        · exact ld_glob (X := X.suite a ((a, oe) :: (X.pn ++ pins))) Sg hg hm q hdbg
        · exact ld_blt (X := X.suite a ((a, oe) :: (X.pn ++ pins))) Sg hg hm hv q hnn hdbg
      induction hk with
      | nil =>
        intro w
        refine wpAny_handleBy_nil ?_
        obtain ⟨_, _, _, oe', vs', t0, _, _, he', _, hd', h1', _⟩ := id fl
        unfold PySem.passOn
        refine wpAny_bind (wpAny_field he' hd' h1' ?_)
        rw [if_neg (show ¬ ((Value.ref t0 == Value.none) = true) from by simp)]
        have out : wpAny (model X.prog X.w) X.A (setFlight (.ref a) X.env.frame) (fun _ s4 => wpAny (model X.prog X.w) X.A (throw (.ref a) : Sem Flow) (SP X pins D) X.xe s4) X.xe { s1 with heap := g } := by
          rw [hf]
          exact HandSPX.setFlight_upZ fl fun h4 hh4 up4 => wpAny_throw (tk _ _ ⟨a, B, sI, pins, σ1, H1, cls, d, rfl, J, nb, (up.trans upg).trans up4, .inr (.inr (by rw [hs]; exact hh4)), na, os, ag, w⟩)
        first
          | exact wpAny_bind (wpAny_pure (wpAny_bind out))
          | exact wpAny_bind out
      | @bare x c ts b r np pos2 hds2 l2 hc hsu rest ih =>
        intro w
        obtain ⟨t, ht, yes, no⟩ := w
        refine wpAny_handleBy_cons (codeAny_handlers_test (test hc ((PySem.W.exm_one (M := model X.prog X.w) Jg.kIn LT ht).here ?_))) (by intro q; cases q)
        cases t with
        | false => exact ih (no rfl)
        | true =>
          refine codeAny_handlers_suite (HandSPX.lands_againZ fl fun k flk upk => ?_)
          have Jk : Inv X pins σ1 H1 { s1 with heap := k } := J.landed nb flk.1 ((up.trans upg).trans upk) os ag
          obtain ⟨ok', vk, hek, hzk, hdk⟩ := flk.there
          refine wpAny_mono ((hsu a ok' cls d (X.pn ++ pins) hzk ⟨_, hdk⟩).run [] _ _ H1 _ (Jk.suite hek hdk na nL nF) (yes rfl a na)) (fun f s6 z => ?_) (fun _ _ z => z.elim)
          cases f with
          | ret u => obtain ⟨v6, σ6, H6, S6, r6, q6⟩ := z; exact ⟨_, _, _, S6.unsuite ok, r6, q6⟩
          | next => obtain ⟨σ6, H6, S6, q6⟩ := z; exact ⟨_, _, S6.unsuite ok, q6⟩
          | brk => obtain ⟨σ6, H6, S6, q6⟩ := z; exact ⟨_, _, S6.unsuite ok, q6⟩
          | cont => obtain ⟨σ6, H6, S6, q6⟩ := z; exact ⟨_, _, S6.unsuite ok, q6⟩
      | @named x n c i ts b r np pos2 hds2 l2 hc hi hl hsu rest ih =>
        intro w
        obtain ⟨t, ht, yes, no⟩ := w
        refine wpAny_handleBy_cons (codeAny_handlers_test (test hc ((PySem.W.exm_one (M := model X.prog X.w) Jg.kIn LT ht).here ?_))) (by intro q; cases q)
        cases t with
        | false => exact ih (no rfl)
        | true =>
          refine codeAny_handlers_suite_as (HandSPX.lands_againZ fl fun k flk upk => ?_)
          have Jk : Inv X pins σ1 H1 { s1 with heap := k } := J.landed nb flk.1 ((up.trans upg).trans upk) os ag
          obtain ⟨ok', vk, hek, hzk, hdk⟩ := flk.there
          refine store_ok (X := X.suite a ((a, ok') :: (X.pn ++ pins))) (v := .ref a) (Jk.suite hek hdk na nL nF) hN hi (.inl hl) rfl (fun s5 S5 => ?_) (.inr hl)
          refine wpAny_mono ((hsu a ok' cls d (X.pn ++ pins) hzk ⟨_, hdk⟩).run [] s5 _ H1 _ S5 (yes rfl a na)) (fun f s6 z => ?_) (fun _ _ z => z.elim)
          cases f with
          | ret u => obtain ⟨v6, σ6, H6, S6, r6, q6⟩ := z; exact gone_ok (S6.unsuite ok) hN hi hl fun s7 J7 => ⟨_, _, _, J7, r6, q6⟩
          | next => obtain ⟨σ6, H6, S6, q6⟩ := z; exact gone_ok (S6.unsuite ok) hN hi hl fun s7 J7 => ⟨_, _, J7, q6⟩
          | brk => obtain ⟨σ6, H6, S6, q6⟩ := z; exact gone_ok (S6.unsuite ok) hN hi hl fun s7 J7 => ⟨_, _, J7, q6⟩
          | cont => obtain ⟨σ6, H6, S6, q6⟩ := z; exact gone_ok (S6.unsuite ok) hN hi hl fun s7 J7 => ⟨_, _, J7, q6⟩
    exact clauses hh w
  · cases f with
    | ret u => obtain ⟨v, σ', H', J', r, q⟩ := fin; exact ⟨v, σ', H', J'.ofTry ok, r, q⟩
    | next => obtain ⟨σ', H', J', q⟩ := fin; exact wpAny_execs_nil ⟨σ', H', J'.ofTry ok, q⟩
    | brk => obtain ⟨σ', H', J', q⟩ := fin; exact ⟨σ', H', J'.ofTry ok, q⟩
    | cont => obtain ⟨σ', H', J', q⟩ := fin; exact ⟨σ', H', J'.ofTry ok, q⟩
end
end TLK

set_option Elab.async false
set_option linter.all false
set_option maxRecDepth 100000
set_option maxHeartbeats 1000000
namespace TL
open PySem PySem.Spec PyProof.Rows L2

/-! ### try -/
structure Hd where
  hit : Nat → Option Bool
  as : Option Nat
  run : GS
/-- a suite's end: its name is gone; no break, continue, error here -/
def suiteR (as : Option Nat) : SRes → SRes
  | .next env => .next (match as with
    | none => env
    | some i => env.set i none)
  | .ret env d => .ret env d
  | _ => .stuck
def gHand : List Hd → Env → Ex → SRes
  | [], env, x => .err env x
  | h :: r, env, x => match h.hit x.cls with
    | some true => match h.as, x.fld with
      | none, _ => suiteR none (h.run env)
      | some i, some (f, g) => suiteR (some i) (h.run (env.set i (some (.part 0 [.str f, g]))))
      | some _, none => .stuck
    | some false => gHand r env x
    | none => .stuck
def gTry (gb : GS) (hs : List Hd) : GS := fun env => match gb env with
  | .err env' x => gHand hs env' x
  | r => r
/-- no exception leaves a suite -/
abbrev Jd.calm (J : Jd) : Jd := { J with W := fun _ _ _ _ => False, em := fun _ => True }
section
variable {J : Jd} {ms ms' : List Mode} {k m : Mode}
/-- a slot is forgotten -/
theorem Good.forget {T : Tb} {env : Env} {σ : L2.St} {H F : Hp} {fp : Nat → Ad} (g : Good T ms env σ H F fp) (i : Nat) (v : Option V) (hms : ∀ j, j ≠ i → ms'.getD j .sh = ms.getD j .sh) :
    Good T ms' (env.set i none) (σ.set i v) H F (fun j a => j ≠ i ∧ fp j a) := by
  refine ⟨by rw [List.length_set, List.length_set]; exact g.len, g.sub, fun j d e => ?_, fun j j' a hne h1 h2 => g.dis j j' a hne h1.2 h2.2, fun j a h => g.off j a h.2⟩
  by_cases hj : j = i
  · subst hj
    rw [List.getElem?_set] at e
    simp at e
  · rw [List.getElem?_set_ne (Ne.symm hj)] at e
    obtain ⟨u, h1, h2⟩ := g.slot j d e
    refine ⟨u, by rw [List.getElem?_set_ne (Ne.symm hj)]; exact h1, ?_⟩
    have : (fun a => j ≠ i ∧ fp j a) = fp j := by funext a; simp [hj]
    rw [this, hms j hj]
    exact h2
theorem set_getD {ms : List Mode} {i j : Nat} {m : Mode} (h : j ≠ i) : (ms.set i m).getD j .sh = ms.getD j .sh := by simp [List.getD, List.getElem?_set_ne (Ne.symm h)]
theorem SOut.suite0 {E : Ends} {H F : Hp} {fp : Nat → Ad} {r : SRes} (o : SOut J ms' E H F fp (suiteR none r)) : SOut J.calm ms' E H F fp r := by
  cases r with
  | next env' => exact fun σ' H' F' fp' s g kp => o σ' H' F' fp' s g ⟨kp.own, kp.sh⟩
  | ret env' d => exact o
  | _ => exact o.elim
theorem SOut.suite1 {E : Ends} {H F : Hp} {fp : Nat → Ad} {r : SRes} {i : Nat} (hp : J.pm.getD i .sh = .sh) (o : SOut J ms' E H F fp (suiteR (some i) r)) : SOut J.calm (ms'.set i m) (TLK.clE E (some i)) H F fp r := by
  cases r with
  | next env' => exact fun σ' H' F' fp' s g kp => o (σ'.set i none) H' F' _ (s.less fun b ⟨j, z⟩ => ⟨j, z.2⟩) (g.forget i none fun j hj => (set_getD hj).symm) (Keep.set (J := J) (v := none) ⟨kp.own, kp.sh⟩ hp)
  | ret env' d => exact o
  | _ => exact o.elim
variable {X : Cx} {body : List Stmt} {h₀ : ExceptHandler} {hds : List ExceptHandler} {pos : Pos} {gb : GS} {hs : List Hd}
inductive HdT (X : Cx) (J : Jd) (ms ms' : List Mode) : List ExceptHandler → List Hd → List TLK.Cl → Prop
  | nil : HdT X J ms ms' [] [] []
  | bare {x : Str} {c : Value} {hit : Nat → Option Bool} {gs : GS} {b : Stmt} {r : List Stmt} {np pos : Pos} {hds : List ExceptHandler} {hs : List Hd} {l : List TLK.Cl} (hc : Names X x c) (hh : ∀ n t, hit n = some t → PySem.W.exmOne X.K (.ref (J.T.cl n)) c = some t)
      (hsu : ∀ (a : Addr) (oe : Obj) (pn : List (Addr × Obj)) (n : Nat) (d : Option Addr), L2N.Zn (.ref (J.T.cl n)) d oe → (∃ vs, oe.data = .fields vs) → hit n = some true → SB (X.suite a ((a, oe) :: pn)) J.calm ms (b :: r) ms' gs) (rest : HdT X J ms ms' hds hs l) :
      HdT X J ms ms' (.ExceptHandler (some (.Name x np)) none (b :: r) pos :: hds) (⟨hit, none, gs⟩ :: hs) (⟨c, none, fun _ cls _ E σ H => ∃ n, cls = .ref (J.T.cl n) ∧ hit n = some true ∧ tB J.calm ms ms' gs E σ H⟩ :: l)
  | named {x y : Str} {c : Value} {i : Nat} {hit : Nat → Option Bool} {gs : GS} {b : Stmt} {r : List Stmt} {np pos : Pos} {hds : List ExceptHandler} {hs : List Hd} {l : List TLK.Cl} (hc : Names X x c) (hi : X.N[i]? = some y) (hl : X.env.kindOf y = some .local) (hp : J.pm.getD i .sh = .sh) (hlen : i < ms.length)
      (hh : ∀ n t, hit n = some t → PySem.W.exmOne X.K (.ref (J.T.cl n)) c = some t)
      (hsu : ∀ (a : Addr) (oe : Obj) (pn : List (Addr × Obj)) (n : Nat) (dd : Addr), L2N.Zn (.ref (J.T.cl n)) (some dd) oe → (∃ vs, oe.data = .fields vs) → hit n = some true → SB (X.suite a ((a, oe) :: pn)) J.calm (ms.set i (.exc a dd)) (b :: r) (ms'.set i (.exc a dd)) gs) (rest : HdT X J ms ms' hds hs l) :
      HdT X J ms ms' (.ExceptHandler (some (.Name x np)) (some y) (b :: r) pos :: hds) (⟨hit, some i, gs⟩ :: hs) (⟨c, some i, fun a cls d E σ H => ∃ n dd, cls = .ref (J.T.cl n) ∧ d = some dd ∧ hit n = some true ∧ tB J.calm (ms.set i (.exc a dd)) (ms'.set i (.exc a dd)) gs E σ H⟩ :: l)
theorem HdT.cls {l : List TLK.Cl} (h : HdT X J ms ms' hds hs l) : TLK.Cls1 X hds l := by
  induction h with
  | nil => exact .nil
  | bare hc hh hsu rest ih => exact .bare hc (fun a oe cls d pn hz hd => ⟨fun pins s σ H E I ⟨n, ec, hn, w⟩ => by subst ec; exact (hsu a oe pn n d hz hd hn).run pins s σ H E I w⟩) ih
  | named hc hi hl hp hlen hh hsu rest ih => exact .named hc hi hl (fun a oe cls d pn hz hd => ⟨fun pins s σ H E I ⟨n, dd, ec, ed, hn, w⟩ => by subst ec ed; exact (hsu a oe pn n dd hz hd hn).run pins s σ H E I w⟩) ih
theorem HdT.hand {l : List TLK.Cl} (h : HdT X J ms ms' hds hs l) (hem : J.em ms) {D : Ends} {σ : L2.St} {H F : Hp} {fp : Nat → Ad} {env : Env} {x : Ex} {cv : Value} {d : Option Addr} (gd : Good J.T ms env σ H F fp) (kp : Keep J σ F) (er : ErrRep J.T F x cv d) (o : SOut J ms' D H F fp (gHand hs env x)) :
    TLK.wCl X.K J.W D l cv d σ H := by
  induction h with
  | nil => exact o σ ms H F fp cv d hem Step.refl gd kp er
  | @bare _ _ hit gs _ _ _ _ _ _ _ hc hh hsu rest ih =>
    unfold gHand at o
    dsimp only at o
    cases q : hit x.cls with
    | none => rw [q] at o; exact o.elim
    | some t =>
      rw [q] at o
      refine ⟨t, by rw [er.1]; exact hh _ _ q, fun e a ha => ?_, fun e => ?_⟩
      · subst e
        exact ⟨x.cls, er.1, q, F, env, fp, gd, ⟨kp.own, kp.sh⟩, SOut.suite0 o⟩
      · subst e
        exact ih o
  | @named _ _ _ i hit gs _ _ _ _ _ _ _ hc hi hl hp hlen hh hsu rest ih =>
    unfold gHand at o
    dsimp only at o
    cases q : hit x.cls with
    | none => rw [q] at o; exact o.elim
    | some t =>
      rw [q] at o
      refine ⟨t, by rw [er.1]; exact hh _ _ q, fun e a ha => ?_, fun e => ?_⟩
      · subst e
        obtain ⟨xc, xf⟩ := x
        cases xf with
        | none => exact o.elim
        | some p =>
          obtain ⟨f, g⟩ := p
          obtain ⟨ec, dd, v, ed, hx, rg⟩ := er
          refine ⟨xc, dd, ec, ed, q, F, _, _, gd.set (m := .exc a dd) (v := .ref a) (fv := fun _ => False) hlen ?_ (fun _ z => z.elim) (fun _ _ _ z => z), Keep.set (J := J.calm) ⟨kp.own, kp.sh⟩ hp, SOut.suite1 hp (SOut.step o (Step.refl.less fun b hb => (all_set hb).elim id False.elim))⟩
          exact ⟨rfl, fun _ z => z, f, g, v, rfl, hx, rg⟩
      · subst e
        exact ih o
theorem ss_try {l : List TLK.Cl} (hst : X.stack = X.env :: X.outer) (hf : X.env.frame = some X.env.locals) (hN : X.N.Nodup) (tk : L2N.Takes X J.W) (hem : J.em ms)
    (hb : ∀ (W : WX) (pn : List (Addr × Obj)) (xe : Value → Shared → Prop), L2N.Takes (X.tr pn xe) W → PassesOwn (model X.prog X.w) X.A X.env xe → SB (X.tr pn xe) { J with W := W, em := fun m => m = ms } ms body ms' gb)
    (hh : HdT X J ms ms' (h₀ :: hds) hs l) : SS X J ms (.Try body (h₀ :: hds) [] [] pos) ms' (gTry gb hs) :=
  PS.imp (TLK.ps_tryN hst hf hN tk hb hh.cls) fun D σ H ⟨F, env, fp, gd, kp, o⟩ => by
    refine ⟨F, env, fp, gd, ⟨kp.own, kp.sh⟩, ?_⟩
    unfold gTry at o
    cases q : gb env with
    | err env' x =>
      rw [q] at o
      intro σ' m2 H' F' fp' cv dd e s g k er
      subst e
      exact hh.hand hem g ⟨k.own, k.sh⟩ er (SOut.step o s)
    | next env' => rw [q] at o; exact fun σ' H' F' fp' s g k => o σ' H' F' fp' s g ⟨k.own, k.sh⟩
    | brk env' => rw [q] at o; exact fun σ' H' F' fp' s g k => o σ' H' F' fp' s g ⟨k.own, k.sh⟩
    | cnt env' => rw [q] at o; exact fun σ' H' F' fp' s g k => o σ' H' F' fp' s g ⟨k.own, k.sh⟩
    | ret env' d => rw [q] at o; exact o
    | stuck => rw [q] at o; exact o.elim
/-- e.f of the caught exception -/
def gGiven (i : Nat) (f : Str) : G := fun env => match env[i]? with
  | some (some (.part 0 [.str f', g])) => if f' = f then .ok env g else .stuck
  | _ => .stuck
theorem se_given {T : Tb} {ms : List Mode} {W : WX} {a dd : Addr} {oe : Obj} {pn : List (Addr × Obj)} {n i : Nat} {x f : Str} {p pos : Pos} (hz : L2N.Zn (.ref (T.cl n)) (some dd) oe) (hfd : ∃ vs, oe.data = .fields vs) (C : XfC X.K (T.cl n)) (hno : PySem.W.findIn X.K (.ref (T.cl n)) f = some none)
    (hm : ms.getD i .sh = .exc a dd) (hN : X.N[i]? = some x) (hv : Vis X.env.scope x) (hd : (x == ("__debug__" : Str)) = false := by decide) (hcd : (x == ("__classdict__" : Str)) = false := by decide) (hb : attributeBase (.Name x p) f X.env (eval (.Name x p) X.env) = eval (.Name x p) X.env := by rfl) :
    SE (X.suite a ((a, oe) :: pn)) T W ms (.Attribute (.Name x p) f pos) (gGiven i f) :=
  PE.imp (pe_xf C hno hz.zc hfd (pe_var (X := X.suite a ((a, oe) :: pn)) hN hv hd hcd) hb) fun σ H Q ⟨F, env, fp, g, o⟩ => by
    unfold gGiven at o
    split at o
    · rename_i f' t e
      split at o
      · rename_i ef
        subst ef
        obtain ⟨v, h1, h2⟩ := g.slot i _ e
        rw [hm] at h2
        obtain ⟨ev, _, f2, g2, u, ep, hx, r⟩ := h2
        cases ep
        subst ev
        exact ⟨_, h1, rfl, rfl, dd, _, u, rfl, g.sub _ _ hx, by simp [List.lookup], Out.fin o g (Ext0.refl g.sub) r⟩
      · exact o.elim
    · exact o.elim
end
end TL

set_option Elab.async false
set_option linter.all false
set_option maxRecDepth 100000
set_option maxHeartbeats 1000000
namespace TL
open PySem PySem.Spec PyProof.Rows L2

/-! ### more operators -/
def dCat : D → D → Option D
  | .lst xs, .lst ys => if xs.length + ys.length ≤ bigN then some (.lst (xs ++ ys)) else none
  | _, _ => none
def dRepL : D → D → Option D
  | .lst xs, .int k => if -(2 ^ 62) ≤ k ∧ k < 2 ^ 62 ∧ xs.length * k.toNat ≤ bigN then some (.lst (List.replicate k.toNat xs).flatten) else none
  | _, _ => none
def dCatS : D → D → Option D
  | .str x, .str y => if x.length + y.length ≤ bigN then some (.str (x ++ y)) else none
  | _, _ => none
section
variable {X : Cx} {T : Tb} {ms : List Mode} {W : WX} {e a b : Expr} {pos p2 : Pos} {ga gb g : G}
theorem RepL.flat {F : Hp} {ds : List D} {vs : List V} (r : RepL T F ds vs) : ∀ n : Nat, RepL T F (List.replicate n ds).flatten (List.replicate n vs).flatten
  | 0 => RepL.nil
  | n + 1 => by
    rw [List.replicate_succ, List.replicate_succ, List.flatten_cons, List.flatten_cons]
    exact r.append (RepL.flat r n)
theorem ops_cat : OpS X T (binaryOp .Add) dCat := OpR.imp op_cat fun x y H Q ⟨F, dx, dy, d, s, r1, r2, e, q⟩ => by
  unfold dCat at e
  split at e
  · split at e
    · rename_i hl
      cases e
      unfold Rep at r1 r2
      obtain ⟨l, vs, e1, q1, rl⟩ := r1
      obtain ⟨m, us, e2, q2, rm⟩ := r2
      refine ⟨l, m, vs, us, e1, e2, s _ _ q1, s _ _ q2, by rw [rl.length, rm.length]; exact big_line hl, fun p hp => ?_⟩
      have ex := Ext0.alloc (o := .lst (vs ++ us)) s hp
      exact q _ _ _ ex (rep_lst upd_same ((rl.append rm).mono ex.grow))
    · cases e
  · cases e
theorem ops_rep : OpS X T (binaryOp .Mult) dRepL := OpR.imp op_rep fun x y H Q ⟨F, dx, dy, d, s, r1, r2, e, q⟩ => by
  unfold dRepL at e
  split at e
  · rename_i xs k
    split at e
    · rename_i hl
      obtain ⟨h1, h2, h3⟩ := hl
      cases e
      unfold Rep at r1 r2
      obtain ⟨l, vs, e1, q1, rl⟩ := r1
      refine ⟨l, _, vs, e1, r2, s _ _ q1, by omega, by omega, by rw [rl.length]; exact big_line h3, fun p hp => ?_⟩
      have ex := Ext0.alloc (o := .lst (List.replicate k.toNat vs).flatten) s hp
      exact q _ _ _ ex (rep_lst upd_same ((rl.flat _).mono ex.grow))
    · cases e
  · cases e
theorem ops_catS : OpS X T (binaryOp .Add) dCatS := OpR.imp op_add_str fun x y H Q ⟨F, dx, dy, d, s, r1, r2, e, q⟩ => by
  unfold dCatS at e
  split at e
  · split at e
    · rename_i hl
      cases e
      unfold Rep at r1 r2
      exact ⟨_, _, r1, r2, big_line hl, q H F _ (Ext0.refl s) (by unfold Rep; rfl)⟩
    · cases e
  · cases e

/-! ### slices -/
abbrev GO := Env → Res (Option Int)
def OutO (T : Tb) (ms : List Mode) (W : WX) (σ : L2.St) (H F : Hp) (fp : Nat → Ad) (Q : Option Int → Hp → Prop) : Res (Option Int) → Prop
  | .ok env' o => ∀ H' F' fp', Step H F (All fp) H' F' (All fp') → Good T ms env' σ H' F' fp' → Q o H'
  | .err env' x => OutErr T ms W σ H F fp env' x
  | .stuck => False
def tO (T : Tb) (W : WX) (ms : List Mode) (g : GO) : TO := fun σ H Q => ∃ F env fp, Good T ms env σ H F fp ∧ OutO T ms W σ H F fp Q (g env)
abbrev SO (X : Cx) (T : Tb) (W : WX) (ms : List Mode) (e : Option Expr) (g : GO) : Prop := PO X e (tO T W ms g)
theorem PO.imp {e : Option Expr} {t u : TO} (h : PO X e t) (i : ∀ σ H Q, u σ H Q → t σ H Q) : PO X e u := ⟨fun pins s σ H Q I q => h.run pins s σ H Q I (i σ H Q q)⟩
theorem OutO.step {σ : L2.St} {H F H1 F1 : Hp} {fp fp1 : Nat → Ad} {Q : Option Int → Hp → Prop} {r : Res (Option Int)} (h : OutO T ms W σ H F fp Q r) (s : Step H F (All fp) H1 F1 (All fp1)) : OutO T ms W σ H1 F1 fp1 Q r := by
  cases r with
  | ok env' d => exact fun H' F' fp' s' g => h H' F' fp' (s.trans s') g
  | err env' x => exact OutErr.step h s
  | stuck => exact h
def gNo : GO := fun env => .ok env none
def gSo (g : G) : GO := fun env => (g env).bind fun env1 d => match d with
  | .int i => .ok env1 (some i)
  | _ => .stuck
theorem so_none : SO X T W ms none gNo := PO.imp po_none fun σ H Q ⟨F, env, fp, g, o⟩ => o H F fp Step.refl g
theorem so_some (h : SE X T W ms e g) : SO X T W ms (some e) (gSo g) := PO.imp (po_some h) fun σ H Q ⟨F, env, fp, gd, o⟩ => ⟨F, env, fp, gd, by
  unfold gSo at o
  cases q : g env with
  | ok env1 d =>
    rw [q] at o
    intro H1 F1 fp1 v s1 g1 r1
    cases d with
    | int i => exact ⟨i, r1, o H1 F1 fp1 s1 g1⟩
    | _ => exact o.elim
  | err env1 x => rw [q] at o; exact o
  | stuck => rw [q] at o; exact o⟩
def ixD (n : Nat) (z : Nat) : Option Int → Nat := HT.sIx n z
def cutD {α : Type} (xs : List α) (lo hi : Option Int) : List α := (xs.drop (HT.sIx xs.length 0 lo)).take (HT.sIx xs.length xs.length hi - HT.sIx xs.length 0 lo)
def dSl : D → Option Int → Option Int → Option D
  | .lst xs, lo, hi => some (.lst (cutD xs lo hi))
  | .tup xs, lo, hi => some (.tup (cutD xs lo hi))
  | _, _, _ => none
def gSl (ga : G) (gl gh : GO) : G := fun env => (ga env).bind fun env1 d => (gl env1).bind fun env2 lo => (gh env2).bind fun env3 hi => .ofO env3 (dSl d lo hi)
theorem RepL.cut {F : Hp} {ds : List D} {vs : List V} (r : RepL T F ds vs) (lo hi : Option Int) : RepL T F (cutD ds lo hi) (cutV vs lo hi) := by
  unfold cutD cutV
  rw [← r.length]
  exact (r.drop _).take _
theorem cut_all {α : Type} {xs : List α} {lo hi : Option Int} (h : HT.sIx xs.length 0 lo = 0 ∧ HT.sIx xs.length xs.length hi = xs.length) : cutD xs lo hi = xs := by
  unfold cutD
  rw [h.1, h.2]
  simp
theorem OutO.bindO {σ : L2.St} {H F : Hp} {fp : Nat → Ad} {Q : VK} {Q' : Option Int → Hp → Prop} {r : Res (Option Int)} {f : Env → Option Int → Res D} (h : Out T ms W σ H F fp Q (r.bind f))
    (q : ∀ env1 d H1 F1 fp1, Step H F (All fp) H1 F1 (All fp1) → Good T ms env1 σ H1 F1 fp1 → Out T ms W σ H1 F1 fp1 Q (f env1 d) → Q' d H1) : OutO T ms W σ H F fp Q' r := by
  cases r with
  | ok env' d => exact fun H1 F1 fp1 s1 g1 => q env' d H1 F1 fp1 s1 g1 (Out.step h s1)
  | err env' x => exact h
  | stuck => exact h
theorem se_slice {gl gh : GO} {lo hi : Option Expr} (hK : T.K = X.K) (ha : SE X T W ms e ga) (hl : SO X T W ms lo gl) (hh : SO X T W ms hi gh) : SE X T W ms (.Subscript e (.Slice lo hi none p2) pos) (gSl ga gl gh) :=
  PE.imp (pe_slice (SlR.or sl_list sl_tupA) ha hl hh) fun σ H Q ⟨F, env, fp, gd, o⟩ => ⟨F, env, fp, gd, Out.bind o fun env1 d H1 F1 fp1 v g1 r1 o1 => ⟨F1, env1, fp1, g1, OutO.bindO o1 fun env2 lo H2 F2 fp2 s2 g2 o2 => ⟨F2, env2, fp2, g2, OutO.bindO o2 fun env3 hi H3 F3 fp3 s3 g3 o3 => by
    have r3 := (r1.mono s2.grow).mono s3.grow
    unfold dSl at o3
    cases d with
    | lst xs =>
      unfold Rep at r3
      obtain ⟨l, vs, e1, q1, rl⟩ := r3
      refine .inl ⟨l, vs, e1, .inl (.inl (g3.sub _ _ q1)), fun p hp => ?_⟩
      have ex := Ext0.alloc (o := .lst (cutV vs lo hi)) g3.sub hp
      exact Out.fin o3 g3 ex (rep_lst upd_same ((rl.cut lo hi).mono ex.grow))
    | tup xs =>
      have r3' := r3
      unfold Rep at r3
      obtain ⟨l, vs, e1, q1, rl⟩ := r3
      refine .inr ⟨l, vs, e1, by rw [← hK]; exact sqT_mono g3.sub q1, fun w => ?_, fun w p hp => ?_⟩
      · subst e1
        rw [rl.length] at w
        refine Out.fin o3 g3 (Ext0.refl g3.sub) ?_
        rw [cut_all w]
        exact r3'
      · have ex := Ext0.alloc (o := .tup (cutV vs lo hi)) g3.sub hp
        exact Out.fin o3 g3 ex (rep_tup upd_same ((rl.cut lo hi).mono ex.grow))
    | _ => exact o3.elim⟩⟩⟩
def gRevL (ga : G) : G := fun env => (ga env).bind fun env1 d => match d with
  | .lst xs => .ok env1 (.lst xs.reverse)
  | _ => .stuck
theorem RepL.rev {F : Hp} : ∀ {ds : List D} {vs : List V}, RepL T F ds vs → RepL T F ds.reverse vs.reverse
  | [], vs, h => by unfold RepL at h; subst h; exact RepL.nil
  | d :: ds, vs, h => by
    unfold RepL at h
    obtain ⟨v, r, e1, q, t⟩ := h
    subst e1
    rw [List.reverse_cons, List.reverse_cons]
    exact (RepL.rev t).append (RepL.one q)
theorem se_revL {k : Nat} {p1 p3 p4 : Pos} (ha : SE X T W ms e ga) : SE X T W ms (.Subscript e (.Slice none none (some (.UnaryOp .USub (.Constant (.int 1) k p1) p3)) p4) pos) (gRevL ga) :=
  PE.imp (pe_revL ha) fun σ H Q ⟨F, env, fp, gd, o⟩ => ⟨F, env, fp, gd, Out.bind o fun env1 d H1 F1 fp1 v g1 r1 o1 => by
    cases d with
    | lst xs =>
      unfold Rep at r1
      obtain ⟨l, vs, e1, q1, rl⟩ := r1
      refine ⟨l, vs, e1, .inl (.inl (g1.sub _ _ q1)), fun p hp => ?_⟩
      have ex := Ext0.alloc (o := .lst vs.reverse) g1.sub hp
      exact Out.fin o1 g1 ex (rep_lst upd_same (rl.rev.mono ex.grow))
    | _ => exact o1.elim⟩

/-! ### {} -/
/-- a dict display is locked at once: it is read only -/
theorem upd_upd {H : Hp} {p : Addr} {a b : HO} : upd (upd H p a) p b = upd H p b := by
  funext x
  by_cases e : x = p
  · subst e; rw [upd_same, upd_same]
  · rw [upd_ne e, upd_ne e, upd_ne e]
def tDL : TE := fun _ H Q => ∀ p od, H p = none → Q (.ref p) (upd H p (.frz od (.dK [])))
theorem pe_dlock : PE X (.Dict [] [] pos) tDL := by
  refine ⟨fun pins s σ H Q I h => thn (pe_dnewK.run pins s σ H (fun v H1 => ∃ p, v = .ref p ∧ H p = none ∧ H1 = upd H p (.dK [])) I fun p hp => ⟨p, rfl, hp, rfl⟩) fun u s1 ⟨x, H1, I1, rx, p, ex, hp, e1⟩ => ?_⟩
  subst ex e1
  obtain ⟨od, I2⟩ := I1.lock (d := p) upd_same trivial
  exact ⟨_, _, I2, rx, by rw [upd_upd]; exact h p od hp⟩
theorem se_dict0 : SE X T W ms (.Dict [] [] pos) (gC (.dic [] [])) :=
  PE.imp pe_dlock fun σ H Q ⟨F, env, fp, g, o⟩ => fun p od hp => by
    have ex := Ext0.alloc (o := .frz od (.dK [])) g.sub hp
    refine Out.fin o g ex ?_
    unfold Rep
    exact ⟨p, od, [], rfl, upd_same, rfl, RepL.nil⟩

/-! ### f-strings -/
def gFmt (ga : G) : G := fun env => (ga env).bind fun env1 d => match d with
  | .str y => if y.length ≤ bigN then .ok env1 (.str y) else .stuck
  | .int i => if i.natAbs.log2 < 1920 then .ok env1 (.str (toString i)) else .stuck
  | _ => .stuck
theorem se_fmt (ha : SE X T W ms e ga) : SE X T W ms (.FormattedValue e (-1) none pos) (gFmt ga) :=
  PE.imp (pe_fmt ha) fun σ H Q ⟨F, env, fp, gd, o⟩ => ⟨F, env, fp, gd, Out.bind o fun env1 d H1 F1 fp1 v g1 r1 o1 => by
    cases d with
    | str y =>
      simp only at o1
      split at o1
      · rename_i hl
        exact .inl ⟨y, r1, big_line hl, Out.fin o1 g1 (Ext0.refl g1.sub) (by unfold Rep; rfl)⟩
      · exact o1.elim
    | int i =>
      simp only at o1
      split at o1
      · rename_i hl
        exact .inr ⟨i, r1, hl, Out.fin o1 g1 (Ext0.refl g1.sub) (by unfold Rep; rfl)⟩
      · exact o1.elim
    | _ => exact o1.elim⟩
def gJs : List G → Str → G
  | [], acc => fun env => .ok env (.str acc)
  | g :: gs, acc => fun env => (g env).bind fun env1 d => match d with
    | .str y => if (acc ++ y).length ≤ bigN then gJs gs (acc ++ y) env1 else .stuck
    | _ => .stuck
theorem js_read {σ : L2.St} : ∀ {gs : List G} {acc : Str} {H : Hp} {Q : VK}, tS T W ms (gJs gs acc) σ H Q → tJs (gs.map (tS T W ms)) acc σ H fun out H1 => Q (.str out) H1
  | [], acc, H, Q, ⟨F, env, fp, gd, o⟩ => Out.fin o gd (Ext0.refl gd.sub) (by unfold Rep; rfl)
  | g :: gs, acc, H, Q, ⟨F, env, fp, gd, o⟩ => ⟨F, env, fp, gd, Out.bind o fun env1 d H1 F1 fp1 v g1 r1 o1 => by
    cases d with
    | str y =>
      simp only at o1
      split at o1
      · rename_i hl
        exact ⟨y, r1, big_line hl, js_read ⟨F1, env1, fp1, g1, o1⟩⟩
      · exact o1.elim
    | _ => exact o1.elim⟩
abbrev SJ (X : Cx) (T : Tb) (W : WX) (ms : List Mode) (es : List Expr) (gs : List G) : Prop := PJ X es (gs.map (tS T W ms))
theorem sj_nil : SJ X T W ms [] [] := PJ.nil
theorem sj_cons {es : List Expr} {gs : List G} (h : SE X T W ms e g) (r : SJ X T W ms es gs) : SJ X T W ms (e :: es) (g :: gs) := PJ.cons h r
theorem se_joined {v1 v2 : Expr} {rest : List Expr} {gs : List G} (h : SJ X T W ms (v1 :: v2 :: rest) gs) : SE X T W ms (.JoinedStr (v1 :: v2 :: rest) pos) (gJs gs Str.empty) := PE.imp (pe_joined h) fun _ _ _ w => js_read w
theorem se_joined1 (h : SE X T W ms e g) : SE X T W ms (.JoinedStr [e] pos) g := pe_joined1 h
end
end TL

set_option Elab.async false
set_option linter.all false
set_option maxRecDepth 100000
set_option maxHeartbeats 1000000
namespace TL
open PySem PySem.Spec PyProof.Rows L2

/-! ### repr -/
def dRepr : List D → Option D
  | [.non] => some (.str "None")
  | [.bl b] => some (.str (if b then "True" else "False"))
  | [.int i] => if i.natAbs.log2 < 1920 then some (.str (toString i)) else none
  | [.str y] => if (PySem.reprText y).length ≤ bigN then some (.str (PySem.reprText y)) else none
  | _ => none
section
variable {X : Cx} {T : Tb}
theorem cal_repr : CalS X T (.builtin "repr") dRepr := fun pins st σ H xs us Q I rx ⟨F, ds, d, s, r, e, q⟩ => by
  unfold dRepr at e
  split at e
  · cases e
    obtain ⟨v, rfl, r1⟩ := repL_one r
    unfold Rep at r1
    subst r1
    obtain ⟨u, rfl, ru⟩ := vals1 rx
    cases ru
    exact PySem.P.repr_of_none ⟨.str _, H, I.tok _, ⟨_, rfl⟩, q H F _ (Ext0.refl s) (by unfold Rep; rfl)⟩
  · rename_i b
    cases e
    obtain ⟨v, rfl, r1⟩ := repL_one r
    unfold Rep at r1
    subst r1
    obtain ⟨u, rfl, ru⟩ := vals1 rx
    cases ru
    exact PySem.P.repr_of_bool ⟨.str _, H, I.tok _, ⟨_, rfl⟩, q H F _ (Ext0.refl s) (by unfold Rep; rfl)⟩
  · rename_i i
    split at e
    · rename_i hl
      cases e
      obtain ⟨v, rfl, r1⟩ := repL_one r
      unfold Rep at r1
      subst r1
      obtain ⟨u, rfl, t, rfl⟩ := vals1 rx
      exact PySem.P.repr_of_int hl ⟨.str _, H, I.tok _, ⟨_, rfl⟩, q H F _ (Ext0.refl s) (by unfold Rep; rfl)⟩
    · cases e
  · rename_i y
    split at e
    · rename_i hl
      cases e
      obtain ⟨v, rfl, r1⟩ := repL_one r
      unfold Rep at r1
      subst r1
      obtain ⟨u, rfl, t, rfl⟩ := vals1 rx
      exact PySem.P.repr_of_str ⟨.str _, H, I.tok _, ⟨_, rfl⟩, q H F _ (Ext0.refl s) (by unfold Rep; rfl)⟩ (big_line hl)
    · cases e
  · cases e
end

/-! ### keywords; a def as a value -/
section
variable {X : Cx} {T : Tb} {ms : List Mode} {W : WX} {e a b c : Expr} {es : List Expr} {pos : Pos} {ga gb gc g gf : G} {gs gks : GA} {k : Mode} {kws : List Keyword} {lv : Nat}
theorem cons_read {σ : L2.St} {H : Hp} {Q : List V → Hp → Prop} (w : tA T W ms (gCons ga gs) σ H Q) : tCons (tS T W ms ga) (tA T W ms gs) σ H Q := by
  obtain ⟨F, env, fp, g, o⟩ := w
  refine ⟨F, env, fp, g, ?_⟩
  unfold gCons at o
  cases q : ga env with
  | err env1 x => rw [q] at o; exact o
  | stuck => rw [q] at o; exact o
  | ok env1 d =>
    rw [q] at o
    intro H1 F1 fp1 v s1 g1 r1
    have o1 := OutA.step o s1
    refine ⟨F1, env1, fp1, g1, ?_⟩
    simp only [Res.bind_ok] at o1
    cases q1 : gs env1 with
    | err env2 x => rw [q1] at o1; exact o1
    | stuck => rw [q1] at o1; exact o1
    | ok env2 ds =>
      rw [q1] at o1
      exact fun H2 F2 fp2 vs s2 g2 r2 => OutA.step o1 s2 H2 F2 fp2 (v :: vs) Step.refl g2 (by unfold RepL; exact ⟨v, vs, rfl, r1.mono s2.grow, r2⟩)
abbrev SK (X : Cx) (T : Tb) (W : WX) (ms : List Mode) (kws : List Keyword) (g : GA) : Prop := PK X kws (tA T W ms g)
theorem PK.imp {t u : TA} (h : PK X kws t) (i : ∀ σ H Q, u σ H Q → t σ H Q) : PK X kws u := ⟨fun pos pins s σ H Q I q => h.run pos pins s σ H Q I (i σ H Q q)⟩
theorem sk_nil : SK X T W ms [] gNil := PK.imp pk_nil fun σ H Q ⟨F, env, fp, g, o⟩ => o H F fp [] Step.refl g RepL.nil
theorem sk_cons {nm : Option Str} {kpos : Pos} (ha : SE X T W ms a ga) (hs : SK X T W ms kws gs) : SK X T W ms (⟨nm, a, kpos⟩ :: kws) (gCons ga gs) := PK.imp (pk_cons ha hs) fun _ _ _ w => cons_read w
/-- a def with n positional values and the keywords ks: what it promises of the trees put in order by gD -/
structure KwD (X : Cx) (T : Tb) (lv : Nat) (f : Addr) (n : Nat) (ks : List Str) (gD : List D → List D → List D) (sp : Sp) : Prop where
  ex : ∃ (fd : FuncData) (ps : List Str) (gp : List Value → List Value → List Value) (gV : List V → List V → List V), PySem.W.keepIn X.K (.ref f) = true ∧ KBn X.K fd ps n ks gp gV ∧ FnOk X.prog X.w X.K X.mg X.base (L2N.CX X.prog X.w) lv f fd ps sp ∧
    ∀ (F : Hp) (ds es : List D) (vs zs : List V), RepL T F ds vs → RepL T F es zs → RepL T F (gD ds es) (gV vs zs)
theorem run_kw {n : Nat} {ks : List Str} {f : Addr} {fd : FuncData} {ps : List Str} {gp : List Value → List Value → List Value} {gV : List V → List V → List V} {sp : Sp} {E : L2.St → XK} {pins : List (Addr × Obj)} {σ : L2.St} {H : Hp} {s : Shared} {Q : VK} {us ws : List Value} {vs zs : List V}
    (Fn : FnOk X.prog X.w X.K X.mg X.base (L2N.CX X.prog X.w) lv f fd ps sp) (hr : Room lv X.A) (hb : KBn X.K fd ps n ks gp gV) (hx : PassesAt (L2N.CX X.prog X.w) X σ (E σ)) (I : L2.Inv X pins σ H s) (r : Vals vs us) (rz : Vals zs ws) (l1 : vs.length = n) (l2 : zs.length = ks.length) (h : sp (gV vs zs) H Q (E σ)) :
    wpAny (model X.prog X.w) X.A (call (.ref f) us (ks.zip ws)) (EP X pins σ Q) X.xe s := by
  refine wpAny_call (codeAny_mono (Fn.run X.A X.stack s H ⟨us, ks.zip ws⟩ _ _ Q (E σ) hr I.env0 (hb.to s us ws I.kIn (r.length.symm.trans l1) (rz.length.symm.trans l2)) (hb.rel r rz) h) fun z s' hq => ?_)
  cases z with
  | error er => exact hx pins H s er s' I hq
  | ok fl =>
    cases fl with
    | ret u => exact I.after hq
    | next => exact hq.elim
    | brk => exact hq.elim
    | cont => exact hq.elim
/-- func(e, .., k = v, ..) with the callee as a value -/
def tCallV (X : Cx) (lv n : Nat) (ks : List Str) (E : L2.St → XK) (tf : TE) (t tk : TA) : TE := fun σ H Q => tf σ H fun x H1 => ∃ (f : Addr) (fd : FuncData) (ps : List Str) (gp : List Value → List Value → List Value) (gV : List V → List V → List V) (sp : Sp), x = .ref f ∧ PySem.W.keepIn X.K (.ref f) = true ∧
  KBn X.K fd ps n ks gp gV ∧ FnOk X.prog X.w X.K X.mg X.base (L2N.CX X.prog X.w) lv f fd ps sp ∧ t σ H1 fun vs H2 => tk σ H2 fun zs H3 => vs.length = n ∧ zs.length = ks.length ∧ sp (gV vs zs) H3 Q (E σ)
theorem pe_callV {n : Nat} {ks : List Str} {E : L2.St → XK} {tf : TE} {t tk : TA} {func : Expr} (hr : Room lv X.A) (hx : ∀ σ, PassesAt (L2N.CX X.prog X.w) X σ (E σ)) (hf : PE X func tf) (ha : PA X (e :: es) t) (hkw : PK X kws tk)
    (hev : eval (.Call func (e :: es) kws pos) X.env = (eval func X.env >>= fun f => callWith pos f [] (backTo pos (starEach (e :: es) X.env)) (backToKw pos (keywordEach kws X.env))) := by rfl)
    (hall : (backToKw pos (keywordEach kws X.env)).all (·.1.isSome) = true := by rfl) (hks : (backToKw pos (keywordEach kws X.env)).filterMap (·.1) = ks := by rfl) (he : starEach (e :: es) X.env = (false, eval e X.env) :: starEach es X.env := by rfl)
    (hpl : ((backTo pos (starEach (e :: es) X.env)).any (·.1) || (backToKw pos (keywordEach kws X.env)).any (·.1.isNone)) = false := by rfl) : PE X (.Call func (e :: es) kws pos) (tCallV X lv n ks E tf t tk) := by
  refine ⟨fun pins s σ H Q I h => ?_⟩
  rw [hev]
  refine wpAny_bind (thn (hf.run pins s σ H _ I h) fun fv s1 ⟨x, H1, I1, rx, f, fd, ps, gp, gV, sp, ex, hk, hb, Fn, q⟩ => ?_)
  subst ex
  obtain rfl : fv = Value.ref f := rx
  refine PySem.W.callWith_KW (h₀ := X.base) I1.ok.mod.kin hk hall (thn (ha.run pos pins s1 σ H1 _ I1 q) fun us s2 ⟨vs, H2, I2, r, q2⟩ => ?_) hpl he
  refine thn (hkw.run pos pins s2 σ H2 _ I2 q2) fun ws s3 ⟨zs, H3, I3, rz, l1, l2, q3⟩ => ⟨I3.kIn, ?_⟩
  rw [hks]
  exact run_kw Fn hr hb (hx σ) I3 r rz l1 l2 q3
theorem pe_callV0 {ks : List Str} {E : L2.St → XK} {tf : TE} {tk : TA} {func : Expr} (hr : Room lv X.A) (hx : ∀ σ, PassesAt (L2N.CX X.prog X.w) X σ (E σ)) (hf : PE X func tf) (hkw : PK X kws tk)
    (hev : eval (.Call func [] kws pos) X.env = (eval func X.env >>= fun f => callWith pos f [] (backTo pos (starEach [] X.env)) (backToKw pos (keywordEach kws X.env))) := by rfl)
    (hall : (backToKw pos (keywordEach kws X.env)).all (·.1.isSome) = true := by rfl) (hks : (backToKw pos (keywordEach kws X.env)).filterMap (·.1) = ks := by rfl)
    (hpl : ((backTo pos (starEach [] X.env)).any (·.1) || (backToKw pos (keywordEach kws X.env)).any (·.1.isNone)) = false := by rfl) : PE X (.Call func [] kws pos) (tCallV X lv 0 ks E tf tNil tk) := by
  refine ⟨fun pins s σ H Q I h => ?_⟩
  rw [hev]
  refine wpAny_bind (thn (hf.run pins s σ H _ I h) fun fv s1 ⟨x, H1, I1, rx, f, fd, ps, gp, gV, sp, ex, hk, hb, Fn, q⟩ => ?_)
  subst ex
  obtain rfl : fv = Value.ref f := rx
  refine PySem.W.callWith_KW0 (h₀ := X.base) I1.ok.mod.kin hk hall (thn (hkw.run pos pins s1 σ H1 _ I1 q) fun ws s3 ⟨zs, H3, I3, rz, l1, l2, q3⟩ => ⟨I3.kIn, ?_⟩) hpl
  rw [hks]
  exact run_kw Fn hr hb (hx σ) I3 .nil rz l1 l2 q3
/-- .. in terms of trees: the defs that may stand there, by their numbers -/
def gCallV (tbl : Nat → Option G) (gD : List D → List D → List D) (gf : G) (gs gks : GA) : G := fun env => (gf env).bind fun env1 d => match d with
  | .at_ i => match tbl i with
    | some g => (gs env1).bind fun env2 ds => (gks env2).bind fun env3 zs => ret0 env3 (g ((gD ds zs).map some))
    | none => .stuck
  | _ => .stuck
theorem out_callV {tbl : Nat → Option G} {gD : List D → List D → List D} {n m : Nat} {ks : List Str} (hn : Cnt gs n) (hks : Cnt gks ks.length) (hD : ∀ ds es : List D, ds.length = n → es.length = ks.length → (gD ds es).length = m)
    (hT : ∀ i g, tbl i = some g → KwD X T lv (T.at_ i) n ks gD (spS T [] m g)) {σ : L2.St} {H : Hp} {Q : VK} (w : tS T W ms (gCallV tbl gD gf gs gks) σ H Q) : tCallV X lv n ks (WE W) (tS T W ms gf) (tA T W ms gs) (tA T W ms gks) σ H Q := by
  obtain ⟨F, env, fp, gd, o⟩ := w
  refine ⟨F, env, fp, gd, Out.bind o fun env1 d H1 F1 fp1 v g1 r1 o1 => ?_⟩
  cases d with
  | at_ i =>
    simp only at o1
    cases ht : tbl i with
    | none => rw [ht] at o1; exact o1.elim
    | some g =>
      rw [ht] at o1
      obtain ⟨fd, ps, gp, gV, h1, h2, h3, h4⟩ := (hT i g ht).ex
      refine ⟨T.at_ i, fd, ps, gp, gV, _, r1, h1, h2, h3, F1, env1, fp1, g1, ?_⟩
      cases q : gs env1 with
      | err env2 x => rw [q] at o1; exact o1
      | stuck => rw [q] at o1; exact o1
      | ok env2 ds =>
        rw [q] at o1
        intro H2 F2 fp2 vs s2 g2 r2
        have o2 := Out.step o1 s2
        simp only [Res.bind_ok] at o2
        refine ⟨F2, env2, fp2, g2, ?_⟩
        cases q2 : gks env2 with
        | err env3 x => rw [q2] at o2; exact o2
        | stuck => rw [q2] at o2; exact o2
        | ok env3 zs =>
          rw [q2] at o2
          intro H3 F3 fp3 us s3 g3 r3
          have e1 := hn _ _ _ q
          have e2 := hks _ _ _ q2
          refine ⟨by rw [r2.length, e1], by rw [r3.length, e2], ?_⟩
          have r2' : RepL T F3 ds vs := r2.mono s3.grow
          exact spS_of g3 (h4 F3 _ _ _ _ r2' r3) (hD _ _ e1 e2) (Out.step o2 s3)
  | _ => exact o1.elim
theorem out_callVP {tbl : Nat → Option G} {gD : List D → List D → List D} {n m : Nat} {ks : List Str} (hn : Cnt gs n) (hks : Cnt gks ks.length) (hD : ∀ ds es : List D, ds.length = n → es.length = ks.length → (gD ds es).length = m)
    (hT : ∀ i g, tbl i = some g → KwD X T lv (T.at_ i) n ks gD (spP T [] m k g)) {σ : L2.St} {H : Hp} {Q : VK} (w : tP T W ms k (gCallV tbl gD gf gs gks) σ H Q) : tCallV X lv n ks (WE W) (tS T W ms gf) (tA T W ms gs) (tA T W ms gks) σ H Q := by
  obtain ⟨F, env, fp, gd, o⟩ := w
  refine ⟨F, env, fp, gd, OutP.bind o fun env1 d H1 F1 fp1 v g1 r1 o1 => ?_⟩
  cases d with
  | at_ i =>
    simp only at o1
    cases ht : tbl i with
    | none => rw [ht] at o1; exact o1.elim
    | some g =>
      rw [ht] at o1
      obtain ⟨fd, ps, gp, gV, h1, h2, h3, h4⟩ := (hT i g ht).ex
      refine ⟨T.at_ i, fd, ps, gp, gV, _, r1, h1, h2, h3, F1, env1, fp1, g1, ?_⟩
      cases q : gs env1 with
      | err env2 x => rw [q] at o1; exact o1
      | stuck => rw [q] at o1; exact o1
      | ok env2 ds =>
        rw [q] at o1
        intro H2 F2 fp2 vs s2 g2 r2
        have o2 := OutP.step o1 s2
        simp only [Res.bind_ok] at o2
        refine ⟨F2, env2, fp2, g2, ?_⟩
        cases q2 : gks env2 with
        | err env3 x => rw [q2] at o2; exact o2
        | stuck => rw [q2] at o2; exact o2
        | ok env3 zs =>
          rw [q2] at o2
          intro H3 F3 fp3 us s3 g3 r3
          have e1 := hn _ _ _ q
          have e2 := hks _ _ _ q2
          refine ⟨by rw [r2.length, e1], by rw [r3.length, e2], ?_⟩
          exact spS_ofP g3 (h4 F3 _ _ _ _ (r2.mono s3.grow) r3) (hD _ _ e1 e2) (OutP.step o2 s3)
  | _ => exact o1.elim
end
end TL

set_option Elab.async false
set_option linter.all false
set_option maxRecDepth 100000
set_option maxHeartbeats 1000000
namespace TLK
open PySem PySem.Spec PyProof.Rows
section
variable {prog : Program} {w : World} {A : Around} {E : Value → Shared → Prop} {s : Shared} {K : PySem.W.Frag} {x C f : Addr} {ox : Obj} {od : Option Obj} {b tb : Value}
theorem bind_ne (v : Value) : bindSpecial (.builtin "object.__ne__") v = pure (.builtin "object.__ne__", [v]) := F.slot_object_ne.bind v
theorem ifBound_B {M : Model} {args : List Value} {name : Str} {Q : Option Value → Shared → Prop} (X : K.In s.heap) (I : PySem.W.InstAt s.heap x ox C od) (hs : PySem.W.findIn K (.ref C) name = some (some (.builtin "object.__ne__")))
    (h : wpAny M A (call (.builtin "object.__ne__") (.ref x :: args)) (fun v => Q (some v)) E s) : wpAny M A (callSpecialIfBound? (.ref x) name args) Q E s := by
  simp only [callSpecialIfBound?, bindSpecialIfBound?]
  refine wpAny_holding (wpAny_bind (wpAny_bind (wpAny_bind (I.type.here ((PySem.W.looks_findIn X hs).here ?_)))))
  simp only [bind_ne]
  have fin : wpAny M A (call (.builtin "object.__ne__") ([.ref x] ++ args) >>= fun v => pure (some v)) Q E s := wpAny_bind (wpAny_mono h (fun v s' z => wpAny_pure z) fun _ _ z => z)
  refine wpAny_bind (wpAny_askSetting (wpAny_ite ?_))
  split
  · exact wpAny_bind (wpAny_pure (wpAny_pure fin))
  · exact wpAny_tryCatch (wpAny_bind (wpAny_pure (wpAny_pure fin)))
/-- x != b by the class's own __eq__, object.__ne__ between -/
theorem ne_K {h₀ : Heap} {Q : Value → Shared → Prop} (hu : A.units + 1 < cLine) (X : K.In s.heap) (I : PySem.W.InstAt s.heap x ox C od) (hb : PySem.W.Looks (model prog w) s.heap (typeOf b) tb) (hn : PySem.W.notFirst K C tb = true)
    (hne : PySem.W.findIn K (.ref C) "__ne__" = some (some (.builtin "object.__ne__"))) (he : PySem.W.findIn K (.ref C) "__eq__" = some (some (.ref f))) (hf : PySem.W.isFn K (.ref f) = true) (hob : PySem.W.mroIn K C (.type "object") = some true)
    (h : wpAny (model prog w) A.in1 (call (.ref f) [.ref x, b]) (fun v s' => ∃ r, v = .bool r ∧ Q (.bool (!r)) s') E s) : wpAny (model prog w) A (richCompare .NotEq (.ref x) b) Q E s := by
  have obj : PySem.W.Looks (model prog w) s.heap (isInstance (.ref x) (.type "object")) true := I.type.andThen (PySem.W.looks_mroIn X hob)
  have one : wpAny (model prog w) A (tryCompare (.ref x) "__ne__" b) (fun r s' => ∃ v, r = some v ∧ Q v s') E s := by
    unfold tryCompare
    refine wpAny_bind (ifBound_B X I hne (wpAny_call (codeAny_call_builtin F.slot_object_ne.plain F.cmpEntry_ne (PySem.W.check_slot F.cmpKind_ne F.cmpSplit_ne obj (F.cmpArgs_ne _ _) ?_))))
    unfold Builtin.«object.__ne__»
    refine wpAny_bind (m := slotArgs _ _ _) (wpAny_pure ?_)
    refine wpAny_bind (wpAny_cRoomFor (show A.in1.units < cLine from hu) ?_)
    refine wpAny_bind (PySem.W.ifBound_K X I he hf (wpAny_mono h (fun v s' hv => ?_) fun _ _ z => z))
    obtain ⟨r, rfl, q⟩ := hv
    exact wpAny_bind (wpAny_truthy_bool (wpAny_pure (wpAny_pure ⟨_, rfl, q⟩)))
  unfold richCompare
  simp only [oneThing_ref]
  refine wpAny_holding (wpAny_bind (wpAny_cRoomFor (Nat.lt_of_succ_lt hu) ?_))
  refine wpAny_bind (I.type.here (wpAny_bind (hb.here ?_)))
  have fin : wpAny (model prog w) A (tryCompare (.ref x) "__ne__" b) (fun r s' => ∃ v, r = some v ∧ Q v s') E s := one
  split
  · rename_i q
    have e : PySem.W.subIn K tb (.ref C) = some false := by
      rcases Bool.or_eq_true_iff.mp hn with e | e
      · rw [beq_iff_eq.mp e] at q; simp at q
      · exact beq_iff_eq.mp e
    refine wpAny_bind ((PySem.W.looks_subIn X e).here ?_)
    simp only [Bool.false_eq_true, if_false]
    refine wpAny_bind (wpAny_mono fin (fun r s' z => ?_) fun _ _ z => z)
    obtain ⟨v, rfl, hq⟩ := z
    exact wpAny_pure hq
  · refine wpAny_bind (wpAny_pure ?_)
    simp only [Bool.false_eq_true, if_false]
    refine wpAny_bind (wpAny_mono fin (fun r s' z => ?_) fun _ _ z => z)
    obtain ⟨v, rfl, hq⟩ := z
    exact wpAny_pure hq
end
end TLK

namespace TL
open PySem PySem.Spec PyProof.Rows L2
section
variable {X : Cx} {T : Tb} {n m lv : Nat} {own : Nat → D → D → Option Bool} {c : Nat} {g : G}
theorem rn_own {ok : D → Bool} (hK : T.K = X.K) (hF : OpD X T n c "__eq__" (spS T [] 2 g)) (cm : PySem.W.mroIn X.K (T.cl c) (.type "object") = some true) (hne : PySem.W.findIn X.K (.ref (T.cl c)) "__ne__" = some (some (.builtin "object.__ne__")))
    (hn : ∀ y, ok y = true → ∃ t, tyD T y = some t ∧ PySem.W.notFirst X.K (T.cl c) t = true) {fs : List D} {d : D} {c' : Nat} {b : Bool} (h : ownE ok c g c' (.obj c' fs) d = some b) : RcT X T true (n + 1) (.obj c' fs) d b := by
  obtain ⟨f, fd, ps, h1, h2, h3, h4⟩ := hF.ex
  intro A pins s σ H F x y u v sb I sub r1 r2 ru rv
  unfold ownE at h
  split at h
  · rename_i hc
    obtain ⟨hc1, hc2⟩ := Bool.and_eq_true_iff.mp hc
    have hc1 : c' = c := of_decide_eq_true hc1
    subst hc1
    obtain ⟨t, ht, hnf⟩ := hn d hc2
    obtain ⟨a, dx, od, e1, e2, J, gs, _⟩ := inst_of I sub r1 ru
    subst e1 e2
    split at h
    · rename_i b' hb
      cases h
      have hsp : spS T [] 2 g [.ref a, y] H (fun w H' => w = .bl b ∧ ∃ F', Ext0 H F H' F') E0 := spS_nox (ds := [.obj c' fs, d]) sub (by unfold RepL; exact ⟨_, _, rfl, r1, RepL.one r2⟩) rfl hb fun H' F' w ex rw' => ⟨rw', F', ex⟩
      have su := sb.room.un
      refine TLK.ne_K (h₀ := s.heap) (by omega) I.kIn J (looks_ty hK I sub r2 rv ht) hnf hne h1 h2 cm ?_
      have e0 : Env0 X.prog X.w X.K X.mg X.base A.in1 X.stack s H := by
        have e := I.env0
        exact ⟨by rw [show A.in1.frames = A.frames from rfl, sb.fr]; exact e.frames, e.mod, e.bs, e.bsz, e.funs, e.frf, e.hok, e.bare⟩
      have hl := h4.len _ _ _ _ hsp
      have r2' : Vals [V.ref a, y] [Value.ref a, v] := .cons rfl (.cons rv .nil)
      refine wpAny_call (codeAny_mono (h4.run A.in1 X.stack s H ⟨[.ref a, v], []⟩ [.ref a, v] [.ref a, y] _ E0 sb.room.in1 e0 (by
        have := h3 s [.ref a, v] I.kIn (by simpa using hl)
        simpa using this) r2' hsp) fun r s' hq => ?_)
      cases r with
      | error e => exact passN pins σ H s e s' I hq
      | ok fl =>
        cases fl with
        | ret w =>
          obtain ⟨z, H', I', rz, ez, F', ex⟩ := I.after hq
          subst ez
          cases rz
          exact ⟨b, rfl, rfl, H', F', I', ex⟩
        | next => exact False.elim hq
        | brk => exact False.elim hq
        | cont => exact False.elim hq
    · cases h
  · cases h
/-- == and != by own answers, of instances too -/
structure OwnN (X : Cx) (T : Tb) (n : Nat) (own : Nat → D → D → Option Bool) : Prop extends OwnQ X T n own where
  rn : ∀ {c fs d b}, own c (.obj c fs) d = some b → RcT X T true (n + 1) (.obj c fs) d b
def hNq (own : Nat → D → D → Option Bool) (N : Nat) : D → D → Option D := fun x y => if dep x ≤ N then (deq own x y).map fun b => .bl !b else none
theorem rcN_own (hK : T.K = X.K) (O : OwnN X T n own) (N : Nat) {d1 d2 : D} {b : Bool} (hd : dep d1 ≤ N) (h : deq own d1 d2 = some b) : RcT X T true (n + 1 + N) d1 d2 b := by
  cases d1 with
  | obj c fs =>
    have h' : own c (.obj c fs) d2 = some b := by unfold deq at h; exact h
    exact (O.rn h').mono (by omega)
  | lst xs => exact (rcN_all hK O.toOwnQ N hd (by unfold dne; exact h)).mono (by omega)
  | _ => exact (rcN_all hK O.toOwnQ N hd (by unfold dne; exact h)).mono (by omega)
theorem ops_nq (hK : T.K = X.K) (O : OwnN X T n own) (N : Nat) (hr : Room (n + 1 + N) X.A) : OpS X T (compareOp .NotEq) (hNq own N) := by
  intro pins s σ H x y v u Q I rx ry ⟨F, dx, dy, d, sub, r1, r2, e, q⟩
  unfold hNq at e
  split at e
  · rename_i hd
    cases hq : deq own dx dy with
    | none => rw [hq] at e; cases e
    | some b =>
      rw [hq] at e
      cases e
      refine wpAny_mono (rcN_own hK O N hd hq X.A pins s σ H F x y v u ⟨hr, rfl⟩ I sub r1 r2 rx ry) (fun r s' z => ?_) fun _ _ z => z
      obtain ⟨er, H', F', I', ex⟩ := z
      subst er
      exact ⟨.bl (!b), H', I', rfl, q H' F' _ ex rfl⟩
  · cases e
/-- tables by classes: one class after the other -/
def ownOr (p q : Nat → D → D → Option Bool) : Nat → D → D → Option Bool := fun c x y => match p c x y with
  | some b => some b
  | none => q c x y
theorem OwnN.or {p q : Nat → D → D → Option Bool} (a : OwnN X T n p) (b : OwnN X T n q) : OwnN X T n (ownOr p q) where
  rc := fun {c fs d t} h => by
    unfold ownOr at h
    split at h
    · rename_i z; cases h; exact a.rc z
    · exact b.rc h
  same := fun {c fs d t _ _ _ _ _ _ _} I s r1 r2 ru h => by
    unfold ownOr at h
    split at h
    · rename_i z; cases h; exact a.same I s r1 r2 ru z
    · exact b.same I s r1 r2 ru h
  rn := fun {c fs d t} h => by
    unfold ownOr at h
    split at h
    · rename_i z; cases h; exact a.rn z
    · exact b.rn h
theorem OwnN.mono {p : Nat → D → D → Option Bool} (a : OwnN X T n p) (h : n ≤ m) : OwnN X T m p := ⟨⟨fun z => (a.rc z).mono h, a.same⟩, fun z => (a.rn z).mono (by omega)⟩
end
end TL

set_option Elab.async false
set_option linter.all false
set_option maxRecDepth 100000
set_option maxHeartbeats 1000000
namespace TL
open PySem PySem.Spec PyProof.Rows L2

/-! ### methods with keywords -/
structure KwM (X : Cx) (T : Tb) (lv : Nat) (c : Nat) (m : Str) (n : Nat) (ks : List Str) (gD : List D → List D → List D) (sp : Sp) : Prop where
  ex : ∃ (f : Addr) (fd : FuncData) (ps : List Str) (gp : List Value → List Value → List Value) (gV : List V → List V → List V), Meth X.K (T.cl c) m f ∧ KBn X.K fd ps (n + 1) ks gp gV ∧ FnOk X.prog X.w X.K X.mg X.base (L2N.CX X.prog X.w) lv f fd ps sp ∧
    ∀ (F : Hp) (ds es : List D) (vs zs : List V), RepL T F ds vs → RepL T F es zs → RepL T F (gD ds es) (gV vs zs)
  no : m ∉ T.fl c
section
variable {X : Cx} {T : Tb} {ms : List Mode} {W : WX} {e o : Expr} {es : List Expr} {pos apos : Pos} {ga g : G} {gs gks : GA} {k : Mode} {kws : List Keyword} {lv n c : Nat} {ks : List Str} {m : Str} {C : Addr}
def tMethK (C : Addr) (m : Str) (n : Nat) (ks : List Str) (sp : Sp) (gV : List V → List V → List V) (E : L2.St → XK) (ta : TE) (t tk : TA) : TE := fun σ H Q => ta σ H fun x H1 => ∃ a dx fs, x = .ref a ∧ H1 a = some (.ins C dx fs) ∧ fs.lookup m = none ∧
  t σ H1 fun vs H2 => tk σ H2 fun zs H3 => vs.length = n ∧ zs.length = ks.length ∧ sp (gV (x :: vs) zs) H3 Q (E σ)
theorem pe_methK {pl : Sem Bool} {f : Addr} {fd : FuncData} {ps : List Str} {gp : List Value → List Value → List Value} {gV : List V → List V → List V} {sp : Sp} {E : L2.St → XK} {ta : TE} {t tk : TA} (he : PE X o ta) (cC : Cls X.K C) (hm : Meth X.K C m f) (Fn : FnOk X.prog X.w X.K X.mg X.base (L2N.CX X.prog X.w) lv f fd ps sp) (hr : Room lv X.A)
    (hb : KBn X.K fd ps (n + 1) ks gp gV) (hx : ∀ σ, PassesAt (L2N.CX X.prog X.w) X σ (E σ)) (ha : PA X (e :: es) t) (hkw : PK X kws tk)
    (hall : (backToKw pos (keywordEach kws X.env)).all (·.1.isSome) = true := by rfl) (hks : (backToKw pos (keywordEach kws X.env)).filterMap (·.1) = ks := by rfl) (hst : starEach (e :: es) X.env = (false, eval e X.env) :: starEach es X.env := by rfl)
    (hpl : ((backTo pos (starEach (e :: es) X.env)).any (·.1) || (backToKw pos (keywordEach kws X.env)).any (·.1.isNone)) = false := by rfl)
    (ht : eval (.Call (.Attribute o m apos) (e :: es) kws pos) X.env = (do
      let ov ← eval o X.env
      standAt apos.atName
      let (f, first) ← holding [ov] (getMethod ov m pl)
      callWith pos f first (backTo pos (starEach (e :: es) X.env)) (backToKw pos (keywordEach kws X.env))) := by rfl) :
    PE X (.Call (.Attribute o m apos) (e :: es) kws pos) (tMethK C m n ks sp gV E ta t tk) := by
  refine ⟨fun pins s σ H Q I h => PySem.W.methodCall_KW (pl := pl) (thn (he.run pins s σ H _ I h) fun u s1 ⟨x, H1, I1, rx, a, dx, fs, ex, ea, l, q⟩ => ?_) ht⟩
  subst ex
  obtain rfl : u = Value.ref a := rx
  refine getmeth_ok I1 ea cC hm l ?_
  refine PySem.W.callWith_KW (first := [.ref a]) (h₀ := X.base) I1.ok.mod.kin hm.kp hall (thn (ha.run pos pins s1 σ H1 _ I1 q) fun us s2 ⟨vs, H2, I2, r, q2⟩ => ?_) hpl hst
  refine thn (hkw.run pos pins s2 σ H2 _ I2 q2) fun ws s3 ⟨zs, H3, I3, rz, l1, l2, q3⟩ => ⟨I3.kIn, ?_⟩
  rw [hks]
  exact run_kw (us := .ref a :: us) (vs := .ref a :: vs) Fn hr hb (hx σ) I3 (.cons rfl r) rz (by rw [List.length_cons, l1]) l2 q3
theorem pe_methK0 {pl : Sem Bool} {f : Addr} {fd : FuncData} {ps : List Str} {gp : List Value → List Value → List Value} {gV : List V → List V → List V} {sp : Sp} {E : L2.St → XK} {ta : TE} {tk : TA} (he : PE X o ta) (cC : Cls X.K C) (hm : Meth X.K C m f) (Fn : FnOk X.prog X.w X.K X.mg X.base (L2N.CX X.prog X.w) lv f fd ps sp) (hr : Room lv X.A)
    (hb : KBn X.K fd ps (0 + 1) ks gp gV) (hx : ∀ σ, PassesAt (L2N.CX X.prog X.w) X σ (E σ)) (hkw : PK X kws tk)
    (hall : (backToKw pos (keywordEach kws X.env)).all (·.1.isSome) = true := by rfl) (hks : (backToKw pos (keywordEach kws X.env)).filterMap (·.1) = ks := by rfl)
    (hpl : ((backTo pos (starEach [] X.env)).any (·.1) || (backToKw pos (keywordEach kws X.env)).any (·.1.isNone)) = false := by rfl)
    (ht : eval (.Call (.Attribute o m apos) [] kws pos) X.env = (do
      let ov ← eval o X.env
      standAt apos.atName
      let (f, first) ← holding [ov] (getMethod ov m pl)
      callWith pos f first (backTo pos (starEach [] X.env)) (backToKw pos (keywordEach kws X.env))) := by rfl) :
    PE X (.Call (.Attribute o m apos) [] kws pos) (tMethK C m 0 ks sp gV E ta tNil tk) := by
  refine ⟨fun pins s σ H Q I h => PySem.W.methodCall_KW (pl := pl) (thn (he.run pins s σ H _ I h) fun u s1 ⟨x, H1, I1, rx, a, dx, fs, ex, ea, l, q⟩ => ?_) ht⟩
  subst ex
  obtain rfl : u = Value.ref a := rx
  refine getmeth_ok I1 ea cC hm l ?_
  refine PySem.W.callWith_KW0 (first := [.ref a]) (h₀ := X.base) I1.ok.mod.kin hm.kp hall (thn (hkw.run pos pins s1 σ H1 _ I1 q) fun ws s3 ⟨zs, H3, I3, rz, l1, l2, q3⟩ => ⟨I3.kIn, ?_⟩) hpl
  rw [hks]
  exact run_kw (us := [.ref a]) (vs := [.ref a]) Fn hr hb (hx σ) I3 (.cons rfl .nil) rz rfl l2 q3
def gMethK (c : Nat) (g : G) (gD : List D → List D → List D) (ga : G) (gs gks : GA) : G := fun env => (ga env).bind fun env1 d => match d with
  | .obj c' fs => if c' = c then (gs env1).bind fun env2 ds => (gks env2).bind fun env3 zs => ret0 env3 (g ((gD (.obj c fs :: ds) zs).map some)) else .stuck
  | _ => .stuck
theorem out_methK {gD : List D → List D → List D} {gV : List V → List V → List V} {cnt : Nat} (hno : m ∉ T.fl c) (hn : Cnt gs n) (hks : Cnt gks ks.length) (hD : ∀ ds es : List D, ds.length = n + 1 → es.length = ks.length → (gD ds es).length = cnt)
    (rel : ∀ (F : Hp) (ds es : List D) (vs zs : List V), RepL T F ds vs → RepL T F es zs → RepL T F (gD ds es) (gV vs zs)) {σ : L2.St} {H : Hp} {Q : VK} (w : tS T W ms (gMethK c g gD ga gs gks) σ H Q) :
    tMethK (T.cl c) m n ks (spS T [] cnt g) gV (WE W) (tS T W ms ga) (tA T W ms gs) (tA T W ms gks) σ H Q := by
  obtain ⟨F, env, fp, gd, o⟩ := w
  refine ⟨F, env, fp, gd, Out.bind o fun env1 d H1 F1 fp1 v g1 r1 o1 => ?_⟩
  cases d with
  | obj c' fs =>
    simp only at o1
    split at o1
    · rename_i hc
      subst hc
      have r1' := r1
      unfold Rep at r1'
      obtain ⟨a, dx, vs, e1, q, l, r⟩ := r1'
      refine ⟨a, dx, _, e1, g1.sub _ _ q, lookup_zip_none hno, F1, env1, fp1, g1, ?_⟩
      cases qs : gs env1 with
      | err env2 x => rw [qs] at o1; exact o1
      | stuck => rw [qs] at o1; exact o1
      | ok env2 ds =>
        rw [qs] at o1
        intro H2 F2 fp2 us s2 g2 r2
        have o2 := Out.step o1 s2
        simp only [Res.bind_ok] at o2
        refine ⟨F2, env2, fp2, g2, ?_⟩
        cases q2 : gks env2 with
        | err env3 x => rw [q2] at o2; exact o2
        | stuck => rw [q2] at o2; exact o2
        | ok env3 zs =>
          rw [q2] at o2
          intro H3 F3 fp3 ws s3 g3 r3
          have e1 := hn _ _ _ qs
          have e2 := hks _ _ _ q2
          refine ⟨by rw [r2.length, e1], by rw [r3.length, e2], ?_⟩
          refine spS_of g3 (rel F3 _ _ _ _ ?_ r3) (hD _ _ (by rw [List.length_cons, e1]) e2) (Out.step o2 s3)
          unfold RepL
          exact ⟨v, us, rfl, (r1.mono s2.grow).mono s3.grow, r2.mono s3.grow⟩
    · exact o1.elim
  | _ => exact o1.elim
theorem out_methKP {gD : List D → List D → List D} {gV : List V → List V → List V} {cnt : Nat} (hno : m ∉ T.fl c) (hn : Cnt gs n) (hks : Cnt gks ks.length) (hD : ∀ ds es : List D, ds.length = n + 1 → es.length = ks.length → (gD ds es).length = cnt)
    (rel : ∀ (F : Hp) (ds es : List D) (vs zs : List V), RepL T F ds vs → RepL T F es zs → RepL T F (gD ds es) (gV vs zs)) {σ : L2.St} {H : Hp} {Q : VK} (w : tP T W ms k (gMethK c g gD ga gs gks) σ H Q) :
    tMethK (T.cl c) m n ks (spP T [] cnt k g) gV (WE W) (tS T W ms ga) (tA T W ms gs) (tA T W ms gks) σ H Q := by
  obtain ⟨F, env, fp, gd, o⟩ := w
  refine ⟨F, env, fp, gd, OutP.bind o fun env1 d H1 F1 fp1 v g1 r1 o1 => ?_⟩
  cases d with
  | obj c' fs =>
    simp only at o1
    split at o1
    · rename_i hc
      subst hc
      have r1' := r1
      unfold Rep at r1'
      obtain ⟨a, dx, vs, e1, q, l, r⟩ := r1'
      refine ⟨a, dx, _, e1, g1.sub _ _ q, lookup_zip_none hno, F1, env1, fp1, g1, ?_⟩
      cases qs : gs env1 with
      | err env2 x => rw [qs] at o1; exact o1
      | stuck => rw [qs] at o1; exact o1
      | ok env2 ds =>
        rw [qs] at o1
        intro H2 F2 fp2 us s2 g2 r2
        have o2 := OutP.step o1 s2
        simp only [Res.bind_ok] at o2
        refine ⟨F2, env2, fp2, g2, ?_⟩
        cases q2 : gks env2 with
        | err env3 x => rw [q2] at o2; exact o2
        | stuck => rw [q2] at o2; exact o2
        | ok env3 zs =>
          rw [q2] at o2
          intro H3 F3 fp3 ws s3 g3 r3
          have e1 := hn _ _ _ qs
          have e2 := hks _ _ _ q2
          refine ⟨by rw [r2.length, e1], by rw [r3.length, e2], ?_⟩
          refine spS_ofP g3 (rel F3 _ _ _ _ ?_ r3) (hD _ _ (by rw [List.length_cons, e1]) e2) (OutP.step o2 s3)
          unfold RepL
          exact ⟨v, us, rfl, (r1.mono s2.grow).mono s3.grow, r2.mono s3.grow⟩
    · exact o1.elim
  | _ => exact o1.elim
section
variable {pl : Sem Bool} {gD : List D → List D → List D} {cnt : Nat}
/-- o.m(k = v, ..) -/
theorem se_methK0 (cd : ClsD X T c) (hF : KwM X T lv c m 0 ks gD (spS T [] cnt g)) (hr : Room lv X.A) (tk : L2N.Takes X W) (ho : SE X T W ms o ga) (hkw : SK X T W ms kws gks) (hks : Cnt gks ks.length) (hD : ∀ ds es : List D, ds.length = 0 + 1 → es.length = ks.length → (gD ds es).length = cnt)
    (hall : (backToKw pos (keywordEach kws X.env)).all (·.1.isSome) = true := by rfl) (hk : (backToKw pos (keywordEach kws X.env)).filterMap (·.1) = ks := by rfl) (hpl : ((backTo pos (starEach [] X.env)).any (·.1) || (backToKw pos (keywordEach kws X.env)).any (·.1.isNone)) = false := by rfl)
    (ht : eval (.Call (.Attribute o m apos) [] kws pos) X.env = (do
      let ov ← eval o X.env
      standAt apos.atName
      let (f, first) ← holding [ov] (getMethod ov m pl)
      callWith pos f first (backTo pos (starEach [] X.env)) (backToKw pos (keywordEach kws X.env))) := by rfl) : SE X T W ms (.Call (.Attribute o m apos) [] kws pos) (gMethK c g gD ga gNil gks) := by
  obtain ⟨f, fd, ps, gp, gV, h1, h2, h3, h4⟩ := hF.ex
  refine PE.imp (pe_methK0 (E := WE W) ho cd.cls h1 h3 hr h2 (fun σ => L2N.passAt tk σ) hkw hall hk hpl ht) fun σ H Q w => ?_
  obtain ⟨F, env, fp, gd, z⟩ := out_methK hF.no cnt_nil hks hD h4 w
  exact ⟨F, env, fp, gd, Out.mono z fun v H1 ⟨a, dx, fs, e1, e2, e3, q⟩ => ⟨a, dx, fs, e1, e2, e3, tA_nil q⟩⟩
theorem sp_methK0 (cd : ClsD X T c) (hF : KwM X T lv c m 0 ks gD (spP T [] cnt k g)) (hr : Room lv X.A) (tk : L2N.Takes X W) (ho : SE X T W ms o ga) (hkw : SK X T W ms kws gks) (hks : Cnt gks ks.length) (hD : ∀ ds es : List D, ds.length = 0 + 1 → es.length = ks.length → (gD ds es).length = cnt)
    (hall : (backToKw pos (keywordEach kws X.env)).all (·.1.isSome) = true := by rfl) (hk : (backToKw pos (keywordEach kws X.env)).filterMap (·.1) = ks := by rfl) (hpl : ((backTo pos (starEach [] X.env)).any (·.1) || (backToKw pos (keywordEach kws X.env)).any (·.1.isNone)) = false := by rfl)
    (ht : eval (.Call (.Attribute o m apos) [] kws pos) X.env = (do
      let ov ← eval o X.env
      standAt apos.atName
      let (f, first) ← holding [ov] (getMethod ov m pl)
      callWith pos f first (backTo pos (starEach [] X.env)) (backToKw pos (keywordEach kws X.env))) := by rfl) : SP' X T W ms k (.Call (.Attribute o m apos) [] kws pos) (gMethK c g gD ga gNil gks) := by
  obtain ⟨f, fd, ps, gp, gV, h1, h2, h3, h4⟩ := hF.ex
  refine PE.imp (pe_methK0 (E := WE W) ho cd.cls h1 h3 hr h2 (fun σ => L2N.passAt tk σ) hkw hall hk hpl ht) fun σ H Q w => ?_
  obtain ⟨F, env, fp, gd, z⟩ := out_methKP hF.no cnt_nil hks hD h4 w
  exact ⟨F, env, fp, gd, Out.mono z fun v H1 ⟨a, dx, fs, e1, e2, e3, q⟩ => ⟨a, dx, fs, e1, e2, e3, tA_nil q⟩⟩
theorem se_methK (cd : ClsD X T c) (hF : KwM X T lv c m n ks gD (spS T [] cnt g)) (hr : Room lv X.A) (tk : L2N.Takes X W) (ho : SE X T W ms o ga) (ha : SA X T W ms (e :: es) gs) (hn : Cnt gs n) (hkw : SK X T W ms kws gks) (hks : Cnt gks ks.length) (hD : ∀ ds es : List D, ds.length = n + 1 → es.length = ks.length → (gD ds es).length = cnt)
    (hall : (backToKw pos (keywordEach kws X.env)).all (·.1.isSome) = true := by rfl) (hk : (backToKw pos (keywordEach kws X.env)).filterMap (·.1) = ks := by rfl) (hst : starEach (e :: es) X.env = (false, eval e X.env) :: starEach es X.env := by rfl)
    (hpl : ((backTo pos (starEach (e :: es) X.env)).any (·.1) || (backToKw pos (keywordEach kws X.env)).any (·.1.isNone)) = false := by rfl)
    (ht : eval (.Call (.Attribute o m apos) (e :: es) kws pos) X.env = (do
      let ov ← eval o X.env
      standAt apos.atName
      let (f, first) ← holding [ov] (getMethod ov m pl)
      callWith pos f first (backTo pos (starEach (e :: es) X.env)) (backToKw pos (keywordEach kws X.env))) := by rfl) : SE X T W ms (.Call (.Attribute o m apos) (e :: es) kws pos) (gMethK c g gD ga gs gks) := by
  obtain ⟨f, fd, ps, gp, gV, h1, h2, h3, h4⟩ := hF.ex
  exact PE.imp (pe_methK (E := WE W) ho cd.cls h1 h3 hr h2 (fun σ => L2N.passAt tk σ) ha hkw hall hk hst hpl ht) fun σ H Q w => out_methK hF.no hn hks hD h4 w
theorem sp_methK (cd : ClsD X T c) (hF : KwM X T lv c m n ks gD (spP T [] cnt k g)) (hr : Room lv X.A) (tk : L2N.Takes X W) (ho : SE X T W ms o ga) (ha : SA X T W ms (e :: es) gs) (hn : Cnt gs n) (hkw : SK X T W ms kws gks) (hks : Cnt gks ks.length) (hD : ∀ ds es : List D, ds.length = n + 1 → es.length = ks.length → (gD ds es).length = cnt)
    (hall : (backToKw pos (keywordEach kws X.env)).all (·.1.isSome) = true := by rfl) (hk : (backToKw pos (keywordEach kws X.env)).filterMap (·.1) = ks := by rfl) (hst : starEach (e :: es) X.env = (false, eval e X.env) :: starEach es X.env := by rfl)
    (hpl : ((backTo pos (starEach (e :: es) X.env)).any (·.1) || (backToKw pos (keywordEach kws X.env)).any (·.1.isNone)) = false := by rfl)
    (ht : eval (.Call (.Attribute o m apos) (e :: es) kws pos) X.env = (do
      let ov ← eval o X.env
      standAt apos.atName
      let (f, first) ← holding [ov] (getMethod ov m pl)
      callWith pos f first (backTo pos (starEach (e :: es) X.env)) (backToKw pos (keywordEach kws X.env))) := by rfl) : SP' X T W ms k (.Call (.Attribute o m apos) (e :: es) kws pos) (gMethK c g gD ga gs gks) := by
  obtain ⟨f, fd, ps, gp, gV, h1, h2, h3, h4⟩ := hF.ex
  exact PE.imp (pe_methK (E := WE W) ho cd.cls h1 h3 hr h2 (fun σ => L2N.passAt tk σ) ha hkw hall hk hst hpl ht) fun σ H Q w => out_methKP hF.no hn hks hD h4 w
end
end
end TL

set_option Elab.async false
set_option linter.all false
set_option maxRecDepth 100000
set_option maxHeartbeats 1000000
namespace TL
open PySem PySem.Spec PyProof.Rows L2
theorem rep_int {T : Tb} {F : Hp} {d : D} {i : Int} (r : Rep T F d (.int i)) : d = .int i := by
  cases d with
  | int j => unfold Rep at r; cases r; rfl
  | lst ds => unfold Rep at r; obtain ⟨_, _, e, _⟩ := r; cases e
  | tup ds => unfold Rep at r; obtain ⟨_, _, e, _⟩ := r; cases e
  | obj c ds => unfold Rep at r; obtain ⟨_, _, _, e, _⟩ := r; cases e
  | dic ks ds => unfold Rep at r; obtain ⟨_, _, _, e, _⟩ := r; cases e
  | part c ds => unfold Rep at r; obtain ⟨_, _, e, _⟩ := r; cases e
  | non => unfold Rep at r; cases r
  | bl b => unfold Rep at r; cases r
  | str b => unfold Rep at r; cases r
  | ty b => unfold Rep at r; cases r
  | at_ b => unfold Rep at r; cases r
theorem zip_inj {α β : Type} : ∀ {fs : List α} {a b : List β}, a.length = fs.length → b.length = fs.length → fs.zip a = fs.zip b → a = b
  | [], [], [], _, _, _ => rfl
  | f :: fs, x :: a, y :: b, h1, h2, h => by
    rw [List.zip_cons_cons, List.zip_cons_cons] at h
    injection h with h3 h4
    injection h3 with _ h5
    rw [h5, zip_inj (by simpa using h1) (by simpa using h2) h4]
/-- an own table whose instances have two ints as fields: the same value is equal -/
theorem same_R {X : Cx} {T : Tb} {ok : D → Bool} {g : G} {fs : List D} {d : D} {b : Bool} (hK : T.K = X.K) (hok : ∀ e, ok e = true → (∃ i j, e = .obj 0 [.int i, .int j]) ∨ (∃ gs, e = .obj 1 gs) ∨ kdD e ≠ 0) (h01 : T.cl 0 ≠ T.cl 1) (refl : ∀ i j, ans (g [some (.obj 0 [.int i, .int j]), some (.obj 0 [.int i, .int j])]) = some (.bl true))
    {pins : List (Addr × Obj)} {σ : L2.St} {H F : Hp} {s : Shared} {x : V} {u : Value} (I : L2.Inv X pins σ H s) (sub : Same F H) (r1 : Rep T F (.obj 0 fs) x) (r2 : Rep T F d x) (ru : RelV x u) (h : ownE ok 0 g 0 (.obj 0 fs) d = some b) : b = true := by
  unfold ownE at h
  split at h
  · rename_i hc
    have hd := (Bool.and_eq_true_iff.mp hc).2
    have r1' := r1
    unfold Rep at r1
    obtain ⟨a, dx, vs, e1, q1, l1, rl1⟩ := r1
    subst e1
    rcases hok d hd with ⟨i, j, rfl⟩ | ⟨gs, rfl⟩ | hk
    · unfold Rep at r2
      obtain ⟨a', dx', us, e2, q2, l2, rl2⟩ := r2
      cases e2
      rw [q1] at q2
      have z := Option.some.inj q2
      injection z with z1 z2 z3
      have ev := zip_inj l1 l2 z3
      subst ev
      unfold RepL at rl2
      obtain ⟨v1, t1, e1, p1, rl2⟩ := rl2
      unfold RepL at rl2
      obtain ⟨v2, t2, e2, p2, rl2⟩ := rl2
      unfold RepL at rl2
      unfold Rep at p1 p2
      subst e1 e2 p1 p2 rl2
      cases fs with
      | nil => unfold RepL at rl1; cases rl1
      | cons f1 fs =>
        unfold RepL at rl1
        obtain ⟨w1, t1, e1, p1, rl1⟩ := rl1
        cases e1
        cases fs with
        | nil => unfold RepL at rl1; cases rl1
        | cons f2 fs =>
          unfold RepL at rl1
          obtain ⟨w2, t2, e2, p2, rl1⟩ := rl1
          cases e2
          cases fs with
          | cons f3 fs => unfold RepL at rl1; obtain ⟨_, _, e3, _⟩ := rl1; cases e3
          | nil =>
            rw [rep_int p1, rep_int p2] at h
            rw [refl i j] at h
            exact (Option.some.inj h).symm
    · unfold Rep at r2
      obtain ⟨a', dx', us, e2, q2, l2, rl2⟩ := r2
      cases e2
      rw [q1] at q2
      have z := Option.some.inj q2
      injection z with z1 z2 z3
      exact (h01 z1).elim
    · exfalso
      rcases kd_rep hk r2 with z | z
      · cases d with
        | lst ds =>
          unfold Rep at r2
          obtain ⟨a', us, e2, q2, _⟩ := r2
          cases e2
          rw [q1] at q2
          cases Option.some.inj q2
        | tup ds => exact absurd z (by simp [kdV, kdD])
        | non => exact absurd z (by simp [kdV, kdD])
        | bl _ => exact absurd z (by simp [kdV, kdD])
        | int _ => exact absurd z (by simp [kdV, kdD])
        | str _ => exact absurd z (by simp [kdV, kdD])
        | _ => exact hk rfl
      · cases d with
        | tup ds =>
          obtain ⟨a2, dx2, od, ea, eu, J, _⟩ := inst_of I sub r1' ru
          cases ea
          unfold Rep at r2
          obtain ⟨a', us, e2, q2, _⟩ := r2
          cases e2
          obtain ⟨_, _, ⟨o, g1, g2, _⟩, _⟩ := I.tuple (show SqT X.K H a us by rw [← hK]; exact sqT_mono sub q2)
          have w1 := J.at_
          rw [g1] at w1
          cases w1
          have w2 := J.cls
          rw [g2] at w2
          cases w2
        | lst ds =>
          unfold Rep at r2
          obtain ⟨a', us, e2, q2, _⟩ := r2
          cases e2
          rw [q1] at q2
          cases Option.some.inj q2
        | non => exact absurd z.2 (by simp [kdD])
        | bl _ => exact absurd z.2 (by simp [kdD])
        | int _ => exact absurd z.2 (by simp [kdD])
        | str _ => exact absurd z.2 (by simp [kdD])
        | _ => exact hk rfl
  · cases h
end TL
namespace TL
open PySem PySem.Spec PyProof.Rows L2
theorem hEq_int {own : Nat → D → D → Option Bool} {N : Nat} (i j : Int) : hEq own N (.int i) (.int j) = some (.bl (i == j)) := by
  have e : dflat (.int i) (.int j) = some (i == j) := by
    unfold dflat
    simp [mis, kdD, toPD, PyData.eqv, SeqAt.shaped, PyData.canLay0, PyData.depth]
  unfold hEq
  simp only [dep, Nat.zero_le, if_true]
  unfold deq
  rw [e]
  rfl
end TL
namespace TL
open PySem PySem.Spec PyProof.Rows L2
def blkC (N : List Str) (ns : List (Str × NameKind)) (scope : Scope) (own : List (Str × Nat)) : Bool :=
  decide (scope.kind = .function) && (scope.names.all (fun y => decide (scope.names.lookup y.1 = some y.2)) && (own.all (fun p => decide (N[p.2]? = some p.1)) &&
    (scope.names.all (fun y => decide (y.2 ≠ .free) || (decide (ns.lookup y.1 = some .cell) || decide (ns.lookup y.1 = some .free))) && scope.names.all (fun y => decide (¬ (y.2 = .local ∨ y.2 = .cell)) || (decide (y.1 ∈ own.map (·.1)) || decide (y.1 ∉ N))))))
theorem blk_of {N : List Str} {sc scope : Scope} {own : List (Str × Nat)} (h : blkC N sc.names scope own = true) : BlkOk N sc scope own := by
  unfold blkC at h
  simp only [Bool.and_eq_true, List.all_eq_true, Bool.or_eq_true, decide_eq_true_eq] at h
  obtain ⟨h1, h2, h3, h4, h5⟩ := h
  exact ⟨h1, h2, h3, fun y hy e => (h4 y hy).resolve_left fun z => z e, fun y hy e => (h5 y hy).resolve_left fun z => z e⟩
end TL

set_option Elab.async false
set_option linter.all false
set_option maxRecDepth 100000
set_option maxHeartbeats 1000000
namespace TL
open PySem PySem.Spec PyProof.Rows L2
def Mode.isSh : Mode → Bool
  | .sh => true
  | _ => false
def allSh (ms : List Mode) (l : List Nat) : Bool := l.all fun k => (ms.getD k .sh).isSh
theorem allSh_of {ms : List Mode} {l : List Nat} (h : allSh ms l = true) : ∀ k ∈ l, ms.getD k .sh = .sh := fun k hk => by
  have z := List.all_eq_true.mp h k hk
  revert z
  cases ms.getD k .sh with
  | sh => intro _; rfl
  | _ => intro z; exact absurd z Bool.false_ne_true
theorem ss_less {X : Cx} {J : Jd} {ms ms' ms'' : List Mode} {st : Stmt} {gs : GS} (l : Less ms ms') (h : SS X J ms' st ms'' gs) : SS X J ms st ms'' gs := SS.less h l
/-! ### bodies that never fall off their end -/
def NoNx (g : GS) : Prop := ∀ env env', g env ≠ .next env'
theorem nn_ret {g : G} : NoNx (gRet g) := fun env env' => by
  unfold gRet
  cases g env <;> exact fun z => nomatch z
theorem nn_retV {i : Nat} : NoNx (gRetV i) := fun env env' => by
  unfold gRetV
  split <;> exact fun z => nomatch z
theorem nn_raise1 {c : Nat} {f : Str} {g : G} : NoNx (gRaise1 c f g) := fun env env' => by
  unfold gRaise1
  cases g env <;> exact fun z => nomatch z
theorem nn_raise0 {c : Nat} : NoNx (gRaise0 c) := fun env env' => fun z => nomatch z
theorem nn_seq {a b : GS} (h : NoNx b) : NoNx (gSeq a b) := fun env env' => by
  unfold gSeq
  cases a env with
  | next e => exact h e env'
  | _ => exact fun z => nomatch z
theorem nn_if {t : GT} {a b : GS} (h : NoNx a) (h' : NoNx b) : NoNx (gIf t a b) := fun env env' => by
  unfold gIf
  cases t env with
  | ok e c =>
    cases c with
    | true => exact h e env'
    | false => exact h' e env'
  | _ => exact fun z => nomatch z
/-! ### a, b = x, y -/
def putE (is : List Nat) (ds : List D) (env : Env) : Env := (is.zip ds).foldl (fun e p => e.set p.1 (some p.2)) env
def gPar (is : List Nat) (gs : GA) : GS := fun env => (gs env).to fun env1 ds => if ds.length = is.length then .next (putE is ds env1) else .stuck
section
variable {X : Cx} {J : Jd} {ms : List Mode} {a b c : Expr} {gs : GA} {x y z : Str} {px py pz pt pos : Pos} {kt k2 pt2}
theorem SOut.expA {E : Ends} {ms' : List Mode} {σ : L2.St} {H F : Hp} {fp : Nat → Ad} {r : Res (List D)} {f : Env → List D → SRes} {Q' : List V → Hp → Prop} (hem : J.em ms) (kp : Keep J σ F) (h : SOut J ms' E H F fp (r.to f))
    (q : ∀ env1 ds H1 F1 fp1 vs, Good J.T ms env1 σ H1 F1 fp1 → Keep J σ F1 → RepL J.T F1 ds vs → SOut J ms' E H1 F1 fp1 (f env1 ds) → Q' vs H1) : OutA J.T ms J.W σ H F fp Q' r := by
  cases r with
  | ok env' d => exact fun H1 F1 fp1 v s1 g1 e1 => q env' d H1 F1 fp1 v g1 (kp.mono s1.grow) e1 (SOut.step h s1)
  | err env' x => exact fun H' F' fp' cv dd s g e => h σ ms H' F' fp' cv dd hem s g (kp.mono s.grow) e
  | stuck => exact h
theorem par_next {is : List Nat} {E : Ends} {σ : L2.St} {H F : Hp} {fp : Nat → Ad} {env : Env} {ds : List D} {vs : List V} (hl : ds.length = is.length) (r : RepL J.T F ds vs) (hm : ∀ i ∈ is, ms.getD i .sh = .sh) (hp : ∀ i ∈ is, J.pm.getD i .sh = .sh) (g : Good J.T ms env σ H F fp) (k : Keep J σ F)
    (o : SOut J ms E H F fp (.next (putE is ds env))) : E.nx ((is.zip vs).foldl (fun s p => s.set p.1 (some p.2)) σ) H := by
  obtain ⟨fp', g', sub, same⟩ := put_all is ds vs σ env fp hl r hm g
  exact o _ H F fp' (Step.refl.less fun a ha => sub a ha) g' ⟨fun j hj => by rw [same j fun hi => hj (hp j hi)]; exact k.own j hj, k.sh⟩
theorem ss_par (i j : Nat) (hc : X.calm = true) (hN : X.N.Nodup) (ha : SA X J.T J.W ms [a, b] gs) (hem : J.em ms) (hi : X.N[i]? = some x := by rfl) (hj : X.N[j]? = some y := by rfl) (hij : i ≠ j := by decide) (hm : allSh ms [i, j] = true := by rfl) (hp : allSh J.pm [i, j] = true := by rfl)
    (hx : X.env.scope.names.lookup x = some .local := by rfl) (hy : X.env.scope.names.lookup y = some .local := by rfl) (hw : swappedStores [.Tuple [.Name x px, .Name y py] kt pt] (.Tuple [a, b] k2 pt2) X.env = pure (some [x, y]) := by with_unfolding_all rfl)
    (hs : swapsWithSole [.Tuple [.Name x px, .Name y py] kt pt] (.Tuple [a, b] k2 pt2) pos.line X.env = pure false := by rfl) : SS X J ms (.Assign [.Tuple [.Name x px, .Name y py] kt pt] (.Tuple [a, b] k2 pt2) pos) ms (gPar [i, j] gs) :=
  PS.imp (ps_par hc hN hi hj hij hx hy ha hw hs) fun E σ H ⟨F, env, fp, gd, kp, o⟩ => ⟨F, env, fp, gd, SOut.expA hem kp o fun env1 ds H1 F1 fp1 vs g1 k1 r1 o1 => by
    split at o1
    · rename_i hl
      match ds, vs, hl, r1, o1 with
      | [d, e], vs, hl, r1, o1 =>
        have r0 := r1
        unfold RepL at r1
        obtain ⟨v, r, e1, q1, r1⟩ := r1
        obtain ⟨u, e2, q2⟩ := repL_one r1
        subst e1 e2
        exact ⟨v, u, rfl, par_next (is := [i, j]) hl r0 (allSh_of hm) (allSh_of hp) g1 k1 o1⟩
    · exact o1.elim⟩
theorem ss_par3 (i j l : Nat) (hc : X.calm = true) (hN : X.N.Nodup) (ha : SA X J.T J.W ms [a, b, c] gs) (hem : J.em ms) (hi : X.N[i]? = some x := by rfl) (hj : X.N[j]? = some y := by rfl) (hl : X.N[l]? = some z := by rfl) (hij : i ≠ j := by decide) (hil : i ≠ l := by decide) (hjl : j ≠ l := by decide)
    (hm : allSh ms [i, j, l] = true := by rfl) (hp : allSh J.pm [i, j, l] = true := by rfl)
    (hx : X.env.scope.names.lookup x = some .local := by rfl) (hy : X.env.scope.names.lookup y = some .local := by rfl) (hz : X.env.scope.names.lookup z = some .local := by rfl) (hw : swappedStores [.Tuple [.Name x px, .Name y py, .Name z pz] kt pt] (.Tuple [a, b, c] k2 pt2) X.env = pure (some [x, y, z]) := by with_unfolding_all rfl)
    (hs : swapsWithSole [.Tuple [.Name x px, .Name y py, .Name z pz] kt pt] (.Tuple [a, b, c] k2 pt2) pos.line X.env = pure false := by rfl) : SS X J ms (.Assign [.Tuple [.Name x px, .Name y py, .Name z pz] kt pt] (.Tuple [a, b, c] k2 pt2) pos) ms (gPar [i, j, l] gs) :=
  PS.imp (ps_par3 hc hN hi hj hl hij hil hjl hx hy hz ha hw hs) fun E σ H ⟨F, env, fp, gd, kp, o⟩ => ⟨F, env, fp, gd, SOut.expA hem kp o fun env1 ds H1 F1 fp1 vs g1 k1 r1 o1 => by
    split at o1
    · rename_i hln
      match ds, vs, hln, r1, o1 with
      | [d, e, f], vs, hln, r1, o1 =>
        have r0 := r1
        unfold RepL at r1
        obtain ⟨v, r, e1, q1, r1⟩ := r1
        unfold RepL at r1
        obtain ⟨u, r', e2, q2, r1⟩ := r1
        obtain ⟨t, e3, q3⟩ := repL_one r1
        subst e1 e2 e3
        exact ⟨v, u, t, rfl, par_next (is := [i, j, l]) hln r0 (allSh_of hm) (allSh_of hp) g1 k1 o1⟩
    · exact o1.elim⟩
/-- target = value, by a general target: (a, b) = (x, y) where a name is a cell -/
def gAsg (t : Tg) (g : G) : GS := fun env => (g env).to fun env1 d => match t.put env1 d with
  | some env2 => .next env2
  | none => .stuck
theorem ss_asg {tg e : Expr} {t : Tg} {tgl : TG} {g : G} (he : SE X J.T J.W ms e g) (hg : PG X tg tgl) (ht : TgOk J.T ms t tgl) (hem : J.em ms) (hp : ∀ i ∈ t.slots, J.pm.getD i .sh = .sh) (hs : swapsWithSole [tg] e pos.line X.env = pure false := by rfl) (hw : swappedStores [tg] e X.env = pure none := by with_unfolding_all rfl)
    (h1 : (assignEach [tg] X.env).map (·.2) = [assign tg X.env] := by rfl) : SS X J ms (.Assign [tg] e pos) ms (gAsg t g) :=
  PS.imp (ps_asg he hg hs hw h1) fun E σ H ⟨F, env, fp, gd, kp, o⟩ => ⟨F, env, fp, gd, SOut.exp hem kp o fun env1 d H1 F1 fp1 v g1 k1 r1 o1 => by
    cases hput : t.put env1 d with
    | none => simp only [hput] at o1; exact o1.elim
    | some env2 =>
      simp only [hput] at o1
      exact ht.run d v σ H1 F1 env1 env2 fp1 _ g1 r1 hput fun σ' fp' g2 sub same => o1 σ' H1 F1 fp' (Step.refl.less fun a ha => sub a ha) g2 ⟨fun j hj => by rw [same j fun hi => hj (hp j hi)]; exact k1.own j hj, k1.sh⟩⟩
/-- name = [.. for ..] on one line, the name a plain local -/
theorem ss_setLc (i : Nat) {k : Mode} {elt tg iter : Expr} {ifs : List Expr} {scope : Scope} {own : List (Str × Nat)} {spos : Pos} {t : Tg} {tgl : TG} {gi : GI} {gt : GT} {ge : G} (hc : X.calm = true) (hN : X.N.Nodup) (hi : SI X J.T J.W ms tg iter gi) (ok : BlkOk X.N X.env.scope scope own)
    (hg : ∀ (s : Shared) (H : Hp) (C : Addr) (cl : List (Str × Addr)) (fp : List Addr), PG (X.blk s H scope (compEnvC scope cl C X.env) fp) tg tgl) (htg : TgOk J.T ms t tgl)
    (ht : ∀ (s : Shared) (H : Hp) (C : Addr) (cl : List (Str × Addr)) (fp : List Addr), PTs (X.blk s H scope (compEnvC scope cl C X.env) fp) ifs (tT J.T W0 ms gt))
    (he : ∀ (s : Shared) (H : Hp) (C : Addr) (cl : List (Str × Addr)) (fp : List Addr), SP' (X.blk s H scope (compEnvC scope cl C X.env) fp) J.T W0 ms k elt ge) (hm : allSh ms (own.map (·.2)) = true) (hsl : ∀ i ∈ t.slots, i ∈ own.map (·.2)) (hem : J.em ms)
    (hy : X.N[i]? = some x := by rfl) (hyl : X.env.scope.names.lookup x = some .local := by rfl) (hsw : swapsWith (.ListComp elt [⟨tg, iter, ifs, 0⟩] scope pos) (some (.Name x px)) spos.line X.env = pure true := by rfl) (hp : J.pm.getD i .sh = .sh := by rfl) (hl : i < ms.length := by decide)
    (hs : ∀ x, foldedSetIterable iter X.env x = pure x := by intro _; rfl) : SS X J ms (.Assign [.Name x px] (.ListComp elt [⟨tg, iter, ifs, 0⟩] scope pos) spos) (ms.set i (.own k)) (gSet i (gLc (own.map (·.2)) t gi gt ge)) :=
  PS.imp (ps_setLc hc hN hy hyl hsw hi ok hg ht he hs) fun E σ H ⟨F, env, fp, gd, kp, o⟩ => lc_read htg (allSh_of hm) hsl ⟨F, env, fp, gd, SOut.expP (f := fun env1 d => .next (env1.set i (some d))) hem kp o fun env1 d H1 F1 fp1 v fv er s1 g1 k1 r1 off dis => by
    have o' : SOut J (ms.set i (.own k)) E H F fp (gSet i (gLc (own.map (·.2)) t gi gt ge) env) := o
    unfold gSet at o'
    rw [er] at o'
    exact o' (σ.set i (some v)) H1 F1 _ (s1.less fun b hb => all_set hb) (g1.set hl r1 off dis) (k1.set hp)⟩
end
end TL

set_option Elab.async false
set_option linter.all false
set_option maxRecDepth 100000
set_option maxHeartbeats 1000000
namespace TLK
open PySem PySem.Spec PyProof.Rows L2

/-! ### a walk over a dict that has no keys -/
section
variable {prog : Program} {w : World} {A : Around} {E : Value → Shared → Prop} {s : Shared}
theorem keys_end {it d : Addr} {i n ep : Nat} {od : Obj} {es : Array DictEntry} {Q : Option Value → Shared → Prop} (q : Quiet A s.heap) (hne : ∀ x1, A.handled = some (.ref x1) → x1 ≠ it) (hit : s.heap.IsKeyIter it d i n ep) (hod : s.heap.get? d = some od) (hdd : od.data = .dict es ep)
    (hsz : es.size = n) (hge : n ≤ i) (hQ : ∀ h', (∀ b u, b ≠ it → s.heap.get? b = some u → h'.get? b = some u) → Q none { s with heap := h' }) : wpAny (model prog w) A (pyNext (.ref it)) Q E s := by
  obtain ⟨o, ho, hc, hd⟩ := id hit
  unfold pyNext
  refine wpAny_bind (wpAny_attempt (wpAny_callSpecial?_slot (name := Str.ofString "__next__") hit.typeIs F.slot_dict_keyiterator_next (wpAny_call_entry F.slot_dict_keyiterator_next hit.typeIs F.entry_dict_keyiterator_next ?_ (F.args_dict_keyiterator_next_1 _))))
  refine wpAny_bind (wpAny_pure (wpAny_bind (wpAny_bind ?_)))
  first | refine wpAny_bind (wpAny_typeNameOfWhole_keyiter hit.typeIs (wpAny_pure ?_)) | refine wpAny_bind (wpAny_typeNameOf_keyiter hit.typeIs (wpAny_pure ?_))
  refine wpAny_bind (wpAny_fieldsOf ho hd ?_)
  simp only [show Builtin.Dict_items.ownsTuple "dict_keyiterator" = false from by decide, Bool.false_eq_true, if_false]
  show wpAny _ _ (if (Value.ref d == Value.none) = true then _ else _) _ _ s
  rw [if_neg (show ¬ ((Value.ref d == Value.none) = true) from Bool.false_ne_true)]
  refine wpAny_bind (wpAny_pure (wpAny_bind (wpAny_dictEntries hod hdd ?_)))
  rw [if_neg (by rw [hsz]; simp)]
  refine wpAny_bind (wpAny_pure (wpAny_bind (wpAny_dictEpoch hod hdd ?_)))
  rw [if_neg (by simp)]
  refine wpAny_pure ?_
  have g1 : es.size ≤ i := hsz.symm ▸ hge
  simp only [show ¬ ((i : Int) < 0) from by omega, if_false, Int.toNat_natCast, Array.getElem?_eq_none g1]
  refine wpAny_bind ?_
  first | refine wpAny_bind (wpAny_typeNameOfWhole_keyiter hit.typeIs (wpAny_pure ?_)) | refine wpAny_bind (wpAny_typeNameOf_keyiter hit.typeIs (wpAny_pure ?_))
  show wpAny _ _ (setField (.ref it) 0 .none >>= _) _ _ s
  refine wpAny_bind (wpAny_setField ho hd (by simp) ?_)
  have k1 : ∀ b u, b ≠ it → s.heap.get? b = some u → (s.heap.update it (Obj.mapFields (·.setIfInBounds 0 .none))).get? b = some u := fun b u hb e => by rw [Heap.get?_update_other _ _ (Ne.symm hb)]; exact e
  refine stop_q ?_ fun h' a o' k e c => ?_
  · rcases q with q | ⟨x, h1, o1, v1, h2, h3⟩
    · exact .inl q
    · exact .inr ⟨x, h1, o1, v1, k1 _ _ (hne x h1) h2, h3⟩
  · exact wpAny_bind (wpAny_isInstance (T := "StopIteration") (b := true) ⟨_, e, c⟩ isSubtype_stop (wpAny_pure (hQ _ fun b u hb z => k _ _ (k1 b u hb z))))
end
section
variable {P : Program} {w : World} {K : PySem.W.Frag} {tg : Expr} {d : Addr} {o : Obj} {es : Array DictEntry} {ep : Nat}
theorem walk_keys0 (it : Addr) (hod : o.data = .dict es ep) : Walk P w K tg (Itk d o []) [it] it (fun i h => h.IsKeyIter it d i 0 ep) where
  mem := (turn_keys (P := P) (w := w) (K := K) (tg := tg) (d := d) (kvs := []) it hod).mem
  there := (turn_keys (P := P) (w := w) (K := K) (tg := tg) (d := d) (kvs := []) it hod).obj
  stay := (turn_keys (P := P) (w := w) (K := K) (tg := tg) (d := d) (kvs := []) it hod).keep
  self := (turn_keys (P := P) (w := w) (K := K) (tg := tg) (d := d) (kvs := []) it hod).self
  next := fun X hP hw hK i pins s σ H E I hf st hg => (Nat.not_lt_zero _ hg.2).elim
  last := fun X hP hw hK i pins s σ H E I hf q hn st ⟨hd, hi⟩ => by
    subst hP hw hK
    have f := hf it (by simp)
    obtain ⟨hs, hgd, hx, es', ep', vs, hdt, hsz, kv, hm⟩ := I.frzK hd
    obtain ⟨rfl, rfl⟩ := dict_ep hod hdt
    exact keys_end q (fun x1 e z => hn x1 e (by rw [z]; simp)) st hgd hdt hsz hi fun h' eb => ⟨rfl, I.turned (t' := s.toks) eb f.1 f.2.1 f.2.2.2.1 f.2.2.2.2.1 f.2.2.2.2.2⟩
theorem wi_keys0 {X : Cx} {tg e : Expr} {td : TE} (he : PE X e td) : WI X tg e (fun σ H R => td σ H fun x H1 => ∃ d o, x = .ref d ∧ H1 d = some (.frz o (.dK [])) ∧ R (Itk d o []) H1) := by
  refine ⟨fun pins s σ H R I h => thn (he.run pins s σ H _ I h) fun u s1 ⟨x, H1, I1, rx, d, o, ex, hd, q⟩ => ?_⟩
  subst ex
  obtain rfl : u = Value.ref d := rx
  obtain ⟨hs, hgd, hx, es, ep, vs, hdt, hsz, kv, hm⟩ := I1.frzK hd
  have fr : ∀ b ∈ [s1.heap.objs.size], FpOk X pins H1 b := fun b hb => by
    have e : b = s1.heap.objs.size := by simpa using hb
    subst e
    exact I1.fpOk (Nat.le_refl _) (I1.hok.fresh (Nat.le_refl _))
  refine iter_keys hs hgd hx hdt ⟨_, _, _, _, H1, rfl, I1.kept (t' := s1.toks) fun b o z => Heap.get?_push_of_some _ z, walk_keys0 _ hdt, ⟨_, Heap.get?_push_size _ rfl, rfl, ?_⟩, fr, q⟩
  rw [hsz]; rfl
end
end TLK
namespace TL
open PySem PySem.Spec PyProof.Rows L2
section
variable {X : Cx} {T : Tb} {ms : List Mode} {W : WX} {tg iter : Expr} {g : G}
def gKeys0 (ga : G) : GI := fun env => (ga env).bind fun env1 d => match d with
  | .dic [] [] => .ok env1 []
  | _ => .stuck
theorem itd_keys0 {F : Hp} {a : Addr} {od : Obj} (h : F a = some (.frz od (.dK []))) : ItD T (Itk a od []) [] F :=
  ⟨fun i H F' g s hi => (Nat.not_lt_zero _ hi).elim, fun i H F' g s hi => ⟨s _ _ (g _ _ h), Nat.zero_le _⟩, fun i H F' x H' hi => (Nat.not_lt_zero _ hi).elim⟩
theorem keys_read {σ : L2.St} {H : Hp} {R : It → Hp → Prop} (w : tI T W ms (gKeys0 g) σ H R) : tS T W ms g σ H fun x H1 => ∃ d o, x = .ref d ∧ H1 d = some (.frz o (.dK [])) ∧ R (Itk d o []) H1 := by
  obtain ⟨F, env, fp, gd, o⟩ := w
  refine ⟨F, env, fp, gd, OutI.bind o fun env1 d H1 F1 fp1 v g1 r1 o1 => ?_⟩
  split at o1
  · unfold Rep at r1
    obtain ⟨a, od, vs, e, q, l, r⟩ := r1
    exact ⟨a, od, e, g1.sub _ _ q, o1 H1 F1 fp1 _ Step.refl g1 (itd_keys0 q)⟩
  · exact o1.elim
theorem sib_keys0 (h : SE X T W ms iter g) : SIB X T W ms tg iter (gKeys0 g) :=
  ⟨PI.imp (pi_keys h) fun σ H R w => let ⟨F, env, fp, gd, o⟩ := keys_read w; ⟨F, env, fp, gd, Out.mono o fun x H1 ⟨d, o, e, q, r⟩ => ⟨d, o, e, .inl ⟨[], q, r⟩⟩⟩, TLK.WI.imp (TLK.wi_keys0 h) fun σ H R w => keys_read w⟩
end
/-! ### a suite bears its exception -/
theorem amb_suite {X : Cx} {a : Addr} {oe : Obj} {pn : List (Addr × Obj)} {cls : Value} {d : Option Addr} {k : Nat} (hz : L2N.Zn cls d oe) (hd : ∃ vs, oe.data = .fields vs) (hr : Room k X.A) : Amb (X.suite a ((a, oe) :: pn)) k := by
  obtain ⟨vs, e⟩ := hd
  refine .inr ⟨⟨(a, oe), ⟨rfl, vs, e, hz.2.2 vs e⟩, List.mem_cons_self⟩, ⟨hr.dp, hr.un⟩⟩
/-! ### a def without defaults, called with keywords -/
theorem kbn_all {K : PySem.W.Frag} {x qual : Str} {st : Stmt} {f : Addr} {fd : FuncData} {ps : List Str} (F : Fun K x qual st f fd) {n : Nat} {ks : List Str} {gp : List Value → List Value → List Value} {gV : List V → List V → List V}
    (h : ∀ (kV doc pm : Value) (an : Option Addr) (cdv ct : Value) (us ws : List Value), us.length = n → ws.length = ks.length → bindArgs (PySem.W.fnOf x qual (defArgs st) (defBody st) (defScope st) .none kV doc pm an cdv ct) ⟨us, ks.zip ws⟩ = pure (ps.zip (gp us ws)))
    (rel : ∀ {vs : List V} {us : List Value} {zs : List V} {ws : List Value}, Vals vs us → Vals zs ws → Vals (gV vs zs) (gp us ws)) : KBn K fd ps n ks gp gV := by
  obtain ⟨oc, od, kV, doc, pm, an, cdv, ct, osl, rfl, lk, hcd⟩ := F.ex
  exact ⟨fun s us ws _ h1 h2 => .of_eq (h kV doc pm an cdv ct us ws h1 h2), rel⟩
/-! ### a promise that nobody can ask for -/
theorem fnB_no {P : Program} {w : World} {K : PySem.W.Frag} {mg : Str → Option Value} {base : Heap} {T : Tb} {lv : Nat} {f : Addr} {fd : FuncData} {ps : List Str} {pm : List Mode} : FnB P w K mg base lv f fd ps (spS T pm ps.length fun _ => .stuck) :=
  ⟨⟨fun vs H Q E h => h.1, fun A outer s H args us vs Q E _ _ _ _ ⟨_, _, _, _, _, o⟩ => o.elim⟩, ⟨fun vs H Q E h => h.1, fun A outer s H args us vs Q E p _ _ _ _ _ _ ⟨_, _, _, _, _, o⟩ => o.elim⟩⟩
/-! ### != of instances of one class with an own == -/
section
variable {X : Cx} {T : Tb}
def hNe1 (c : Nat) (own : Nat → D → D → Option Bool) : D → D → Option D := fun x y => match x with
  | .obj c' fs => if c' = c then (own c (.obj c fs) y).map fun b => .bl !b else none
  | _ => none
theorem ops_ne1 {own : Nat → D → D → Option Bool} {c n : Nat} (hn : ∀ {fs : List D} {d : D} {b : Bool}, own c (.obj c fs) d = some b → RcT X T true (n + 1) (.obj c fs) d b) (hr : Room (n + 1) X.A) : OpS X T (compareOp .NotEq) (hNe1 c own) := by
  intro pins s σ H x y v u Q I rx ry ⟨F, dx, dy, d, sub, r1, r2, e, q⟩
  unfold hNe1 at e
  split at e
  · rename_i c' fs
    split at e
    · rename_i hc
      subst hc
      cases hq : own c' (.obj c' fs) dy with
      | none => rw [hq] at e; cases e
      | some b =>
        rw [hq] at e
        cases e
        refine wpAny_mono (hn hq X.A pins s σ H F x y v u ⟨hr, rfl⟩ I sub r1 r2 rx ry) (fun r s' z => ?_) fun _ _ z => z
        obtain ⟨er, H', F', I', ex⟩ := z
        subst er
        exact ⟨.bl (!b), H', I', rfl, q H' F' _ ex rfl⟩
    · cases e
  · cases e
end
/-! ### parts for the printer -/
theorem names_own {X : Cx} {x : Str} {c : Value} (e : X.mg x = some c) (hg : Gl X x) (hd : (x == ("__debug__" : Str)) = false := by decide) : Names X x c := ⟨hg, hd, .inl e⟩
def hit1 (c : Nat) : Nat → Option Bool := fun n => if n = c then some true else none
theorem hit1_n {c n : Nat} {b : Bool} (h : hit1 c n = some b) : n = c := by
  unfold hit1 at h
  split at h
  · assumption
  · cases h
theorem hit1_ok {K : PySem.W.Frag} {T : Tb} {c : Nat} (e : PySem.W.exmOne K (.ref (T.cl c)) (.ref (T.cl c)) = some true) : ∀ n t, hit1 c n = some t → PySem.W.exmOne K (.ref (T.cl n)) (.ref (T.cl c)) = some t := fun n t z => by
  have en := hit1_n z
  subst en
  simp only [hit1, if_true] at z
  cases z
  exact e
theorem tg_tupK {T : Tb} {K : PySem.W.Frag} {ms : List Mode} (hK : T.K = K) (is : List Nat) (hm : ∀ i ∈ is, ms.getD i .sh = .sh) : TgOk T ms (.tup is) (L2.gTup K is.length (gNms is)) := hK ▸ tg_tup is hm
theorem vals_getD {vs : List V} {us : List Value} (r : Vals vs us) (i : Nat) : RelV (vs.getD i .non) (us.getD i .none) := by
  induction r generalizing i with
  | nil => simp only [List.getD_nil]; exact rfl
  | cons a b ih =>
    cases i with
    | zero => simpa using a
    | succ j => simpa using ih j
theorem repL_getD {T : Tb} {F : Hp} : ∀ {ds : List D} {vs : List V}, RepL T F ds vs → ∀ i, Rep T F (ds.getD i .non) (vs.getD i .non)
  | [], vs, r, i => by
    unfold RepL at r
    subst r
    simp only [List.getD_nil]
    unfold Rep
    rfl
  | d :: ds, vs, r, i => by
    unfold RepL at r
    obtain ⟨v, r', e, r1, r2⟩ := r
    subst e
    cases i with
    | zero => simpa using r1
    | succ j => simpa using repL_getD r2 j
theorem RepL.cons {T : Tb} {F : Hp} {d : D} {ds : List D} {v : V} {vs : List V} (a : Rep T F d v) (b : RepL T F ds vs) : RepL T F (d :: ds) (v :: vs) := by
  unfold RepL
  exact ⟨v, vs, rfl, a, b⟩
end TL

set_option Elab.async false
set_option linter.all false
set_option maxRecDepth 100000
set_option maxHeartbeats 1000000
namespace TL
open PySem PySem.Spec PyProof.Rows L2

/-! ### what is one's own, lent for one expression -/
mutual
/-- no list stands in it -/
def flatD : D → Bool
  | .lst _ => false
  | .part _ _ => false
  | .tup ds => flatL ds
  | .obj _ ds => flatL ds
  | .dic _ ds => flatL ds
  | _ => true
def flatL : List D → Bool
  | [] => true
  | d :: ds => flatD d && flatL ds
end
def flatM : Mode → D → Bool
  | .sh, d => flatD d
  | .own m, .lst ds => ds.all (flatM m)
  | .own m, .obj _ ds => ds.all (flatM m)
  | _, _ => false
/-- lists all the way down to what is shared -/
def listsM : Mode → D → Bool
  | .sh, _ => true
  | .own m, .lst ds => ds.all (listsM m)
  | _, _ => false
open Classical in
noncomputable def cutF (F : Hp) (A : Ad) : Hp := fun a => if A a then none else F a
section
variable {T : Tb} {F H : Hp} {A : Ad}
theorem cutF_out {a : Addr} (h : ¬ A a) : cutF F A a = F a := by unfold cutF; rw [if_neg h]
theorem cutF_in {a : Addr} (h : A a) : cutF F A a = none := by unfold cutF; rw [if_pos h]
theorem cut_other {a : Addr} {o : HO} (hA : ∀ a, A a → ∃ vs, F a = some (.lst vs)) (h : F a = some o) (hne : ∀ vs, o ≠ .lst vs) : cutF F A a = some o := by
  rw [cutF_out fun z => ?_]
  · exact h
  · obtain ⟨vs, e⟩ := hA a z
    rw [h] at e
    cases e
    exact hne vs rfl
mutual
theorem Rep.cutF (hA : ∀ a, A a → ∃ vs, F a = some (.lst vs)) : ∀ {d : D} {v : V}, flatD d = true → Rep T F d v → Rep T (cutF F A) d v
  | .non, v, _, h => by unfold Rep at h ⊢; exact h
  | .bl _, v, _, h => by unfold Rep at h ⊢; exact h
  | .int _, v, _, h => by unfold Rep at h ⊢; exact h
  | .str _, v, _, h => by unfold Rep at h ⊢; exact h
  | .ty _, v, _, h => by unfold Rep at h ⊢; exact h
  | .at_ _, v, _, h => by unfold Rep at h ⊢; exact h
  | .lst _, v, f, _ => by unfold flatD at f; cases f
  | .part _ _, v, f, _ => by unfold flatD at f; cases f
  | .tup ds, v, f, h => by
    unfold flatD at f
    unfold Rep at h ⊢
    obtain ⟨a, vs, e, q, r⟩ := h
    refine ⟨a, vs, e, ?_, RepL.cutF hA f r⟩
    rcases q with (q | ⟨o, q⟩) | q
    · exact .inl (.inl (cut_other hA q (fun _ z => nomatch z)))
    · exact .inl (.inr ⟨o, cut_other hA q (fun _ z => nomatch z)⟩)
    · exact .inr q
  | .obj c ds, v, f, h => by
    unfold flatD at f
    unfold Rep at h ⊢
    obtain ⟨a, dx, vs, e, q, l, r⟩ := h
    exact ⟨a, dx, vs, e, cut_other hA q (fun _ z => nomatch z), l, RepL.cutF hA f r⟩
  | .dic ks ds, v, f, h => by
    unfold flatD at f
    unfold Rep at h ⊢
    obtain ⟨a, od, vs, e, q, l, r⟩ := h
    exact ⟨a, od, vs, e, cut_other hA q (fun _ z => nomatch z), l, RepL.cutF hA f r⟩
theorem RepL.cutF (hA : ∀ a, A a → ∃ vs, F a = some (.lst vs)) : ∀ {ds : List D} {vs : List V}, flatL ds = true → RepL T F ds vs → RepL T (cutF F A) ds vs
  | [], vs, _, h => by unfold RepL at h ⊢; exact h
  | d :: ds, vs, f, h => by
    unfold flatL at f
    unfold RepL at h ⊢
    obtain ⟨v, r, e, q, t⟩ := h
    obtain ⟨f1, f2⟩ := Bool.and_eq_true_iff.mp f
    exact ⟨v, r, e, Rep.cutF hA f1 q, RepL.cutF hA f2 t⟩
end
theorem OwnL.impB {P P' : D → V → Ad → Prop} {b : D → Bool} : ∀ {ds : List D} {vs : List V} {fp : Ad}, ds.all b = true → OwnL P ds vs fp → (∀ d v f, b d = true → (∀ a, f a → fp a) → P d v f → P' d v f) → OwnL P' ds vs fp
  | [], _, _, _, h, _ => h
  | d :: ds, vs, fp, hb, ⟨v, r, f1, f2, e, hf, dj, p, t⟩, k => by
    rw [List.all_cons] at hb
    obtain ⟨b1, b2⟩ := Bool.and_eq_true_iff.mp hb
    exact ⟨v, r, f1, f2, e, hf, dj, k d v f1 b1 (fun a h => (hf a).mpr (.inl h)) p, OwnL.impB b2 t fun d v f hb hs => k d v f hb fun a h => (hf a).mpr (.inr (hs a h))⟩
theorem Own.cut (hA : ∀ a, A a → ∃ vs, F a = some (.lst vs)) : ∀ {m : Mode} {d : D} {v : V} {fp : Ad}, flatM m d = true → Own T F H m d v fp → Own T (cutF F A) H m d v fp
  | .sh, d, v, fp, f, h => ⟨h.1, Rep.cutF hA f h.2⟩
  | .own m, d, v, fp, f, h => by
    cases d with
    | lst ds =>
      unfold Own at h ⊢
      obtain ⟨a, vs, R, e, q, na, hf, o⟩ := h
      exact ⟨a, vs, R, e, q, na, hf, OwnL.impB (show ds.all (flatM m) = true from f) o fun d v f hb hs p => Own.cut hA hb p⟩
    | obj c ds =>
      unfold Own at h ⊢
      obtain ⟨a, dx, vs, R, e, q, na, hf, l, o⟩ := h
      exact ⟨a, dx, vs, R, e, q, na, hf, l, OwnL.impB (show ds.all (flatM m) = true from f) o fun d v f hb hs p => Own.cut hA hb p⟩
    | _ => exact h.elim
  | .part, d, v, fp, f, h => by cases d <;> exact Bool.noConfusion f
  | .prt _, d, v, fp, f, h => by cases d <;> exact Bool.noConfusion f
  | .exc _ _, d, v, fp, f, h => by cases d <;> exact Bool.noConfusion f
theorem OwnL.lists {P : D → V → Ad → Prop} {b : D → Bool} {Z : Ad} (hb : ∀ d v f, b d = true → P d v f → ∀ a, f a → Z a) : ∀ {ds : List D} {vs : List V} {fp : Ad}, ds.all b = true → OwnL P ds vs fp → ∀ a, fp a → Z a
  | [], _, _, _, h, a, ha => (h.2 a ha).elim
  | d :: ds, vs, fp, hd, ⟨v, r, f1, f2, e, hf, dj, p, t⟩, a, ha => by
    rw [List.all_cons] at hd
    obtain ⟨b1, b2⟩ := Bool.and_eq_true_iff.mp hd
    rcases (hf a).mp ha with z | z
    · exact hb d v f1 b1 p a z
    · exact OwnL.lists hb b2 t a z
theorem Own.lists : ∀ {m : Mode} {d : D} {v : V} {fp : Ad}, listsM m d = true → Own T F H m d v fp → ∀ a, fp a → ∃ vs, H a = some (.lst vs)
  | .sh, d, v, fp, f, h, a, ha => (h.1 a ha).elim
  | .own m, d, v, fp, f, h, a, ha => by
    cases d with
    | lst ds =>
      unfold Own at h
      obtain ⟨a', vs, R, e, q, na, hf, o⟩ := h
      rcases (hf a).mp ha with z | z
      · exact ⟨vs, by rw [z]; exact q⟩
      · exact OwnL.lists (Z := fun a => ∃ vs, H a = some (.lst vs)) (fun d v f hb p => Own.lists hb p) (show ds.all (listsM m) = true from f) o a z
    | obj c ds => exact Bool.noConfusion f
    | _ => exact h.elim
  | .part, d, v, fp, f, h, _, _ => by cases d <;> exact Bool.noConfusion f
  | .prt _, d, v, fp, f, h, _, _ => by cases d <;> exact Bool.noConfusion f
  | .exc _ _, d, v, fp, f, h, _, _ => by cases d <;> exact Bool.noConfusion f
end
/-- shared ones and the j-th as they were ahead of it -/
def mergeE (ms : List Mode) (j : Nat) : Nat → Env → Env → Env
  | i, e :: es, e' :: es' => (if i = j ∨ ms.getD i .sh = .sh then e else e') :: mergeE ms j (i + 1) es es'
  | _, es, _ => es
def restFlat (ms : List Mode) (j : Nat) : Nat → Env → Bool
  | i, e :: es => (decide (i = j) || decide (ms.getD i .sh = .sh) || (match e with
    | some d => flatM (ms.getD i .sh) d
    | none => true)) && restFlat ms j (i + 1) es
  | _, [] => true
theorem mergeE_get {ms : List Mode} {j : Nat} : ∀ {i n : Nat} {es es' : Env}, es.length = es'.length → (mergeE ms j i es es')[n]? = if i + n = j ∨ ms.getD (i + n) .sh = .sh then es[n]? else es'[n]?
  | i, n, [], [], _ => by unfold mergeE; simp
  | i, n, e :: es, [], h => by cases h
  | i, n, [], e' :: es', h => by cases h
  | i, 0, e :: es, e' :: es', h => by
    unfold mergeE
    simp only [List.getElem?_cons_zero, Nat.add_zero]
    split <;> rfl
  | i, n + 1, e :: es, e' :: es', h => by
    unfold mergeE
    simp only [List.getElem?_cons_succ]
    rw [mergeE_get (by simpa using h), show i + 1 + n = i + (n + 1) from by omega]
theorem mergeE_len {ms : List Mode} {j : Nat} : ∀ {i : Nat} {es es' : Env}, es.length = es'.length → (mergeE ms j i es es').length = es.length
  | i, [], es', _ => by cases es' <;> rfl
  | i, e :: es, [], h => by cases h
  | i, e :: es, e' :: es', h => by
    unfold mergeE
    rw [List.length_cons, List.length_cons, mergeE_len (by simpa using h)]
theorem restFlat_get {ms : List Mode} {j : Nat} : ∀ {i n : Nat} {es : Env} {d : D}, restFlat ms j i es = true → es[n]? = some (some d) → i + n ≠ j → ms.getD (i + n) .sh ≠ .sh → flatM (ms.getD (i + n) .sh) d = true
  | i, n, [], d, _, h, _, _ => by simp at h
  | i, 0, e :: es, d, hr, h, h1, h2 => by
    unfold restFlat at hr
    have h : e = some d := by simpa using h
    subst h
    have := (Bool.and_eq_true_iff.mp hr).1
    rw [decide_eq_false (show ¬ i = j from h1), decide_eq_false (show ¬ ms.getD i .sh = .sh from h2)] at this
    exact this
  | i, n + 1, e :: es, d, hr, h, h1, h2 => by
    unfold restFlat at hr
    rw [show i + (n + 1) = i + 1 + n from by omega] at h1 h2 ⊢
    exact restFlat_get (Bool.and_eq_true_iff.mp hr).2 (by simpa using h) h1 h2
theorem own_sh {T : Tb} {F H : Hp} {m : Mode} {d : D} {v : V} {fp : Ad} (hm : m = .sh) (h : ∀ a, ¬ fp a) (r : Rep T F d v) : Own T F H m d v fp := by
  subst hm
  exact ⟨h, r⟩
def gBorrow (ms : List Mode) (j : Nat) (k : Mode) (g : G) : G := fun env => match env[j]? with
  | some (some d0) => match g env with
    | .ok env' d => if listsM (ms.getD j .sh) d0 && (flatM k d && restFlat ms j 0 env') then .ok (mergeE ms j 0 env env') d else .stuck
    | _ => .stuck
  | _ => .stuck
section
variable {X : Cx} {T : Tb} {ms ms1 : List Mode} {W : WX} {e : Expr} {g : G} {k : Mode} {σ : L2.St} {H F : Hp} {fp : Nat → Ad} {env : Env} {j : Nat}
theorem Good.lend (g : Good T ms env σ H F fp) (hj : (ms.getD j .sh).ok = true) (h1 : ms1.getD j .sh = .sh) (h2 : ∀ i, i ≠ j → ms1.getD i .sh = ms.getD i .sh) :
    Good T ms1 env σ H (frz F H (fp j)) (fun i a => i ≠ j ∧ fp i a) := by
  have hs : Same F (frz F H (fp j)) := frz_same fun a ha => (g.off j a ha).1
  refine ⟨g.len, fun b o hb => ?_, fun i d e => ?_, fun i i' a hne h1 h2 => g.dis i i' a hne h1.2 h2.2, fun i a ha => ⟨?_, (g.off i a ha.2).2⟩⟩
  · by_cases hp : fp j b
    · rw [frz_in hp] at hb; exact hb
    · rw [frz_out hp] at hb; exact g.sub b o hb
  · obtain ⟨v, e1, e2⟩ := g.slot i d e
    refine ⟨v, e1, ?_⟩
    by_cases hi : i = j
    · subst hi
      rw [h1]
      exact ⟨fun a z => z.1 rfl, e2.freeze g.sub hj fun a ha => (g.off i a ha).1⟩
    · rw [h2 i hi]
      have : (fun a => i ≠ j ∧ fp i a) = fp i := by funext a; simp [hi]
      rw [this]
      exact e2.mono hs fun _ _ => rfl
  · rw [frz_out fun z => g.dis i j a ha.1 ha.2 z]
    exact (g.off i a ha.2).1
theorem sp_borrow (j : Nat) (he : SP' X T W ms1 k e g) (hj : (ms.getD j .sh).ok = true) (h1 : ms1.getD j .sh = .sh) (h2 : ∀ i, i ≠ j → ms1.getD i .sh = ms.getD i .sh) : SP' X T W ms k e (gBorrow ms j k g) :=
  PE.imp he fun σ H Q ⟨F, env, fp, gd, o⟩ => by
    refine ⟨_, env, _, gd.lend hj h1 h2, ?_⟩
    unfold gBorrow at o
    split at o
    · rename_i d0 hd0
      cases q : g env with
      | err env' x => rw [q] at o; exact o.elim
      | stuck => rw [q] at o; exact o.elim
      | ok env' d =>
        rw [q] at o
        simp only at o
        split at o
        · rename_i hc
          obtain ⟨c1, c2⟩ := Bool.and_eq_true_iff.mp hc
          obtain ⟨c2, c3⟩ := Bool.and_eq_true_iff.mp c2
          obtain ⟨v0, hv0, ow0⟩ := gd.slot j d0 hd0
          intro H' F' fp' v fv s g' ow off dis
          have F1in : ∀ a, fp j a → F' a = H a := fun a ha => by
            obtain ⟨vs, e⟩ := Own.lists c1 ow0 a ha
            rw [e]
            exact s.grow a _ (by rw [frz_in ha]; exact e)
          have hA : ∀ a, fp j a → ∃ vs, F' a = some (.lst vs) := fun a ha => by
            obtain ⟨vs, e⟩ := Own.lists c1 ow0 a ha
            exact ⟨vs, by rw [F1in a ha]; exact e⟩
          have hs : Same F (cutF F' (fp j)) := fun b o hb => by
            have nb : ¬ fp j b := fun z => by rw [(gd.off j b z).1] at hb; cases hb
            rw [cutF_out nb]
            exact s.grow b o (by rw [frz_out nb]; exact hb)
          have hH : ∀ a, fp j a → H' a = H a := fun a ha => by
            obtain ⟨vs, e⟩ := Own.lists c1 ow0 a ha
            rw [e]
            exact g'.sub a _ (by rw [F1in a ha]; exact e)
          have nF : ∀ {a : Addr}, F' a = none → ¬ fp j a := fun {a} h z => by
            obtain ⟨vs, e⟩ := hA a z
            rw [h] at e; cases e
          have len : env.length = env'.length := gd.len.trans g'.len.symm
          refine o H' (cutF F' (fp j)) (fun i a => (i = j ∧ fp j a) ∨ (i ≠ j ∧ ms.getD i .sh ≠ .sh ∧ fp' i a)) v fv ⟨fun b o hb nb => ?_, hs, fun b hb => ?_, fun b hb => ?_⟩ ⟨?_, fun b o hb => ?_, fun i d' hi => ?_, fun i i' a hne h1' h2' => ?_, fun i a ha => ?_⟩ (ow.cut hA c2) (fun a ha => ⟨?_, (off a ha).2⟩) fun i a ha hv => ?_
          · exact s.keep b o hb fun ⟨i, z⟩ => nb ⟨i, z.2⟩
          · have nb : ¬ fp j b := fun z => hb (cutF_in z)
            rw [cutF_out nb] at hb
            rcases s.new b hb with z | z | ⟨i, z⟩
            · rw [frz_out nb] at z; exact .inl z
            · exact .inr (.inl z)
            · exact .inr (.inr ⟨i, z.2⟩)
          · rcases hb with ⟨i, ⟨_, z⟩ | ⟨_, _, z⟩⟩ | z
            · exact .inl ⟨j, z⟩
            · exact (s.fpn b (.inl ⟨i, z⟩)).imp (fun ⟨i', w⟩ => ⟨i', w.2⟩) id
            · exact (s.fpn b (.inr z)).imp (fun ⟨i', w⟩ => ⟨i', w.2⟩) id
          · rw [mergeE_len len]; exact gd.len
          · by_cases z : fp j b
            · rw [cutF_in z] at hb; cases hb
            · rw [cutF_out z] at hb; exact g'.sub b o hb
          · rw [mergeE_get len, Nat.zero_add] at hi
            by_cases hij : i = j
            · rw [if_pos (.inl hij)] at hi
              subst hij
              rw [hd0] at hi
              cases hi
              refine ⟨v0, hv0, ?_⟩
              have : (fun a => (i = i ∧ fp i a) ∨ (i ≠ i ∧ ms.getD i .sh ≠ .sh ∧ fp' i a)) = fp i := by funext a; simp
              rw [this]
              exact ow0.mono hs hH
            · by_cases hm : ms.getD i .sh = .sh
              · rw [if_pos (.inr hm)] at hi
                obtain ⟨u, hu, ou⟩ := gd.slot i d' hi
                refine ⟨u, hu, ?_⟩
                rw [hm] at ou
                exact own_sh hm (fun a z => z.elim (fun w => hij w.1) fun w => w.2.1 hm) (ou.2.mono hs)
              · rw [if_neg (by rintro (z | z); exact hij z; exact hm z)] at hi
                obtain ⟨u, hu, ou⟩ := g'.slot i d' hi
                refine ⟨u, hu, ?_⟩
                have e1 : (fun a => (i = j ∧ fp j a) ∨ (i ≠ j ∧ ms.getD i .sh ≠ .sh ∧ fp' i a)) = fp' i := by funext a; simp [hij]; exact fun _ => hm
                rw [e1]
                rw [h2 i hij] at ou
                exact ou.cut hA (by have := restFlat_get c3 hi (by omega) (by rw [Nat.zero_add]; exact hm); rwa [Nat.zero_add] at this)
          · rcases h1' with ⟨e1, z1⟩ | ⟨n1, _, z1⟩ <;> rcases h2' with ⟨e2, z2⟩ | ⟨n2, _, z2⟩
            · exact hne (e1.trans e2.symm)
            · exact nF (g'.off i' a z2).1 z1
            · exact nF (g'.off i a z1).1 z2
            · exact g'.dis i i' a hne z1 z2
          · rcases ha with ⟨_, z⟩ | ⟨_, _, z⟩
            · refine ⟨cutF_in z, ?_⟩
              obtain ⟨vs, e⟩ := Own.lists c1 ow0 a z
              rw [hH a z, e]
              exact fun w => nomatch w
            · exact ⟨by rw [cutF_out (nF (g'.off i a z).1)]; exact (g'.off i a z).1, (g'.off i a z).2⟩
          · rw [cutF_out (nF (off a ha).1)]; exact (off a ha).1
          · rcases ha with ⟨_, z⟩ | ⟨_, _, z⟩
            · exact nF (off a hv).1 z
            · exact dis i a z hv
        · exact o.elim
    · exact o.elim
end
end TL

set_option Elab.async false
set_option linter.all false
set_option maxRecDepth 100000
set_option maxHeartbeats 1000000
namespace TL
open PySem PySem.Spec PyProof.Rows L2

/-! ### one item of what is one's own -/
theorem set_same {α : Type} {xs : List α} {n : Nat} {x : α} (h : xs[n]? = some x) : xs.set n x = xs := by
  apply List.ext_getElem?
  intro j
  rw [List.getElem?_set]
  split
  · rename_i e
    subst e
    split
    · exact h.symm
    · rename_i hl
      rw [List.getElem?_eq_none (by omega)]
  · rfl
theorem OwnL.nth {P : D → V → Ad → Prop} : ∀ {ds : List D} {vs : List V} {fp : Ad} {i : Nat} {d : D}, OwnL P ds vs fp → ds[i]? = some d →
    ∃ (v : V) (f1 f2 : Ad), vs[i]? = some v ∧ P d v f1 ∧ (∀ a, fp a ↔ f1 a ∨ f2 a) ∧ (∀ a, f1 a → f2 a → False) ∧
      ∀ (P' : D → V → Ad → Prop) (d' : D) (v' : V) (f1' : Ad), P' d' v' f1' → (∀ a, f1' a → f2 a → False) → (∀ (d : D) (v : V) (f : Ad), (∀ a, f a → f2 a) → P d v f → P' d v f) → OwnL P' (ds.set i d') (vs.set i v') (fun a => f1' a ∨ f2 a)
  | [], _, _, _, _, _, h => by simp at h
  | d0 :: ds, vs, fp, 0, d, ⟨v, r, f1, f2, e, hf, dj, p, t⟩, h => by
    have h : d0 = d := by simpa using h
    subst h e
    refine ⟨v, f1, f2, rfl, p, hf, dj, fun P' d' v' f1' p' dj' k => ?_⟩
    exact ⟨v', r, f1', f2, rfl, fun a => Iff.rfl, dj', p', t.imp fun d v f hs q => k d v f hs q⟩
  | d0 :: ds, vs, fp, i + 1, d, ⟨v, r, f1, f2, e, hf, dj, p, t⟩, h => by
    subst e
    obtain ⟨u, g1, g2, hu, pu, hg, gj, put⟩ := t.nth (by simpa using h)
    refine ⟨u, g1, fun a => f1 a ∨ g2 a, by simpa using hu, pu, fun a => ?_, fun a h1 h2 => ?_, fun P' d' v' f1' p' dj' k => ?_⟩
    · rw [hf a, hg a]
      exact ⟨fun z => z.elim (fun z => .inr (.inl z)) fun z => z.elim .inl fun z => .inr (.inr z), fun z => z.elim (fun z => .inr (.inl z)) fun z => z.elim .inl fun z => .inr (.inr z)⟩
    · rcases h2 with z | z
      · exact dj a z ((hg a).mpr (.inl h1))
      · exact gj a h1 z
    · refine ⟨v, r.set i v', f1, fun a => f1' a ∨ g2 a, rfl, fun a => ⟨fun z => z.elim (fun z => .inr (.inl z)) fun z => z.elim .inl fun z => .inr (.inr z), fun z => z.elim (fun z => .inr (.inl z)) fun z => z.elim .inl fun z => .inr (.inr z)⟩, fun a h1 h2 => ?_, k d0 v f1 (fun a z => .inl z) p, put P' d' v' f1' p' (fun a h1 h2 => dj' a h1 (.inr h2)) fun d v f hs q => k d v f (fun a z => .inr (hs a z)) q⟩
      rcases h2 with z | z
      · exact dj' a z (.inl h1)
      · exact dj a h1 ((hg a).mpr (.inr z))
section
variable {X : Cx} {J : Jd} {T : Tb} {ms ms' : List Mode} {W : WX} {e ix : Expr} {p q pos apos cpos tp : Pos} {g gi : G} {k m : Mode} {x : Str} {i : Nat}
theorem ixN_at {α : Type} {xs : List α} {z : Int} {n : Nat} {x : α} (h : ixN xs.length z = some n) (hx : xs[n]? = some x) : atI xs z = some x := by
  unfold atI
  rw [h]
  exact hx
/-! ### x[i].clear(), x one's own list of own lists -/
def gClearI (i : Nat) (gi : G) : GS := fun env => match env[i]? with
  | some (some (.lst _)) => (gi env).to fun env1 di => match di, env1[i]? with
    | .int z, some (some (.lst ds)) => match ixN ds.length z with
      | some n => match ds[n]? with
        | some (.lst _) => .next (env1.set i (some (.lst (ds.set n (.lst [])))))
        | _ => .stuck
      | none => .stuck
    | _, _ => .stuck
  | _ => .stuck
theorem ss_clearI (i : Nat) (hm : ms.getD i .sh = .own (.own m)) (hix : SE X J.T J.W ms ix gi) (hem : J.em ms) (hN : X.N[i]? = some x := by rfl) (hv : Vis X.env.scope x := by first | exact Or.inl rfl | exact Or.inr (Or.inl rfl) | exact Or.inr (Or.inr rfl))
    (hd : (x == ("__debug__" : Str)) = false := by decide) (hcd : (x == ("__classdict__" : Str)) = false := by decide) (hpl : PlainIx ix := by exact fun _ _ => rfl)
    (hs : swapsWith (.Call (.Attribute (.Subscript (.Name x p) ix tp) "clear" apos) [] [] cpos) none pos.line X.env = pure false := by rfl)
    (hbase : attributeBase (.Subscript (.Name x p) ix tp) "clear" X.env (eval (.Subscript (.Name x p) ix tp) X.env) = eval (.Subscript (.Name x p) ix tp) X.env := by rfl) (hline : (apos.endLine == cpos.line) = true := by rfl) :
    SS X J ms (.Expr (.Call (.Attribute (.Subscript (.Name x p) ix tp) "clear" apos) [] [] cpos) pos) ms (gClearI i gi) :=
  PS.imp (ps_expr (pe_bm0 PySem.F.plainAttrs_list PySem.F.slot_list_clear PySem.F.type_list_clear mt_clear (pe_ix ix_list (pe_var hN hv hd hcd) hix hpl) hbase hline) hs) fun E σ H ⟨F, env, fp, gd, kp, o⟩ => by
    unfold gClearI at o
    split at o
    · rename_i ds0 h0
      obtain ⟨v0, hv0, ow0⟩ := gd.slot i _ h0
      refine ⟨v0, hv0, F, env, fp, gd, SOut.exp hem kp o fun env1 di H1 F1 fp1 u g1 k1 r1 o1 => ?_⟩
      split at o1
      · rename_i z ds h1
        split at o1
        · rename_i n hn
          split at o1
          · rename_i inner hdn
            obtain ⟨v1, hv1, ow1⟩ := g1.slot i _ h1
            have ev : v1 = v0 := by rw [hv0] at hv1; simpa using hv1.symm
            subst ev
            rw [hm] at ow1
            unfold Own at ow1
            obtain ⟨l, vs, R, ev, hl, nR, hfp, ol⟩ := ow1
            subst ev
            obtain ⟨w, f1, f2, hw, pw, hR, hdis, put⟩ := ol.nth hdn
            unfold Own at pw
            obtain ⟨l2, ws, R2, ew, hl2, nR2, hf1, ol2⟩ := pw
            subst ew
            have i2 : fp1 i l2 := (hfp l2).mpr (.inr ((hR l2).mpr (.inl ((hf1 l2).mpr (.inl rfl)))))
            have R2l : R l2 := (hR l2).mpr (.inl ((hf1 l2).mpr (.inl rfl)))
            have ne : l ≠ l2 := fun z => nR (by rw [z]; exact R2l)
            have hlen : vs.length = ds.length := ownL_length ol
            unfold Rep at r1
            refine ⟨l, vs, z, .ref l2, rfl, r1, SqL.of hl, ixN_at (by rw [hlen]; exact hn) hw, .inl ⟨rfl, ws, SqL.of hl2⟩, l2, ws, rfl, rfl, hl2, ?_⟩
            have gm := g1.mut (H' := upd H1 l2 (.lst [])) (d' := .lst (ds.set n (.lst []))) (f' := fun b => b = l ∨ (b = l2 ∨ f2 b)) (fv := fun _ => False) hv1 (by
              rw [hm]
              unfold Own
              refine ⟨l, vs, fun b => b = l2 ∨ f2 b, rfl, by rw [upd_ne ne]; exact hl, fun z => z.elim ne fun z => nR ((hR l).mpr (.inr z)), fun b => Iff.rfl, ?_⟩
              have := put (Own J.T F1 (upd H1 l2 (.lst [])) (.own m)) (.lst []) (.ref l2) (fun b => b = l2) (by
                unfold Own
                exact ⟨l2, [], fun _ => False, rfl, upd_same, id, fun b => by simp, rfl, fun _ z => z⟩) (fun a h1 h2 => hdis a ((hf1 a).mpr (.inl h1)) h2) (fun d v f hs q => q.mono (Same.refl _) fun a ha => upd_ne fun (z : a = l2) => hdis a ((hf1 a).mpr (.inl z)) (hs a ha))
              rwa [set_same hw] at this) (fun a h => .inl (by
                rcases h with h | h | h
                · exact (hfp a).mpr (.inl h)
                · rw [h]; exact i2
                · exact (hfp a).mpr (.inr ((hR a).mpr (.inr h))))) (fun _ _ _ z => z) (fun a h => by
                have ia : fp1 i a := by
                  rcases h with h | h | h
                  · exact (hfp a).mpr (.inl h)
                  · rw [h]; exact i2
                  · exact (hfp a).mpr (.inr ((hR a).mpr (.inr h)))
                refine ⟨(g1.off i a ia).1, ?_⟩
                by_cases e : a = l2
                · subst e; rw [upd_same]; exact fun z => nomatch z
                · rw [upd_ne e]; exact (g1.off i a ia).2) (upd_kp i2)
            exact o1 σ _ F1 _ (step_mut0 (upd_kp i2) fun a h => by
              rcases h with h | h | h
              · exact (hfp a).mpr (.inl h)
              · rw [h]; exact i2
              · exact (hfp a).mpr (.inr ((hR a).mpr (.inr h)))) gm k1
          · exact o1.elim
        · exact o1.elim
      · exact o1.elim
    · exact o.elim
/-! ### x[i] = one's own, x one's own list of such; i a name -/
def gSetIP (i j : Nat) (g : G) : GS := fun env => (g env).to fun env1 d => match env1[i]?, env1[j]? with
  | some (some (.lst ds)), some (some (.int z)) => match ixN ds.length z with
    | some n => .next (env1.set i (some (.lst (ds.set n d))))
    | none => .stuck
  | _, _ => .stuck
theorem ixN_lt {n j : Nat} {z : Int} (h : ixN n z = some j) : j < n := (ixN_seq h).2.1
theorem ss_setIP (i j : Nat) {y : Str} (hm : ms.getD i .sh = .own m) (hj : ms.getD j .sh = .sh) (he : SP' X J.T J.W ms m e g) (hem : J.em ms) (hN : X.N[i]? = some x := by rfl) (hv : Vis X.env.scope x := by first | exact Or.inl rfl | exact Or.inr (Or.inl rfl) | exact Or.inr (Or.inr rfl))
    (hNj : X.N[j]? = some y := by rfl) (hvj : Vis X.env.scope y := by first | exact Or.inl rfl | exact Or.inr (Or.inl rfl) | exact Or.inr (Or.inr rfl))
    (hd : (x == ("__debug__" : Str)) = false := by decide) (hcd : (x == ("__classdict__" : Str)) = false := by decide) (hdj : (y == ("__debug__" : Str)) = false := by decide) (hcdj : (y == ("__classdict__" : Str)) = false := by decide)
    (has : ∀ v, assign (.Subscript (.Name x p) (.Name y q) tp) X.env v = (do
      let ov ← holding [v] (eval (.Name x p) X.env)
      let iv ← holding [v, ov] (eval (.Name y q) X.env)
      standAt tp
      holding [v, ov, iv] (setItem ov iv v)
      release [v, ov, iv] []) := by intro _; rfl)
    (hsw : swapsWithSole [.Subscript (.Name x p) (.Name y q) tp] e pos.line X.env = pure false := by rfl) (hw : swappedStores [.Subscript (.Name x p) (.Name y q) tp] e X.env = pure none := by rfl) :
    SS X J ms (.Assign [.Subscript (.Name x p) (.Name y q) tp] e pos) ms (gSetIP i j g) :=
  PS.imp (ps_asg he (pg_sub (pe_var hN hv hd hcd) (pe_var hNj hvj hdj hcdj) set_list has) hsw hw) fun E σ H ⟨F, env, fp, gd, kp, o⟩ => by
    refine ⟨F, env, fp, gd, SOut.expP hem kp o fun env1 d H1 F1 fp1 v fv er s1 g1 k1 ow off dis => ?_⟩
    unfold gSetIP at o
    rw [er] at o
    simp only [Res.to_ok] at o
    split at o
    · rename_i ds z h1 hz
      split at o
      · rename_i n hn
        obtain ⟨v1, hv1, ow1⟩ := g1.slot i _ h1
        obtain ⟨vz, hvz, owz⟩ := g1.slot j _ hz
        rw [hj] at owz
        have rz := owz.2
        unfold Rep at rz
        subst rz
        rw [hm] at ow1
        unfold Own at ow1
        obtain ⟨l, vs, R, ev, hl, nR, hfp, ol⟩ := ow1
        subst ev
        have il : fp1 i l := (hfp l).mpr (.inl rfl)
        have hlen : vs.length = ds.length := ownL_length ol
        have hdn : ds[n]? = some ds[n]! := by
          have := ixN_lt hn
          simp [this]
        obtain ⟨w, f1, f2, hw', pw, hR, hdis, put⟩ := ol.nth hdn
        have nv : ¬ fv l := fun z => dis i l il z
        refine ⟨_, hv1, _, hvz, l, vs, _, n, rfl, rfl, hl, by rw [hlen]; exact hn, ?_⟩
        have gm := g1.mut (H' := upd H1 l (.lst (vs.set n v))) (d' := .lst (ds.set n d)) (f' := fun a => a = l ∨ (fv a ∨ f2 a)) (fv := fv) hv1 (by
          rw [hm]
          unfold Own
          refine ⟨l, vs.set n v, fun a => fv a ∨ f2 a, rfl, upd_same, fun z => z.elim nv fun z => nR ((hR l).mpr (.inr z)), fun b => Iff.rfl, ?_⟩
          exact put (Own J.T F1 (upd H1 l (.lst (vs.set n v))) m) d v fv (ow.mono (Same.refl _) fun a ha => upd_ne fun (z : a = l) => nv (by rw [← z]; exact ha)) (fun a h1 h2 => dis i a ((hfp a).mpr (.inr ((hR a).mpr (.inr h2)))) h1)
            fun d v f hs q => q.mono (Same.refl _) fun a ha => upd_ne fun (z : a = l) => nR (by rw [← z]; exact (hR a).mpr (.inr (hs a ha)))) (fun a h => by
          rcases h with h | h | h
          · rw [h]; exact .inl il
          · exact .inr h
          · exact .inl ((hfp a).mpr (.inr ((hR a).mpr (.inr h))))) dis (fun a h => by
          have hh : (F1 a = none ∧ H1 a ≠ none) := by
            rcases h with h | h | h
            · rw [h]; exact g1.off i l il
            · exact off a h
            · exact g1.off i a ((hfp a).mpr (.inr ((hR a).mpr (.inr h))))
          refine ⟨hh.1, ?_⟩
          by_cases e : a = l
          · subst e; rw [upd_same]; exact fun z => nomatch z
          · rw [upd_ne e]; exact hh.2) (upd_kp il)
        exact o σ _ F1 _ (s1.trans (step_mut (upd_kp il) fun a h => by
          rcases h with h | h | h
          · rw [h]; exact .inl il
          · exact .inr h
          · exact .inl ((hfp a).mpr (.inr ((hR a).mpr (.inr h)))))) gm k1
      · exact o.elim
    · exact o.elim
/-! ### x[i][j] = e, x one's own list of own lists; i, j names -/
def gSetII (i j k : Nat) (g : G) : GS := fun env => (g env).to fun env1 d => match env1[i]?, env1[j]?, env1[k]? with
  | some (some (.lst ds)), some (some (.int z)), some (some (.int y)) => match ixN ds.length z with
    | some n => match ds[n]? with
      | some (.lst xs) => match ixN xs.length y with
        | some c => .next (env1.set i (some (.lst (ds.set n (.lst (xs.set c d))))))
        | none => .stuck
      | _ => .stuck
    | none => .stuck
  | _, _, _ => .stuck
theorem ss_setII (i j k : Nat) {y z : Str} {p2 p3 tp1 : Pos} (hm : ms.getD i .sh = .own (.own .sh)) (hj : ms.getD j .sh = .sh) (hk : ms.getD k .sh = .sh) (he : SE X J.T J.W ms e g) (hem : J.em ms) (hN : X.N[i]? = some x := by rfl) (hv : Vis X.env.scope x := by first | exact Or.inl rfl | exact Or.inr (Or.inl rfl) | exact Or.inr (Or.inr rfl))
    (hNj : X.N[j]? = some y := by rfl) (hvj : Vis X.env.scope y := by first | exact Or.inl rfl | exact Or.inr (Or.inl rfl) | exact Or.inr (Or.inr rfl)) (hNk : X.N[k]? = some z := by rfl) (hvk : Vis X.env.scope z := by first | exact Or.inl rfl | exact Or.inr (Or.inl rfl) | exact Or.inr (Or.inr rfl))
    (hd : (x == ("__debug__" : Str)) = false := by decide) (hcd : (x == ("__classdict__" : Str)) = false := by decide) (hdj : (y == ("__debug__" : Str)) = false := by decide) (hcdj : (y == ("__classdict__" : Str)) = false := by decide) (hdk : (z == ("__debug__" : Str)) = false := by decide) (hcdk : (z == ("__classdict__" : Str)) = false := by decide)
    (has : ∀ v, assign (.Subscript (.Subscript (.Name x p) (.Name y p2) tp1) (.Name z p3) tp) X.env v = (do
      let ov ← holding [v] (eval (.Subscript (.Name x p) (.Name y p2) tp1) X.env)
      let iv ← holding [v, ov] (eval (.Name z p3) X.env)
      standAt tp
      holding [v, ov, iv] (setItem ov iv v)
      release [v, ov, iv] []) := by intro _; rfl)
    (hsw : swapsWithSole [.Subscript (.Subscript (.Name x p) (.Name y p2) tp1) (.Name z p3) tp] e pos.line X.env = pure false := by rfl) (hw : swappedStores [.Subscript (.Subscript (.Name x p) (.Name y p2) tp1) (.Name z p3) tp] e X.env = pure none := by rfl) :
    SS X J ms (.Assign [.Subscript (.Subscript (.Name x p) (.Name y p2) tp1) (.Name z p3) tp] e pos) ms (gSetII i j k g) :=
  PS.imp (ps_asg he (pg_sub (pe_ix ix_list (pe_var hN hv hd hcd) (pe_var hNj hvj hdj hcdj) (fun _ _ => rfl)) (pe_var hNk hvk hdk hcdk) set_list has) hsw hw) fun E σ H ⟨F, env, fp, gd, kp, o⟩ => by
    refine ⟨F, env, fp, gd, SOut.exp hem kp o fun env1 d H1 F1 fp1 v g1 k1 r1 o1 => ?_⟩
    split at o1
    · rename_i ds z y h1 hz hy
      split at o1
      · rename_i n hn
        split at o1
        · rename_i xs hdn
          split at o1
          · rename_i c hc
            obtain ⟨v1, hv1, ow1⟩ := g1.slot i _ h1
            obtain ⟨vz, hvz, owz⟩ := g1.slot j _ hz
            obtain ⟨vy, hvy, owy⟩ := g1.slot k _ hy
            rw [hj] at owz
            rw [hk] at owy
            have rz := owz.2
            have ry := owy.2
            unfold Rep at rz ry
            subst rz ry
            rw [hm] at ow1
            unfold Own at ow1
            obtain ⟨l, vs, R, ev, hl, nR, hfp, ol⟩ := ow1
            subst ev
            obtain ⟨w, f1, f2, hw', pw, hR, hdis, put⟩ := ol.nth hdn
            obtain ⟨l2, ws, ew, hl2, rl2, hf1⟩ := own_list' pw
            subst ew
            have R2l : R l2 := (hR l2).mpr (.inl ((hf1 l2).mpr rfl))
            have i2 : fp1 i l2 := (hfp l2).mpr (.inr R2l)
            have ne : l ≠ l2 := fun z => nR (by rw [z]; exact R2l)
            have hlen : vs.length = ds.length := ownL_length ol
            have hlen2 : ws.length = xs.length := rl2.length
            have fin : ∀ a, (a = l ∨ (a = l2 ∨ f2 a)) → fp1 i a := fun a h => by
              rcases h with h | h | h
              · exact (hfp a).mpr (.inl h)
              · rw [h]; exact i2
              · exact (hfp a).mpr (.inr ((hR a).mpr (.inr h)))
            refine ⟨_, hv1, _, hvz, l, vs, z, .ref l2, rfl, rfl, SqL.of hl, ixN_at (by rw [hlen]; exact hn) hw', _, hvy, l2, ws, _, c, rfl, rfl, hl2, by rw [hlen2]; exact hc, ?_⟩
            have gm := g1.mut (H' := upd H1 l2 (.lst (ws.set c v))) (d' := .lst (ds.set n (.lst (xs.set c d)))) (f' := fun b => b = l ∨ (b = l2 ∨ f2 b)) (fv := fun _ => False) hv1 (by
              rw [hm]
              unfold Own
              refine ⟨l, vs, fun b => b = l2 ∨ f2 b, rfl, by rw [upd_ne ne]; exact hl, fun z => z.elim ne fun z => nR ((hR l).mpr (.inr z)), fun b => Iff.rfl, ?_⟩
              have := put (Own J.T F1 (upd H1 l2 (.lst (ws.set c v))) (.own .sh)) (.lst (xs.set c d)) (.ref l2) (fun b => b = l2) (own_list upd_same (rl2.set r1)) (fun a h1 h2 => hdis a ((hf1 a).mpr h1) h2) (fun d v f hs q => q.mono (Same.refl _) fun a ha => upd_ne fun (z : a = l2) => hdis a ((hf1 a).mpr z) (hs a ha))
              rwa [set_same hw'] at this) (fun a h => .inl (fin a h)) (fun _ _ _ z => z) (fun a h => by
              refine ⟨(g1.off i a (fin a h)).1, ?_⟩
              by_cases e : a = l2
              · subst e; rw [upd_same]; exact fun z => nomatch z
              · rw [upd_ne e]; exact (g1.off i a (fin a h)).2) (upd_kp i2)
            exact o1 σ _ F1 _ (step_mut0 (upd_kp i2) fin) gm k1
          · exact o1.elim
        · exact o1.elim
      · exact o1.elim
    · exact o1.elim
/-! ### what is in one's own is shared from now on -/
theorem Good.inner {env : Env} {σ : L2.St} {H F : Hp} {fp : Nat → Ad} {ms1 : List Mode} (g : Good T ms env σ H F fp) (hm : ms.getD i .sh = .own m) (hok : m.ok = true) (h1 : ms1.getD i .sh = .own .sh) (h2 : ∀ j, j ≠ i → ms1.getD j .sh = ms.getD j .sh) :
    ∃ F' fp', Good T ms1 env σ H F' fp' ∧ Step H F (All fp) H F' (All fp') ∧ Same F F' := by
  have none_ : (∀ d, env[i]? ≠ some (some d)) → ∃ F' fp', Good T ms1 env σ H F' fp' ∧ Step H F (All fp) H F' (All fp') ∧ Same F F' := fun h =>
    ⟨F, fp, ⟨g.len, g.sub, fun j d e => by
      by_cases hj : j = i
      · subst hj; exact (h d e).elim
      · rw [h2 j hj]; exact g.slot j d e, g.dis, g.off⟩, Step.refl, Same.refl _⟩
  refine (Classical.em (∃ d, env[i]? = some (some d))).elim (fun hs => ?_) fun hs => none_ fun d e => hs ⟨d, e⟩
  obtain ⟨d, hd⟩ := hs
  obtain ⟨v, hv, ow⟩ := g.slot i d hd
  rw [hm] at ow
  have main : ∀ (a : Addr) (R : Ad), ¬ R a → (∀ b, fp i b ↔ b = a ∨ R b) → (∀ Fx, Fx = frz F H R → Own T Fx H (.own .sh) d v (fun b => b = a)) → ∃ F' fp', Good T ms1 env σ H F' fp' ∧ Step H F (All fp) H F' (All fp') ∧ Same F F' := fun a R na hf ow' => by
    have hs : Same F (frz F H R) := frz_same fun b hb => (g.off i b ((hf b).mpr (.inr hb))).1
    refine ⟨frz F H R, fun j b => if j = i then b = a else fp j b, ⟨g.len, fun b o hb => ?_, fun j d' e => ?_, fun j j' b hne z1 z2 => ?_, fun j b hb => ?_⟩, ⟨fun b o hb _ => hb, hs, fun b hb => ?_, fun b ⟨j, hb⟩ => ?_⟩, hs⟩
    · by_cases hp : R b
      · rw [frz_in hp] at hb; exact hb
      · rw [frz_out hp] at hb; exact g.sub b o hb
    · by_cases hj : j = i
      · subst hj
        rw [hd] at e
        cases e
        refine ⟨v, hv, ?_⟩
        rw [h1]
        have : (fun b => if j = j then b = a else fp j b) = fun b => b = a := by funext b; simp
        rw [this]
        exact ow' _ rfl
      · obtain ⟨u, hu, ou⟩ := g.slot j d' e
        refine ⟨u, hu, ?_⟩
        rw [h2 j hj]
        have : (fun b => if j = i then b = a else fp j b) = fp j := by funext b; simp [hj]
        rw [this]
        exact ou.mono hs fun _ _ => rfl
    · have f1 : ∀ j, (if j = i then b = a else fp j b) → fp j b := fun j z => by
        split at z
        · rename_i e; subst e; exact (hf b).mpr (.inl z)
        · exact z
      exact g.dis j j' b hne (f1 j z1) (f1 j' z2)
    · have f1 : fp j b ∧ ¬ R b := by
        replace hb : if j = i then b = a else fp j b := hb
        split at hb
        · rename_i e; subst e; rw [hb]; exact ⟨(hf a).mpr (.inl rfl), na⟩
        · rename_i e; exact ⟨hb, fun z => g.dis j i b e hb ((hf b).mpr (.inr z))⟩
      exact ⟨by rw [frz_out f1.2]; exact (g.off j b f1.1).1, (g.off j b f1.1).2⟩
    · by_cases hp : R b
      · exact .inr (.inr ⟨i, (hf b).mpr (.inr hp)⟩)
      · rw [frz_out hp] at hb; exact .inl hb
    · replace hb : if j = i then b = a else fp j b := hb
      split at hb
      · rename_i e; subst e; exact .inl ⟨j, (hf b).mpr (.inl hb)⟩
      · exact .inl ⟨j, hb⟩
  have items : ∀ {R : Ad} {ds : List D} {vs : List V}, (∀ b, R b → fp i b) → OwnL (Own T F H m) ds vs R → RepL T (frz F H R) ds vs := fun {R ds vs} hR o => o.rep fun d v f hs p =>
    Rep.mono (frz_up (fun a ha => hs a ha) g.sub) (Own.freeze g.sub hok (fun a ha => (g.off i a (hR a (hs a ha))).1) p)
  cases d with
  | lst ds =>
    unfold Own at ow
    obtain ⟨a, vs, R, e, q, na, hf, o⟩ := ow
    refine main a R na hf fun Fx hx => ?_
    subst hx
    unfold Own
    exact ⟨a, vs, fun _ => False, e, q, id, fun b => by simp, ownL_sh (items (fun b hb => (hf b).mpr (.inr hb)) o)⟩
  | obj c ds =>
    unfold Own at ow
    obtain ⟨a, dx, vs, R, e, q, na, hf, l, o⟩ := ow
    refine main a R na hf fun Fx hx => ?_
    subst hx
    unfold Own
    exact ⟨a, dx, vs, fun _ => False, e, q, id, fun b => by simp, l, ownL_sh (items (fun b hb => (hf b).mpr (.inr hb)) o)⟩
  | _ => exact ow.elim
theorem ss_inner (i : Nat) {ms1 : List Mode} {st : Stmt} {gs : GS} (h : SS X J ms1 st ms' gs) (hm : ms.getD i .sh = .own m) (hok : m.ok = true) (h1 : ms1.getD i .sh = .own .sh) (h2 : ∀ j, j ≠ i → ms1.getD j .sh = ms.getD j .sh) : SS X J ms st ms' gs :=
  PS.imp h fun E σ H ⟨F, env, fp, g, k, o⟩ => by
    obtain ⟨F', fp', g', s, sm⟩ := g.inner hm hok h1 h2
    exact ⟨F', env, fp', g', k.mono sm, SOut.step o s⟩
end
end TL

set_option Elab.async false
set_option linter.all false
set_option maxRecDepth 100000
set_option maxHeartbeats 1000000
namespace TL
open PySem PySem.Spec PyProof.Rows L2

section
variable {X : Cx} {J : Jd} {T : Tb} {ms ms' : List Mode} {W : WX} {e o : Expr} {es : List Expr} {p q pos apos cpos tp : Pos} {g gi gI : G} {gs gks : GA} {k m : Mode} {x f : Str} {i lv n c nf cnt : Nat} {dds : List D} {dvs : List V}
/-! ### what happens to a thing that no slot holds -/
theorem Good.away {env : Env} {σ : L2.St} {H H' F : Hp} {fp : Nat → Ad} (g : Good T ms env σ H F fp) (h : ∀ a, F a ≠ none ∨ All fp a → H' a = H a) : Good T ms env σ H' F fp := by
  refine ⟨g.len, fun b o hb => by rw [h b (.inl (by rw [hb]; exact fun z => nomatch z))]; exact g.sub b o hb, fun i d e => ?_, g.dis, fun i a ha => ⟨(g.off i a ha).1, by rw [h a (.inr ⟨i, ha⟩)]; exact (g.off i a ha).2⟩⟩
  obtain ⟨v, h1, h2⟩ := g.slot i d e
  exact ⟨v, h1, h2.mono (Same.refl _) fun a ha => h a (.inr ⟨i, ha⟩)⟩
def gClearT (g : G) : GS := fun env => (g env).to fun env1 d => match d with
  | .lst _ => .next env1
  | _ => .stuck
theorem temp_fin {H1 F1 : Hp} {fp1 : Nat → Ad} {fv : Ad} {env1 : Env} {σ : L2.St} {l : Addr} {o' : HO} (g1 : Good T ms env1 σ H1 F1 fp1) (hl : fv l) (off : ∀ a, fv a → F1 a = none ∧ H1 a ≠ none) (dis : ∀ i a, fp1 i a → fv a → False) :
    Good T ms env1 σ (upd H1 l o') F1 fp1 ∧ Step H1 F1 (fun a => All fp1 a ∨ fv a) (upd H1 l o') F1 (All fp1) :=
  ⟨g1.away fun a ha => upd_ne fun z => by
    subst z
    rcases ha with h | ⟨i, h⟩
    · exact h (off a hl).1
    · exact dis i a h hl, ⟨fun b o hb nb => by rw [upd_ne fun z => nb (.inr (by rw [z]; exact hl))]; exact hb, Same.refl _, fun b h => .inl h, fun b h => .inl (.inl h)⟩⟩
theorem ss_clearT (he : SP' X J.T J.W ms (.own m) o g) (hem : J.em ms)
    (hs : swapsWith (.Call (.Attribute o "clear" apos) [] [] cpos) none pos.line X.env = pure false := by rfl)
    (hbase : attributeBase o "clear" X.env (eval o X.env) = eval o X.env := by rfl) (hline : (apos.endLine == cpos.line) = true := by rfl) :
    SS X J ms (.Expr (.Call (.Attribute o "clear" apos) [] [] cpos) pos) ms (gClearT g) :=
  PS.imp (ps_expr (pe_bm0 PySem.F.plainAttrs_list PySem.F.slot_list_clear PySem.F.type_list_clear mt_clear he hbase hline) hs) fun E σ H ⟨F, env, fp, gd, kp, w⟩ => ⟨F, env, fp, gd, SOut.expP hem kp w fun env1 d H1 F1 fp1 v fv er s1 g1 k1 ow off dis => by
    unfold gClearT at w
    rw [er] at w
    cases d with
    | lst ds =>
      unfold Own at ow
      obtain ⟨l, vs, R, ev, hl, nR, hf, ol⟩ := ow
      subst ev
      have il : fv l := (hf l).mpr (.inl rfl)
      refine ⟨.inl ⟨rfl, vs, SqL.of hl⟩, l, vs, rfl, rfl, hl, ?_⟩
      obtain ⟨g2, s2⟩ := temp_fin (o' := .lst []) g1 il off dis
      exact w σ _ F1 fp1 (s1.trans s2) g2 k1
    | _ => exact w.elim⟩
def gAppT (g : G) : GS := fun env => (g env).to fun env1 d => match d with
  | .lst ds => if ds.length < bigN then .next env1 else .stuck
  | _ => .stuck
theorem ss_appT {j : Nat} {cp : Pos} (he : SP' X J.T J.W ms (.own m) o g) (hem : J.em ms)
    (hs : swapsWith (.Call (.Attribute o "append" apos) [.Constant .none j cp] [] cpos) none pos.line X.env = pure false := by rfl)
    (hbase : attributeBase o "append" X.env (eval o X.env) = eval o X.env := by rfl)
    (hfew : ((backTo cpos (starEach [.Constant .none j cp] X.env)).all (fun x => !x.1) && (backToKw cpos (keywordEach [] X.env)).all (fun x => x.1.isSome)
      && decide (([.Constant .none j cp] : List Expr).length + ([] : List Keyword).length + (if ([] : List Keyword).isEmpty then 0 else 1) < 30)) = true := by rfl)
    (hline : (apos.endLine == cpos.line) = true := by rfl) (hst : starEach [.Constant .none j cp] X.env = (false, eval (.Constant .none j cp) X.env) :: starEach [] X.env := by rfl) (hplain : (backTo cpos (starEach [] X.env)).any (·.1) = false := by rfl) :
    SS X J ms (.Expr (.Call (.Attribute o "append" apos) [.Constant .none j cp] [] cpos) pos) ms (gAppT g) :=
  PS.imp (ps_expr (pe_bm PySem.F.plainAttrs_list PySem.F.slot_list_append PySem.F.type_list_append mt_append he (pa_cons pe_non pa_nil hst) hbase hfew hline hst hplain) hs) fun E σ H ⟨F, env, fp, gd, kp, w⟩ => ⟨F, env, fp, gd, SOut.expP hem kp w fun env1 d H1 F1 fp1 v fv er s1 g1 k1 ow off dis => by
    unfold gAppT at w
    rw [er] at w
    cases d with
    | lst ds =>
      simp only [Res.to_ok] at w
      split at w
      · rename_i hlen
        unfold Own at ow
        obtain ⟨l, vs, R, ev, hl, nR, hf, ol⟩ := ow
        subst ev
        have il : fv l := (hf l).mpr (.inl rfl)
        refine ⟨.inl ⟨rfl, vs, SqL.of hl⟩, l, vs, .non, rfl, rfl, hl, by rw [ownL_length ol]; exact big_line' hlen, ?_⟩
        obtain ⟨g2, s2⟩ := temp_fin (o' := .lst (vs ++ [.non])) g1 il off dis
        exact w σ _ F1 fp1 (s1.trans s2) g2 k1
      · exact w.elim
    | _ => exact w.elim⟩
/-! ### instances whose fields are one's own -/
theorem ss_fldP (c i j : Nat) (cd : ClsD X J.T c) (hm : ms.getD i .sh = .prt m) (hj : (J.T.fl c)[j]? = some f) (he : SP' X J.T J.W ms m e g) (hem : J.em ms) (hN : X.N[i]? = some x := by rfl) (hv : Vis X.env.scope x := by first | exact Or.inl rfl | exact Or.inr (Or.inl rfl) | exact Or.inr (Or.inr rfl))
    (hd : (x == ("__debug__" : Str)) = false := by decide) (hcd : (x == ("__classdict__" : Str)) = false := by decide) (hs : swapsWith e (some (.Attribute (.Name x p) f tp)) pos.line X.env = pure false := by rfl) :
    SS X J ms (.Assign [.Attribute (.Name x p) f tp] e pos) ms (gFldSet c i j g) :=
  PS.imp (ps_fld (pe_var hN hv hd hcd) he hs) fun E σ H ⟨F, env, fp, gd, kp, o⟩ => ⟨F, env, fp, gd, SOut.expP hem kp o fun env1 d H1 F1 fp1 v fv er s1 g1 k1 ow off dis => by
    unfold gFldSet at o
    rw [er] at o
    simp only [Res.to_ok] at o
    split at o
    · rename_i c' ds h0
      split at o
      · rename_i hc
        obtain ⟨hc, hl⟩ := hc
        subst hc
        obtain ⟨v0, hv0, ow0⟩ := g1.slot i _ h0
        rw [hm] at ow0
        unfold Own at ow0
        obtain ⟨l, dx, vs, R, ev, hins, nR, hfp, hle, ol⟩ := ow0
        subst ev
        have il : fp1 i l := (hfp l).mpr (.inl rfl)
        have nv : ¬ fv l := fun z => dis i l il z
        have hjl : j < (J.T.fl c').length := (List.getElem?_eq_some_iff.mp hj).1
        have hvs : vs.length = j := by rw [ownL_length ol, hl]
        refine ⟨_, hv0, l, _, dx, _, rfl, hins, cd.cls, cd.no f (List.mem_of_getElem? hj), ?_, ?_⟩
        · rw [List.length_zip]; have := cd.few; omega
        rw [putF_zip cd.nd (by rw [hvs]; exact hj)]
        have gm := g1.mut (H' := upd H1 l (.ins (J.T.cl c') dx ((J.T.fl c').zip (vs ++ [v])))) (d' := .part c' (ds ++ [d])) (f' := fun a => fp1 i a ∨ fv a) (fv := fv) hv0 (by
          rw [hm]
          unfold Own
          refine ⟨l, dx, vs ++ [v], fun a => R a ∨ fv a, rfl, upd_same, fun z => z.elim nR nv, fun b => by show fp1 i b ∨ fv b ↔ b = l ∨ (R b ∨ fv b); rw [hfp b, or_assoc], by rw [List.length_append]; simp; omega, ?_⟩
          exact OwnL.snoc (ol.imp fun d v f hs p => p.mono (Same.refl _) fun a ha => upd_ne fun (z : a = l) => nR (by rw [← z]; exact hs a ha)) (ow.mono (Same.refl _) fun a ha => upd_ne fun (z : a = l) => nv (by rw [← z]; exact ha)) fun a h1 h2 => dis i a ((hfp a).mpr (.inr h1)) h2) (fun a h => h) dis (fun a h => by
          rcases h with h | h
          · refine ⟨(g1.off i a h).1, ?_⟩
            by_cases z : a = l
            · subst z; rw [upd_same]; exact fun z => nomatch z
            · rw [upd_ne z]; exact (g1.off i a h).2
          · refine ⟨(off a h).1, ?_⟩
            rw [upd_ne fun (z : a = l) => nv (by rw [← z]; exact h)]; exact (off a h).2) (upd_kp il)
        exact o σ _ F1 _ (s1.trans (step_mut (upd_kp il) fun a h => h)) gm k1
      · exact o.elim
    · exact o.elim⟩
theorem good_makeP {H F : Hp} {ds : List D} {vs : List V} {y dx : Addr} (s : Same F H) (r : RepL T F ds vs) (hy : H y = none) (hd : H dx = none) (hne : dx ≠ y) :
    Good T [.prt m] (some (.part c []) :: ds.map some) ((V.ref y :: vs).map some) (upd (upd H dx (.own y)) y (.ins (T.cl c) dx [])) F (fun i a => i = 0 ∧ a = y) := by
  have g := good_make (T := T) (c := c) s r hy hd hne
  refine ⟨g.len, g.sub, fun i d e => ?_, g.dis, g.off⟩
  cases i with
  | zero =>
    have e' : D.part c [] = d := by simpa using e
    subst e'
    refine ⟨.ref y, rfl, ?_⟩
    show Own T F _ (.prt m) (.part c []) (.ref y) _
    unfold Own
    refine ⟨y, dx, [], fun _ => False, rfl, ?_, id, fun b => by simp, Nat.zero_le _, rfl, fun _ z => z⟩
    rw [List.zip_nil_right]
    exact upd_same
  | succ i => exact g.slot (i + 1) d e
theorem makeP_core {σ : L2.St} {H1 F1 : Hp} {fp1 : Nat → Ad} {env1 : Env} {Q : VK} {ds : List D} {vs : List V} (hnf : (T.fl c).length = nf) (g1 : Good T ms env1 σ H1 F1 fp1) (r2 : RepL T F1 ds vs) (hcnt : ds.length = cnt)
    (o1 : OutP T ms (.own m) W σ H1 F1 fp1 Q (retM env1 c nf (gI (some (.part c []) :: ds.map some)))) {y dx : Addr} (hy : H1 y = none) (hdx : H1 dx = none) (hne : dx ≠ y) :
    spS T [.prt m] (cnt + 1) gI (.ref y :: vs) (upd (upd H1 dx (.own y)) y (.ins (T.cl c) dx [])) (fun v H2 => v = .non ∧ Q (.ref y) H2) (WE W σ) := by
  refine ⟨by simp [r2.length, hcnt], F1, _, _, good_makeP g1.sub r2 hy hdx hne, ?_⟩
  cases qg : gI (some (.part c []) :: ds.map some) with
  | stuck => rw [qg] at o1; exact o1.elim
  | err e2 x =>
    rw [qg] at o1
    match e2, qg, o1 with
    | some (.part c' fs) :: e2, qg, o1 =>
      intro H' F' fp2 cv dd s g2 er
      have ex := make_step hy hdx s g2.sub
      exact o1 H' F' fp1 cv dd (ex.step g1) (g1.ext ex) er
    | [], _, o1 => exact o1.elim
    | none :: _, _, o1 => exact o1.elim
    | some .non :: _, _, o1 => exact o1.elim
    | some (.bl _) :: _, _, o1 => exact o1.elim
    | some (.int _) :: _, _, o1 => exact o1.elim
    | some (.str _) :: _, _, o1 => exact o1.elim
    | some (.ty _) :: _, _, o1 => exact o1.elim
    | some (.at_ _) :: _, _, o1 => exact o1.elim
    | some (.lst _) :: _, _, o1 => exact o1.elim
    | some (.tup _) :: _, _, o1 => exact o1.elim
    | some (.obj _ _) :: _, _, o1 => exact o1.elim
    | some (.dic _ _) :: _, _, o1 => exact o1.elim
  | ok e2 d =>
    rw [qg] at o1
    unfold retM at o1
    split at o1
    · rename_i c' fs tl heq
      cases heq
      split at o1
      · rename_i hcl
        obtain ⟨hc', hl⟩ := hcl
        subst hc'
        intro H' F' fp2 v s g2 rv
        unfold Rep at rv
        refine ⟨rv, ?_⟩
        have ex := make_step hy hdx s g2.sub
        obtain ⟨u, hu, ow⟩ := g2.slot 0 (.part c' fs) rfl
        have hu' : u = .ref y := by simpa using hu.symm
        subst hu'
        have ow' : Own T F' H' (.prt m) (.part c' fs) (.ref y) (fp2 0) := ow
        unfold Own at ow'
        obtain ⟨a, dx', ws, R, ea, ha, na, hfp, hle, ol⟩ := ow'
        cases ea
        have nH : ∀ b, fp2 0 b → H1 b = none := fun b hb => by
          rcases s.fpn b ⟨0, hb⟩ with ⟨i, hi0, hb1⟩ | z
          · rw [hb1]; exact hy
          · by_cases e1 : b = y
            · rw [e1]; exact hy
            · by_cases e2 : b = dx
              · rw [e2]; exact hdx
              · rw [upd_ne e1, upd_ne e2] at z; exact z
        refine OutP.fin (fv := fp2 0) o1 g1 ex ?_ fun b hb => ?_
        · unfold Own
          exact ⟨y, dx', ws, R, rfl, ha, na, hfp, by rw [ownL_length ol, hl, hnf], ol⟩
        · exact ⟨nH b hb, (g2.off 0 b hb).1, (g2.off 0 b hb).2⟩
      · exact o1.elim
    · rename_i heq
      cases heq
    · exact o1.elim
theorem out_makeP (hnf : (T.fl c).length = nf) (hd : ∀ F, RepL T F dds dvs) (hn : Cnt gs cnt) {σ : L2.St} {H : Hp} {Q : VK} (w : tP T W ms (.own m) (gMake c nf gI dds gs) σ H Q) :
    tMakeSD (T.cl c) (spS T [.prt m] (cnt + dds.length + 1) gI) dvs (WE W) (tA T W ms gs) σ H Q := by
  obtain ⟨F, env, fp, gd, o⟩ := w
  refine ⟨F, env, fp, gd, ?_⟩
  unfold gMake at o
  cases q : gs env with
  | err env1 x => rw [q] at o; exact o
  | stuck => rw [q] at o; exact o
  | ok env1 ds =>
    rw [q] at o
    intro H1 F1 fp1 vs s1 g1 r1 y dx hy hdx hne
    have o1 := OutP.step o s1
    simp only [Res.bind_ok] at o1
    exact makeP_core hnf g1 (r1.append (hd F1)) (by simp [hn _ _ _ q]) o1 hy hdx hne
theorem sp_makeP (hF : MakD X T lv x c dvs (spS T [.prt m] (cnt + dds.length + 1) gI)) (hr : Room (lv + 1) X.A) (tk : L2N.Takes X W) (hg : Gl X x) (hnf : (T.fl c).length = nf) (hd : ∀ F, RepL T F dds dvs) (ha : SA X T W ms (e :: es) gs) (hc : Cnt gs cnt) (hdb : (x == ("__debug__" : Str)) = false := by decide)
    (he : starEach (e :: es) X.env = (false, eval e X.env) :: starEach es X.env := by rfl) (hpl : (backTo pos (starEach es X.env)).any (·.1) = false := by rfl) : SP' X T W ms (.own m) (.Call (.Name x p) (e :: es) [] pos) (gMake c nf gI dds gs) := by
  obtain ⟨f, fd, ps, ds, h1, h2, h3, h4, h5⟩ := hF.ex
  exact PE.imp (pe_makeSD (E := WE W) h2 h5 hr hg h1 h3 h4 (fun σ => L2N.passAt tk σ) ha hdb he hpl) fun _ _ _ w => out_makeP hnf hd hc w
end
end TL

set_option Elab.async false
set_option linter.all false
set_option maxRecDepth 100000
set_option maxHeartbeats 1000000
namespace TL
open PySem PySem.Spec PyProof.Rows L2
/-! ### C(k = v, ..), keywords alone -/
structure MakK (X : Cx) (T : Tb) (lv : Nat) (x : Str) (c : Nat) (ks : List Str) (hD : List D → List D) (sp : Sp) : Prop where
  ex : ∃ (f : Addr) (fd : FuncData) (ps : List Str) (gp : List Value → List Value → List Value) (hV : List V → List V), X.mg x = some (.ref (T.cl c)) ∧ Mk X.K (T.cl c) f ∧ KBn X.K fd ps 1 ks gp (fun vs zs => vs.getD 0 .non :: hV zs) ∧ FnOk X.prog X.w X.K X.mg X.base (L2N.CX X.prog X.w) lv f fd ps sp ∧
    ∀ (F : Hp) (es : List D) (zs : List V), RepL T F es zs → RepL T F (hD es) (hV zs)
section
variable {X : Cx} {T : Tb} {ms : List Mode} {W : WX} {m : Mode} {pos p : Pos} {lv c nf cnt : Nat} {x : Str} {ks : List Str} {kws : List Keyword} {gI : G} {gks : GA} {hD : List D → List D} {C f : Addr} {fd : FuncData} {ps : List Str} {sp : Sp} {E : L2.St → XK} {tk : TA} {gp : List Value → List Value → List Value} {gV : List V → List V → List V}
def tMakeK (C : Addr) (n : Nat) (sp : Sp) (gV : List V → List V → List V) (E : L2.St → XK) (tk : TA) : TE := fun σ H Q => tk σ H fun zs H2 => zs.length = n ∧
  ∀ y dx, H2 y = none → H2 dx = none → dx ≠ y → sp (gV [.ref y] zs) (upd (upd H2 dx (.own y)) y (.ins C dx [])) (fun v H3 => v = .non ∧ Q (.ref y) H3) (E σ)
theorem pe_makeK (M : Mk X.K C f) (Fn : FnOk X.prog X.w X.K X.mg X.base (L2N.CX X.prog X.w) lv f fd ps sp) (hr : Room (lv + 1) X.A) (hg : Gl X x) (hm : X.mg x = some (.ref C)) (hb : KBn X.K fd ps 1 ks gp gV) (hx : ∀ σ, PassesAt (L2N.CX X.prog X.w) X σ (E σ)) (hkw : PK X kws tk)
    (hall : (backToKw pos (keywordEach kws X.env)).all (·.1.isSome) = true := by rfl) (hks : (backToKw pos (keywordEach kws X.env)).filterMap (·.1) = ks := by rfl) (hdb : (x == ("__debug__" : Str)) = false := by decide)
    (hpl : ((backTo pos (starEach [] X.env)).any (·.1) || (backToKw pos (keywordEach kws X.env)).any (·.1.isNone)) = false := by rfl) :
    PE X (.Call (.Name x p) [] kws pos) (tMakeK C ks.length sp gV E tk) := by
  refine ⟨fun pins s σ H Q I0 h => wpAny_Call_Name_kw (ld_glob I0 hg hm ?_ hdb)⟩
  refine PySem.W.callWith_KW0 (first := []) (h₀ := X.base) I0.ok.mod.kin M.kp hall (thn (hkw.run pos pins s σ H _ I0 h) fun ws s2 ⟨zs, H2, I, rz, lz, q⟩ => ⟨I.kIn, ?_⟩) hpl
  rw [hks]
  have want := q (s2.heap.objs.size + 1) s2.heap.objs.size (I.hok.fresh (Nat.le_succ _)) (I.hok.fresh (Nat.le_refl _)) (Nat.ne_of_lt (Nat.lt_succ_self _))
  have I2 := Inv.made (C := C) I
  have rv := hb.rel (vs := [V.ref (s2.heap.objs.size + 1)]) (us := [Value.ref (s2.heap.objs.size + 1)]) (.cons rfl .nil) rz
  show wpAny _ _ (call (.ref C) [] (ks.zip ws)) _ _ _
  refine wpAny_call (make_map (f := f) I.kIn M.makes M.init (beq_iff_eq.mp M.fn) (codeAny_mono (Fn.run _ X.stack _ _ ⟨[Value.ref (s2.heap.objs.size + 1)], ks.zip ws⟩ (gp [Value.ref (s2.heap.objs.size + 1)] ws) _ _ (E σ) (hr.make C [] (ks.zip ws))
    (I2.env0.make C [] (ks.zip ws)) (hb.to _ [Value.ref (s2.heap.objs.size + 1)] ws I2.kIn rfl (rz.length.symm.trans lz)) rv want) fun r s' z => ?_))
  rcases r with er | (w | _ | _ | _)
  · exact hx σ pins _ _ er s' I2 z
  · exact z.elim
  · exact z.elim
  · exact z.elim
  · obtain ⟨v, H', I3, rw', ev, q3⟩ := I2.after z
    subst ev
    exact ⟨rw', ⟨V.ref (s2.heap.objs.size + 1), H', I3, rfl, q3⟩⟩
def gMakeK (c nf : Nat) (gI : G) (hD : List D → List D) (gks : GA) : G := fun env => (gks env).bind fun env1 zs => retM env1 c nf (gI (some (.part c []) :: (hD zs).map some))
theorem sp_makeK (hF : MakK X T lv x c ks hD (spS T [.prt m] (cnt + 1) gI)) (hr : Room (lv + 1) X.A) (tk : L2N.Takes X W) (hg : Gl X x) (hnf : (T.fl c).length = nf) (hkw : SK X T W ms kws gks) (hks : Cnt gks ks.length) (hD' : ∀ es : List D, es.length = ks.length → (hD es).length = cnt)
    (hall : (backToKw pos (keywordEach kws X.env)).all (·.1.isSome) = true := by rfl) (hk : (backToKw pos (keywordEach kws X.env)).filterMap (·.1) = ks := by rfl) (hdb : (x == ("__debug__" : Str)) = false := by decide)
    (hpl : ((backTo pos (starEach [] X.env)).any (·.1) || (backToKw pos (keywordEach kws X.env)).any (·.1.isNone)) = false := by rfl) : SP' X T W ms (.own m) (.Call (.Name x p) [] kws pos) (gMakeK c nf gI hD gks) := by
  obtain ⟨f, fd, ps, gp, hV, h1, h2, h3, h4, h5⟩ := hF.ex
  refine PE.imp (pe_makeK (E := WE W) h2 h4 hr hg h1 h3 (fun σ => L2N.passAt tk σ) hkw hall hk hdb hpl) fun σ H Q w => ?_
  obtain ⟨F, env, fp, gd, o⟩ := w
  refine ⟨F, env, fp, gd, ?_⟩
  unfold gMakeK at o
  cases q : gks env with
  | err env1 x => rw [q] at o; exact o
  | stuck => rw [q] at o; exact o
  | ok env1 zs =>
    rw [q] at o
    intro H1 F1 fp1 vs s1 g1 r1
    have o1 := OutP.step o s1
    simp only [Res.bind_ok] at o1
    have e1 := hks _ _ _ q
    exact ⟨by rw [r1.length, e1], fun y dx hy hdx hne => makeP_core hnf g1 (h5 _ _ _ r1) (hD' _ e1) o1 hy hdx hne⟩
end
end TL
namespace TL
open PySem PySem.Spec PyProof.Rows L2
section
variable {X : Cx} {T : Tb}
/-! ### == of instances of one class with an own == -/
def hEq1 (c : Nat) (own : Nat → D → D → Option Bool) : D → D → Option D := fun x y => match x with
  | .obj c' fs => if c' = c then (own c (.obj c fs) y).map .bl else none
  | _ => none
theorem ops_eq1 {own : Nat → D → D → Option Bool} {c n : Nat} (hn : ∀ {fs : List D} {d : D} {b : Bool}, own c (.obj c fs) d = some b → RcT X T false n (.obj c fs) d b) (hr : Room n X.A) : OpS X T (compareOp .Eq) (hEq1 c own) := by
  intro pins s σ H x y v u Q I rx ry ⟨F, dx, dy, d, sub, r1, r2, e, q⟩
  unfold hEq1 at e
  split at e
  · rename_i c' fs
    split at e
    · rename_i hc
      subst hc
      cases hq : own c' (.obj c' fs) dy with
      | none => rw [hq] at e; cases e
      | some b =>
        rw [hq] at e
        cases e
        refine wpAny_mono (hn hq X.A pins s σ H F x y v u ⟨hr, rfl⟩ I sub r1 r2 rx ry) (fun r s' z => ?_) fun _ _ z => z
        obtain ⟨er, H', F', I', ex⟩ := z
        subst er
        exact ⟨.bl b, H', I', rfl, q H' F' _ ex rfl⟩
    · cases e
  · cases e
end
/-- modes but for the j-th -/
theorem ms_but {ms : List Mode} {j : Nat} {m : Mode} : ∀ i, i ≠ j → (ms.set j m).getD i .sh = ms.getD i .sh := fun i h => set_getD h
end TL
namespace TL
open PySem PySem.Spec PyProof.Rows L2
/-- a clause's answers: its own class, others that it is not -/
def hitT (c : Nat) (l : List Nat) : Nat → Option Bool := fun n => if n = c then some true else if n ∈ l then some false else none
theorem hitT_n {c n : Nat} {l : List Nat} (h : hitT c l n = some true) : n = c := by
  unfold hitT at h
  split at h
  · assumption
  · split at h <;> cases h
theorem hitT_ok {K : PySem.W.Frag} {T : Tb} {c : Nat} {l : List Nat} (e : PySem.W.exmOne K (.ref (T.cl c)) (.ref (T.cl c)) = some true) (no : ∀ n ∈ l, PySem.W.exmOne K (.ref (T.cl n)) (.ref (T.cl c)) = some false) :
    ∀ n t, hitT c l n = some t → PySem.W.exmOne K (.ref (T.cl n)) (.ref (T.cl c)) = some t := fun n t z => by
  unfold hitT at z
  split at z
  · rename_i en; subst en; cases z; exact e
  · split at z
    · rename_i hm; cases z; exact no n hm
    · cases z
theorem allP_nil {P : Nat → Prop} : ∀ n ∈ ([] : List Nat), P n := fun _ h => nomatch h
theorem allP_cons {P : Nat → Prop} {m : Nat} {l : List Nat} (a : P m) (b : ∀ n ∈ l, P n) : ∀ n ∈ m :: l, P n := fun n h => (List.mem_cons.mp h).elim (fun e => e ▸ a) (b n)
end TL

set_option Elab.async false
set_option linter.all false
set_option maxRecDepth 100000
set_option maxHeartbeats 1000000
namespace TL
open PySem PySem.Spec PyProof.Rows L2
/-! ### a walk that pours: for x in ..: c = e; o.append(c), where e reads what was poured last -/
section
variable {T : Tb} {ms ms1 : List Mode} {env env' : Env} {σ : L2.St} {H F H' F' : Hp} {fp fp' : Nat → Ad} {j : Nat} {k : Mode} {d d0 : D} {v : V} {fv : Ad}
def fpB (ms : List Mode) (j : Nat) (fp fp' : Nat → Ad) : Nat → Ad := fun i a => (i = j ∧ fp j a) ∨ (i ≠ j ∧ ms.getD i .sh ≠ .sh ∧ fp' i a)
/-- what was lent comes back -/
theorem unlend (gd : Good T ms env σ H F fp) (h2 : ∀ i, i ≠ j → ms1.getD i .sh = ms.getD i .sh) (hd0 : env[j]? = some (some d0)) (c1 : listsM (ms.getD j .sh) d0 = true) (c2 : flatM k d = true) (c3 : restFlat ms j 0 env' = true)
    (s : Step H (frz F H (fp j)) (All fun i a => i ≠ j ∧ fp i a) H' F' (fun a => All fp' a ∨ fv a)) (g' : Good T ms1 env' σ H' F' fp') (ow : Own T F' H' k d v fv) (off : ∀ a, fv a → F' a = none ∧ H' a ≠ none) (dis : ∀ i a, fp' i a → fv a → False) :
    Step H F (All fp) H' (cutF F' (fp j)) (fun a => All (fpB ms j fp fp') a ∨ fv a) ∧ Good T ms (mergeE ms j 0 env env') σ H' (cutF F' (fp j)) (fpB ms j fp fp') ∧ Own T (cutF F' (fp j)) H' k d v fv ∧
      (∀ a, fv a → cutF F' (fp j) a = none ∧ H' a ≠ none) ∧ ∀ i a, fpB ms j fp fp' i a → fv a → False := by
  obtain ⟨v0, hv0, ow0⟩ := gd.slot j d0 hd0
  have F1in : ∀ a, fp j a → F' a = H a := fun a ha => by
    obtain ⟨vs, e⟩ := Own.lists c1 ow0 a ha
    rw [e]
    exact s.grow a _ (by rw [frz_in ha]; exact e)
  have hA : ∀ a, fp j a → ∃ vs, F' a = some (.lst vs) := fun a ha => by
    obtain ⟨vs, e⟩ := Own.lists c1 ow0 a ha
    exact ⟨vs, by rw [F1in a ha]; exact e⟩
  have hs : Same F (cutF F' (fp j)) := fun b o hb => by
    have nb : ¬ fp j b := fun z => by rw [(gd.off j b z).1] at hb; cases hb
    rw [cutF_out nb]
    exact s.grow b o (by rw [frz_out nb]; exact hb)
  have hH : ∀ a, fp j a → H' a = H a := fun a ha => by
    obtain ⟨vs, e⟩ := Own.lists c1 ow0 a ha
    rw [e]
    exact g'.sub a _ (by rw [F1in a ha]; exact e)
  have nF : ∀ {a : Addr}, F' a = none → ¬ fp j a := fun {a} h z => by
    obtain ⟨vs, e⟩ := hA a z
    rw [h] at e; cases e
  have len : env.length = env'.length := gd.len.trans g'.len.symm
  refine ⟨⟨fun b o hb nb => ?_, hs, fun b hb => ?_, fun b hb => ?_⟩, ⟨?_, fun b o hb => ?_, fun i d' hi => ?_, fun i i' a hne h1' h2' => ?_, fun i a ha => ?_⟩, ow.cut hA c2, fun a ha => ⟨?_, (off a ha).2⟩, fun i a ha hv => ?_⟩
  · exact s.keep b o hb fun ⟨i, z⟩ => nb ⟨i, z.2⟩
  · have nb : ¬ fp j b := fun z => hb (cutF_in z)
    rw [cutF_out nb] at hb
    rcases s.new b hb with z | z | ⟨i, z⟩
    · rw [frz_out nb] at z; exact .inl z
    · exact .inr (.inl z)
    · exact .inr (.inr ⟨i, z.2⟩)
  · rcases hb with ⟨i, ⟨_, z⟩ | ⟨_, _, z⟩⟩ | z
    · exact .inl ⟨j, z⟩
    · exact (s.fpn b (.inl ⟨i, z⟩)).imp (fun ⟨i', w⟩ => ⟨i', w.2⟩) id
    · exact (s.fpn b (.inr z)).imp (fun ⟨i', w⟩ => ⟨i', w.2⟩) id
  · rw [mergeE_len len]; exact gd.len
  · by_cases z : fp j b
    · rw [cutF_in z] at hb; cases hb
    · rw [cutF_out z] at hb; exact g'.sub b o hb
  · rw [mergeE_get len, Nat.zero_add] at hi
    by_cases hij : i = j
    · rw [if_pos (.inl hij)] at hi
      subst hij
      rw [hd0] at hi
      cases hi
      refine ⟨v0, hv0, ?_⟩
      have : fpB ms i fp fp' i = fp i := by funext a; simp [fpB]
      rw [this]
      exact ow0.mono hs hH
    · by_cases hm : ms.getD i .sh = .sh
      · rw [if_pos (.inr hm)] at hi
        obtain ⟨u, hu, ou⟩ := gd.slot i d' hi
        refine ⟨u, hu, ?_⟩
        rw [hm] at ou
        exact own_sh hm (fun a z => z.elim (fun w => hij w.1) fun w => w.2.1 hm) (ou.2.mono hs)
      · rw [if_neg (by rintro (z | z); exact hij z; exact hm z)] at hi
        obtain ⟨u, hu, ou⟩ := g'.slot i d' hi
        refine ⟨u, hu, ?_⟩
        have e1 : fpB ms j fp fp' i = fp' i := by funext a; simp [fpB, hij]; exact fun _ => hm
        rw [e1]
        rw [h2 i hij] at ou
        exact ou.cut hA (by have := restFlat_get c3 hi (by omega) (by rw [Nat.zero_add]; exact hm); rwa [Nat.zero_add] at this)
  · rcases h1' with ⟨e1, z1⟩ | ⟨n1, _, z1⟩ <;> rcases h2' with ⟨e2, z2⟩ | ⟨n2, _, z2⟩
    · exact hne (e1.trans e2.symm)
    · exact nF (g'.off i' a z2).1 z1
    · exact nF (g'.off i a z1).1 z2
    · exact g'.dis i i' a hne z1 z2
  · rcases ha with ⟨_, z⟩ | ⟨_, _, z⟩
    · refine ⟨cutF_in z, ?_⟩
      obtain ⟨vs, e⟩ := Own.lists c1 ow0 a z
      rw [hH a z, e]
      exact fun w => nomatch w
    · exact ⟨by rw [cutF_out (nF (g'.off i a z).1)]; exact (g'.off i a z).1, (g'.off i a z).2⟩
  · rw [cutF_out (nF (off a ha).1)]; exact (off a ha).1
  · rcases ha with ⟨_, z⟩ | ⟨_, _, z⟩
    · exact nF (off a hv).1 z
    · exact dis i a z hv
/-- slot c is unset in env; its thing dc is shared, or the last one of slot o's -/
structure LK (T : Tb) (ms : List Mode) (c o : Nat) (env : Env) (dc : D) (σ : L2.St) (H F : Hp) (fp : Nat → Ad) : Prop where
  g : Good T ms env σ H F fp
  no : env[c]? = some none
  ls : ∃ v, σ[c]? = some (some v) ∧ (Rep T F dc v ∨ ∃ l vs xs, env[o]? = some (some (.lst xs)) ∧ σ[o]? = some (some (.ref l)) ∧ H l = some (.lst vs) ∧ vs.getLast? = some v ∧ xs.getLast? = some dc)
theorem LK.ext {c o : Nat} {dc : D} (h : LK T ms c o env dc σ H F fp) (e : Ext0 H F H' F') : LK T ms c o env dc σ H' F' fp := by
  obtain ⟨v, h1, h2⟩ := h.ls
  refine ⟨h.g.ext e, h.no, v, h1, ?_⟩
  rcases h2 with r | ⟨l, vs, xs, a, b, q, w⟩
  · exact .inl (r.mono e.grow)
  · exact .inr ⟨l, vs, xs, a, b, e.keep _ _ q, w⟩
theorem RepL.last {ds : List D} {vs : List V} {d : D} {v : V} (r : RepL T F ds vs) (h1 : ds.getLast? = some d) (h2 : vs.getLast? = some v) : Rep T F d v := by
  rw [List.getLast?_eq_getElem?] at h1 h2
  obtain ⟨u, hu, q⟩ := r.get h1
  rw [r.length] at h2
  rw [h2] at hu
  cases hu
  exact q
/-- what the next turn reads -/
theorem LK.lent {c o : Nat} {dc : D} (h : LK T ms c o env dc σ H F fp) (hm1 : ms1.getD o .sh = .sh) (hmo : ms.getD o .sh = .own (.own .sh)) (hmc : ms.getD c .sh = .sh) (h2 : ∀ i, i ≠ o → ms1.getD i .sh = ms.getD i .sh) (hco : c ≠ o) :
    Good T ms1 (env.set c (some dc)) σ H (frz F H (fp o)) (fun i a => i ≠ c ∧ (i ≠ o ∧ fp i a)) := by
  have b := h.g.lend (ms1 := ms1) (j := o) (by rw [hmo]; rfl) hm1 h2
  obtain ⟨v, hv, h3⟩ := h.ls
  have r : Rep T (frz F H (fp o)) dc v := by
    rcases h3 with r | ⟨l, vs, xs, e1, e2, q, w1, w2⟩
    · exact r.mono (frz_same fun a ha => (h.g.off o a ha).1)
    · obtain ⟨v0, hv0, ow⟩ := h.g.slot o _ e1
      rw [e2] at hv0
      cases hv0
      have fr := ow.freeze h.g.sub (by rw [hmo]; rfl) fun a ha => (h.g.off o a ha).1
      unfold Rep at fr
      obtain ⟨a, us, ea, hf, rl⟩ := fr
      cases ea
      have : H l = some (.lst us) := b.sub l _ hf
      rw [q] at this
      cases this
      exact rl.last w2 w1
  have g := good_put (i := c) b (by rw [h2 c hco]; exact hmc) r
  have es : σ.set c (some v) = σ := by
    apply List.ext_getElem?
    intro i
    by_cases hi : i = c
    · subst hi
      have hl : i < σ.length := (List.getElem?_eq_some_iff.mp hv).1
      rw [List.getElem?_set_self hl, hv]
    · rw [List.getElem?_set_ne (Ne.symm hi)]
  rw [es] at g
  exact g
theorem Good.forgetC {c : Nat} {m : Mode} (g : Good T (ms.set c m) env σ H F fp) : Good T ms (env.set c none) σ H F (fun i a => i ≠ c ∧ fp i a) := by
  refine ⟨by rw [List.length_set]; exact g.len, g.sub, fun i d e => ?_, fun i j a hne h1 h2 => g.dis i j a hne h1.2 h2.2, fun i a h => g.off i a h.2⟩
  by_cases hi : i = c
  · subst hi
    by_cases hl : i < env.length
    · rw [List.getElem?_set_self hl] at e; cases e
    · rw [List.getElem?_eq_none (by rw [List.length_set]; omega)] at e; cases e
  · rw [List.getElem?_set_ne (Ne.symm hi)] at e
    obtain ⟨v, h1, h2⟩ := g.slot i d e
    refine ⟨v, h1, ?_⟩
    have e1 : (fun a => i ≠ c ∧ fp i a) = fp i := by funext a; simp [hi]
    have e2 : (ms.set c m).getD i .sh = ms.getD i .sh := by
      simp only [List.getD_eq_getElem?_getD]
      rw [List.getElem?_set_ne (Ne.symm hi)]
    rw [e1]
    rw [e2] at h2
    exact h2
theorem Good.unset {c : Nat} (g : Good T ms env σ H F fp) : Good T ms (env.set c none) σ H F fp := by
  refine ⟨by rw [List.length_set]; exact g.len, g.sub, fun i d e => ?_, g.dis, g.off⟩
  by_cases hi : i = c
  · subst hi
    by_cases hl : i < env.length
    · rw [List.getElem?_set_self hl] at e; cases e
    · rw [List.getElem?_eq_none (by rw [List.length_set]; omega)] at e; cases e
  · rw [List.getElem?_set_ne (Ne.symm hi)] at e
    exact g.slot i d e
end
section
variable {X : Cx} {J : Jd} {ms ms1 : List Mode} {e tg iter : Expr} {x y : Str} {p p2 p3 pos pos1 pos2 apos cpos : Pos} {g : G} {gi : GI} {tgl : TG} {c o t : Nat}
def tPourA (J : Jd) (ms : List Mode) (c o : Nat) (g : G) : TS := fun E σ H => ∃ F env fp dc, LK J.T ms c o env dc σ H F fp ∧ Keep J σ F ∧ ∃ env' dn xs, g (env.set c (some dc)) = .ok env' dn ∧ env[o]? = some (some (.lst xs)) ∧
  listsM (ms.getD o .sh) (.lst xs) = true ∧ flatM (.own .sh) dn = true ∧ restFlat ms o 0 env' = true ∧ (env.length = env'.length → NextOut J (ms.set c (.own .sh)) H F fp E.nx ((mergeE ms o 0 env env').set c (some dn)))
theorem ps_pourA (he : SP' X J.T J.W ms1 (.own .sh) e g) (hN : X.N.Nodup) (hi : X.N[c]? = some x) (hx : Loc X.env.scope x) (hm1 : ms1.getD o .sh = .sh) (hmo : ms.getD o .sh = .own (.own .sh)) (hmc : ms.getD c .sh = .sh) (h2 : ∀ i, i ≠ o → ms1.getD i .sh = ms.getD i .sh) (hco : c ≠ o)
    (hp : J.pm.getD c .sh = .sh) (hl : c < ms.length) (hs : swapsWith e (some (.Name x p)) pos.line X.env = pure false)
    (hf : X.fn x = true ∨ X.env.scope.names.lookup x = some .local) : PS X (.Assign [.Name x p] e pos) (tPourA J ms c o g) :=
  PS.imp (ps_set hN hi hx he hs hf) fun E σ H ⟨F, env, fp, dc, lk, kp, env', dn, xs, eg, eo, c1, c2, c3, nx⟩ => by
    refine ⟨_, env.set c (some dc), _, lk.lent hm1 hmo hmc h2 hco, ?_⟩
    rw [eg]
    intro H' F' fp' v fv s g' ow off dis
    obtain ⟨s2, g2, ow2, off2, dis2⟩ := unlend lk.g h2 eo c1 c2 c3 (s.more fun b ⟨i, z⟩ => ⟨i, z.2⟩) g' ow off dis
    exact nx (lk.g.len.trans g'.len.symm) (σ.set c (some v)) H' _ _ (s2.less fun b hb => all_set hb) (g2.set hl ow2 off2 dis2) ((kp.mono s2.grow).set hp)
def tPourB (J : Jd) (ms : List Mode) (c o : Nat) : TS := fun E σ H => ∃ F env fp xs dn, Good J.T (ms.set c (.own .sh)) env σ H F fp ∧ Keep J σ F ∧ env[o]? = some (some (.lst xs)) ∧ env[c]? = some (some dn) ∧ xs.length < bigN ∧
  ∀ σ' H' F' fp', Step H F (All fp) H' F' (All fp') → LK J.T ms c o ((env.set c none).set o (some (.lst (xs ++ [dn])))) dn σ' H' F' fp' → Keep J σ' F' → E.nx σ' H'
theorem ps_pourB (hmo : ms.getD o .sh = .own (.own .sh)) (hco : c ≠ o) (hl : c < ms.length) (hNo : X.N[o]? = some y) (hvo : Vis X.env.scope y) (hNc : X.N[c]? = some x) (hvc : Vis X.env.scope x)
    (hd : (y == ("__debug__" : Str)) = false) (hcd : (y == ("__classdict__" : Str)) = false) (hdc : (x == ("__debug__" : Str)) = false) (hcdc : (x == ("__classdict__" : Str)) = false)
    (hs : swapsWith (.Call (.Attribute (.Name y p) "append" apos) [.Name x p3] [] cpos) none pos.line X.env = pure false)
    (hbase : attributeBase (.Name y p) "append" X.env (eval (.Name y p) X.env) = eval (.Name y p) X.env)
    (hfew : ((backTo cpos (starEach [.Name x p3] X.env)).all (fun x => !x.1) && (backToKw cpos (keywordEach [] X.env)).all (fun x => x.1.isSome)
      && decide (([.Name x p3] : List Expr).length + ([] : List Keyword).length + (if ([] : List Keyword).isEmpty then 0 else 1) < 30)) = true)
    (hline : (apos.endLine == cpos.line) = true) (hst : starEach [.Name x p3] X.env = (false, eval (.Name x p3) X.env) :: starEach [] X.env) (hplain : (backTo cpos (starEach [] X.env)).any (·.1) = false) :
    PS X (.Expr (.Call (.Attribute (.Name y p) "append" apos) [.Name x p3] [] cpos) pos) (tPourB J ms c o) :=
  PS.imp (ps_expr (pe_bm PySem.F.plainAttrs_list PySem.F.slot_list_append PySem.F.type_list_append mt_append (pe_var hNo hvo hd hcd) (pa_cons (pe_var hNc hvc hdc hcdc) pa_nil hst) hbase hfew hline hst hplain) hs) fun E σ H ⟨F, env, fp, xs, dn, gd, kp, eo, ec, hlen, nx⟩ => by
    have mo : (ms.set c (.own .sh)).getD o .sh = .own (.own .sh) := by
      rw [← hmo]
      simp only [List.getD_eq_getElem?_getD]
      rw [List.getElem?_set_ne hco]
    have mc : (ms.set c (.own .sh)).getD c .sh = .own .sh := by
      simp only [List.getD_eq_getElem?_getD]
      rw [List.getElem?_set_self hl]
      rfl
    obtain ⟨v0, hv0, ow0⟩ := gd.slot o _ eo
    obtain ⟨vc, hvc0, owc⟩ := gd.slot c _ ec
    rw [mo] at ow0
    rw [mc] at owc
    unfold Own at ow0
    obtain ⟨l, vs, R, ev, hl0, nR, hfp, ol⟩ := ow0
    subst ev
    have il : fp o l := (hfp l).mpr (.inl rfl)
    have hle := ownL_length ol
    have nv : ¬ fp c l := fun z => gd.dis o c l (Ne.symm hco) il z
    refine ⟨_, hv0, .inl ⟨rfl, vs, SqL.of hl0⟩, vc, hvc0, l, vs, vc, rfl, rfl, hl0, by rw [hle]; exact big_line' hlen, ?_⟩
    have gf := gd.forgetC
    have gm := gf.mut (H' := upd H l (.lst (vs ++ [vc]))) (d' := .lst (xs ++ [dn])) (f' := fun a => fp o a ∨ fp c a) (fv := fp c) hv0 (by
      rw [hmo]
      unfold Own
      refine ⟨l, vs ++ [vc], fun a => R a ∨ fp c a, rfl, upd_same, fun z => z.elim nR nv, fun b => by show fp o b ∨ fp c b ↔ b = l ∨ (R b ∨ fp c b); rw [hfp b, or_assoc], ?_⟩
      refine OwnL.snoc (ol.imp fun d v f hs p => p.mono (Same.refl _) fun a ha => upd_ne fun (z : a = l) => nR (by rw [← z]; exact hs a ha)) (owc.mono (Same.refl _) fun a ha => upd_ne fun (z : a = l) => nv (by rw [← z]; exact ha)) fun a h1 h2 => gd.dis o c a (Ne.symm hco) ((hfp a).mpr (.inr h1)) h2) (fun a h => h.imp (fun z => ⟨Ne.symm hco, z⟩) id) (fun i a h1 h2 => gd.dis i c a h1.1 h1.2 h2) (fun a h => by
      have := h.elim (gd.off o a) (gd.off c a)
      refine ⟨this.1, ?_⟩
      by_cases z : a = l
      · subst z; rw [upd_same]; exact fun z => nomatch z
      · rw [upd_ne z]; exact this.2) (fun b _ n => upd_ne fun e => n (by rw [e]; exact ⟨Ne.symm hco, il⟩))
    have st := step_mut (H := H) (F := F) (fp := fun i a => i ≠ c ∧ fp i a) (i := o) (fv := fp c) (f' := fun a => fp o a ∨ fp c a) (H' := upd H l (.lst (vs ++ [vc]))) (fun b _ n => upd_ne fun e => n (by rw [e]; exact ⟨Ne.symm hco, il⟩)) fun a h => h.imp (fun z => ⟨Ne.symm hco, z⟩) id
    have lo : o < env.length := (List.getElem?_eq_some_iff.mp eo).1
    have lc : c < env.length := (List.getElem?_eq_some_iff.mp ec).1
    refine nx σ _ F _ (st.more fun b z => z.elim (fun ⟨i, w⟩ => ⟨i, w.2⟩) fun w => ⟨c, w⟩) ⟨gm, ?_, vc, hvc0, .inr ⟨l, vs ++ [vc], xs ++ [dn], ?_, hv0, upd_same, by simp, by simp⟩⟩ kp
    · rw [List.getElem?_set_ne (Ne.symm hco), List.getElem?_set_self lc]
    · rw [List.getElem?_set_self (by rw [List.length_set]; exact lo)]
def pourG (ms : List Mode) (c o t : Nat) (g : G) : List D → Env → D → SRes
  | [], env, _ => .next env
  | d :: ds, env, dc => match g ((env.set t (some d)).set c (some dc)) with
    | .ok env' dn => match (env.set t (some d))[o]? with
      | some (some (.lst xs)) => if listsM (ms.getD o .sh) (.lst xs) && (flatM (.own .sh) dn && (restFlat ms o 0 env' && decide (xs.length < bigN))) then pourG ms c o t g ds (((mergeE ms o 0 (env.set t (some d)) env').set c none).set o (some (.lst (xs ++ [dn])))) dn else .stuck
      | _ => .stuck
    | _ => .stuck
def gPour (ms : List Mode) (c o t : Nat) (gi : GI) (g : G) : GS := fun env => (gi env).to fun env1 ds => match env1[c]? with
  | some (some dc) => pourG ms c o t g ds (env1.set c none) dc
  | _ => .stuck
theorem ss_pour (c o t : Nat) (hp : PassesOwn (model X.prog X.w) X.A X.env X.xe) (hc : X.calm = true) (hi : SI X J.T J.W ms tg iter gi) (hg : PG X tg tgl) (ht : TgOk J.T ms (.nm t) tgl)
    (hA : PS X (.Assign [.Name x p] e pos1) (tPourA J ms c o g)) {st2 : Stmt} (hB : PS X st2 (tPourB J ms c o)) (hem : J.em ms) (hpt : J.pm.getD t .sh = .sh) (hmc : ms.getD c .sh = .sh) (hco : c ≠ o) (hct : c ≠ t) (hot : o ≠ t) (hs : ∀ x, foldedSetIterable iter X.env x = pure x := by intro _; rfl) :
    SS X J ms (.For tg iter [.Assign [.Name x p] e pos1, st2] [] pos) ms (gPour ms c o t gi g) :=
  PS.imp (ps_for hp hc hi hg (pss_cons hA (pss_one hB)) hs) fun E σ H ⟨F, env, fp, gd, kp, o0⟩ => ⟨F, env, fp, gd, SOut.expI hem kp o0 fun env1 ds H1 F1 fp1 It g1 k1 itd o1 => by
    split at o1
    · rename_i dc hdc
      obtain ⟨vc, hvc, owc⟩ := g1.slot c _ hdc
      rw [hmc] at owc
      have lc : c < env1.length := (List.getElem?_eq_some_iff.mp hdc).1
      refine ⟨fun i m σ H => m = ds.length - i ∧ i ≤ ds.length ∧ ∃ F env fp dc, LK J.T ms c o env dc σ H F fp ∧ Keep J σ F ∧ Same F1 F ∧ SOut J ms E H F fp (pourG ms c o t g (ds.drop i) env dc), ⟨_, rfl, Nat.zero_le _, F1, env1.set c none, fp1, dc, ⟨g1.unset, by rw [List.getElem?_set_self lc], vc, hvc, .inl owc.2⟩, k1, Same.refl _, o1⟩, ?_⟩
      rintro i m σ H ⟨rfl, hi, F, env, fp, dc, lk, kp, sm, o2⟩
      by_cases hlt : i < ds.length
      · refine .inr ⟨itd.go i H F sm lk.g.sub hlt, fun σ' H' => ∃ F' env' fp' dc', LK J.T ms c o env' dc' σ' H' F' fp' ∧ Keep J σ' F' ∧ Same F1 F' ∧ SOut J ms E H' F' fp' (pourG ms c o t g (ds.drop (i + 1)) env' dc'), fun σ' H' ⟨F', env', fp', dc', a, b, c, d⟩ => ⟨ds.length - (i + 1), by omega, rfl, hlt, F', env', fp', dc', a, b, c, d⟩, fun xv H' yv => ?_⟩
        obtain ⟨d, F2, hd, ex, rd⟩ := itd.yld i H F xv H' hlt sm lk.g.sub yv
        have l2 := lk.ext ex
        have k2 := kp.mono ex.grow
        have o3 := SOut.step o2 (ex.step lk.g)
        have hdr : ds.drop i = d :: ds.drop (i + 1) := by
          rw [List.drop_eq_getElem_cons hlt]
          rw [List.getElem?_eq_getElem hlt] at hd; cases hd; rfl
        rw [hdr] at o3
        unfold pourG at o3
        refine ht.run d xv σ H' F2 env (env.set t (some d)) fp _ l2.g rd rfl fun σ' fp' g3 hfp hs => ?_
        have k3 : Keep J σ' F2 := ⟨fun j hj => by rw [hs j fun z => hj (by rw [List.mem_singleton.mp z]; exact hpt)]; exact k2.own j hj, k2.sh⟩
        have o4 := SOut.step o3 (Step.refl.less hfp)
        have sm2 : Same F1 F2 := sm.trans ex.grow
        have hsc : σ'[c]? = σ[c]? := hs c fun z => hct (List.mem_singleton.mp z)
        have hso : σ'[o]? = σ[o]? := hs o fun z => hot (List.mem_singleton.mp z)
        have l3 : LK J.T ms c o (env.set t (some d)) dc σ' H' F2 fp' := by
          obtain ⟨v, h1, h2⟩ := l2.ls
          refine ⟨g3, by rw [List.getElem?_set_ne (Ne.symm hct)]; exact l2.no, v, by rw [hsc]; exact h1, h2.imp id fun ⟨l, vs, xs, a, b, q⟩ => ⟨l, vs, xs, by rw [List.getElem?_set_ne (Ne.symm hot)]; exact a, by rw [hso]; exact b, q⟩⟩
        split at o4
        · rename_i env' dn eg
          split at o4
          · rename_i xs eo
            split at o4
            · rename_i hck
              obtain ⟨c1, hck⟩ := Bool.and_eq_true_iff.mp hck
              obtain ⟨c2, hck⟩ := Bool.and_eq_true_iff.mp hck
              obtain ⟨c3, hck⟩ := Bool.and_eq_true_iff.mp hck
              have hlen : xs.length < bigN := of_decide_eq_true hck
              refine ⟨F2, env.set t (some d), fp', dc, l3, k3, env', dn, xs, eg, eo, c1, c2, c3, fun len σ4 H4 F4 fp4 s4 g4 k4 => ?_⟩
              have hmo4 : ((mergeE ms o 0 (env.set t (some d)) env').set c (some dn))[o]? = some (some (.lst xs)) := by
                rw [List.getElem?_set_ne hco, mergeE_get len, Nat.zero_add, if_pos (.inl rfl)]
                exact eo
              have hmc4 : ((mergeE ms o 0 (env.set t (some d)) env').set c (some dn))[c]? = some (some dn) := by
                rw [List.getElem?_set_self (by rw [mergeE_len len]; exact (List.getElem?_eq_some_iff.mp l3.no).1)]
              refine ⟨F4, _, fp4, xs, dn, g4, k4, hmo4, hmc4, hlen, fun σ5 H5 F5 fp5 s5 l5 k5 => ⟨F5, _, fp5, dn, l5, k5, sm2.trans (s4.grow.trans s5.grow), ?_⟩⟩
              have := SOut.step (SOut.step o4 s4) s5
              rw [List.set_set]
              exact this
            · exact o4.elim
          · exact o4.elim
        · exact o4.elim
      · have e : i = ds.length := by omega
        subst e
        rw [List.drop_length] at o2
        exact .inl ⟨itd.stop _ H F sm lk.g.sub (Nat.le_refl _), o2 σ H F fp Step.refl lk.g kp⟩
    · exact o1.elim⟩
end
section
variable {X : Cx} {J : Jd} {ms ms1 : List Mode} {e tg iter : Expr} {x y : Str} {p p2 p3 pos pos1 pos2 apos cpos : Pos} {g : G} {gi : GI} {tgl : TG}
theorem ss_pourX (c o t : Nat) (hp : PassesOwn (model X.prog X.w) X.A X.env X.xe) (hc : X.calm = true) (hN : X.N.Nodup) (hi : SI X J.T J.W ms tg iter gi) (hg : PG X tg tgl) (ht : TgOk J.T ms (.nm t) tgl) (he : SP' X J.T J.W ms1 (.own .sh) e g)
    (h2 : ∀ i, i ≠ o → ms1.getD i .sh = ms.getD i .sh) (hem : J.em ms) (hm1 : ms1.getD o .sh = .sh := by rfl) (hmo : ms.getD o .sh = .own (.own .sh) := by rfl) (hmc : ms.getD c .sh = .sh := by rfl) (hco : c ≠ o := by decide) (hct : c ≠ t := by decide) (hot : o ≠ t := by decide) (hl : c < ms.length := by decide)
    (hpc : J.pm.getD c .sh = .sh := by rfl) (hpt : J.pm.getD t .sh = .sh := by rfl) (hNc : X.N[c]? = some x := by rfl) (hNo : X.N[o]? = some y := by rfl) (hx : Loc X.env.scope x := by exact Or.inl rfl) (hvo : Vis X.env.scope y := by exact Or.inl rfl) (hvc : Vis X.env.scope x := by exact Or.inl rfl)
    (hsA : swapsWith e (some (.Name x p)) pos1.line X.env = pure false := by rfl) (hf : X.fn x = true ∨ X.env.scope.names.lookup x = some .local := by first | exact .inl rfl | exact .inr rfl)
    (hd : (y == ("__debug__" : Str)) = false := by decide) (hcd : (y == ("__classdict__" : Str)) = false := by decide) (hdc : (x == ("__debug__" : Str)) = false := by decide) (hcdc : (x == ("__classdict__" : Str)) = false := by decide)
    (hsB : swapsWith (.Call (.Attribute (.Name y p2) "append" apos) [.Name x p3] [] cpos) none pos2.line X.env = pure false := by rfl)
    (hbase : attributeBase (.Name y p2) "append" X.env (eval (.Name y p2) X.env) = eval (.Name y p2) X.env := by rfl)
    (hfew : ((backTo cpos (starEach [.Name x p3] X.env)).all (fun x => !x.1) && (backToKw cpos (keywordEach [] X.env)).all (fun x => x.1.isSome)
      && decide (([.Name x p3] : List Expr).length + ([] : List Keyword).length + (if ([] : List Keyword).isEmpty then 0 else 1) < 30)) = true := by rfl)
    (hline : (apos.endLine == cpos.line) = true := by rfl) (hst : starEach [.Name x p3] X.env = (false, eval (.Name x p3) X.env) :: starEach [] X.env := by rfl) (hplain : (backTo cpos (starEach [] X.env)).any (·.1) = false := by rfl) (hs : ∀ x, foldedSetIterable iter X.env x = pure x := by intro _; rfl) :
    SS X J ms (.For tg iter [.Assign [.Name x p] e pos1, .Expr (.Call (.Attribute (.Name y p2) "append" apos) [.Name x p3] [] cpos) pos2] [] pos) ms (gPour ms c o t gi g) :=
  ss_pour c o t hp hc hi hg ht (ps_pourA he hN hNc hx hm1 hmo hmc h2 hco hpc hl hsA hf) (ps_pourB hmo hco hl hNo hvo hNc hvc hd hcd hdc hcdc hsB hbase hfew hline hst hplain) hem hpt hmc hco hct hot hs
end
/-! ### what is one's own for the moment, and an item of it -/
def gIxT (ga gb : G) : G := fun env => (ga env).bind fun env1 d => match d with
  | .lst ds => (gb env1).bind fun env2 di => match di with
    | .int z => match ixN ds.length z with
      | some n => match ds[n]? with
        | some d' => .ok env2 d'
        | none => .stuck
      | none => .stuck
    | _ => .stuck
  | _ => .stuck
section
variable {X : Cx} {T : Tb} {ms : List Mode} {W : WX} {a b : Expr} {ga gb : G} {m : Mode} {pos : Pos}
theorem sp_ixT (ha : SP' X T W ms (.own m) a ga) (hb : SE X T W ms b gb) (hs : PlainIx b := by exact fun _ _ => rfl) : SP' X T W ms m (.Subscript a b pos) (gIxT ga gb) :=
  PE.imp (pe_ix ix_list ha hb hs) fun σ H Q ⟨F, env, fp, gd, o⟩ => ⟨F, env, fp, gd, by
    unfold gIxT at o
    cases q : ga env with
    | err env' x => rw [q] at o; exact o
    | stuck => rw [q] at o; exact o.elim
    | ok env1 d =>
      rw [q] at o
      simp only [Res.bind_ok] at o
      intro H1 F1 fp1 v fv s1 g1 ow off dis
      cases d with
      | lst ds =>
        simp only at o
        unfold Own at ow
        obtain ⟨l, vs, R, ev, hl, nR, hfp, ol⟩ := ow
        subst ev
        refine ⟨F1, env1, fp1, g1, ?_⟩
        cases qb : gb env1 with
        | err env2 x =>
          rw [qb] at o
          exact fun H' F' fp' cv dd s g e => o H' F' fp' cv dd (s1.trans (s.more fun _ z => .inl z)) g e
        | stuck => rw [qb] at o; exact o.elim
        | ok env2 di =>
          rw [qb] at o
          simp only [Res.bind_ok] at o
          intro H2 F2 fp2 u s2 g2 r2
          split at o
          · rename_i z
            split at o
            · rename_i n hn
              split at o
              · rename_i d' hd'
                obtain ⟨w, f1, f2, hw, pw, hR, hdis, _⟩ := ol.nth hd'
                have hlen : vs.length = ds.length := ownL_length ol
                have kp : ∀ x, fv x → H2 x = H1 x := fun x hx => by
                  have nn := (off x hx).2
                  cases hq : H1 x with
                  | none => exact absurd hq nn
                  | some ob => exact s2.keep x ob hq fun ⟨i, z⟩ => dis i x z hx
                have sub1 : ∀ x, f1 x → fv x := fun x hx => (hfp x).mpr (.inr ((hR x).mpr (.inl hx)))
                have hl2 : H2 l = some (.lst vs) := by rw [kp l ((hfp l).mpr (.inl rfl))]; exact hl
                unfold Rep at r2
                have st := s1.trans (s2.more fun _ z => .inl z)
                refine ⟨l, vs, z, w, rfl, r2, SqL.of hl2, ixN_at (by rw [hlen]; exact hn) hw, ?_⟩
                refine o H2 F2 fp2 w f1 ⟨st.keep, st.grow, st.new, fun x hx => hx.elim (st.fpn x) fun hx => s1.fpn x (.inr (sub1 x hx))⟩ g2 (pw.mono s2.grow fun x hx => kp x (sub1 x hx)) (fun x hx => ?_) fun i x hx hf => ?_
                · have k := kp x (sub1 x hx)
                  have k2 := off x (sub1 x hx)
                  refine ⟨?_, by rw [k]; exact k2.2⟩
                  cases hq : F2 x with
                  | none => rfl
                  | some ob =>
                    rcases s2.new x (by rw [hq]; exact fun z => nomatch z) with z | z | ⟨i, z⟩
                    · exact absurd k2.1 z
                    · exact absurd z k2.2
                    · exact (dis i x z (sub1 x hx)).elim
                · rcases s2.fpn x ⟨i, hx⟩ with ⟨i', z⟩ | z
                  · exact dis i' x z (sub1 x hf)
                  · exact (off x (sub1 x hf)).2 z
              · exact o.elim
            · exact o.elim
          · exact o.elim
      | _ => exact o.elim⟩
end
/-! ### a walk over things among which are own ones, lent for the walk: for t in ..: if c: return .. -/
def walkB (ms : List Mode) (j t : Nat) (env0 : Env) (d0 : D) (gt : GT) (gr : GS) : List D → Env → SRes
  | [], env => if listsM (ms.getD j .sh) d0 && restFlat ms j 0 env then .next (mergeE ms j 0 (env0.set t none) env) else .stuck
  | d :: ds, env => match gt (env.set t (some d)) with
    | .ok env' false => walkB ms j t env0 d0 gt gr ds env'
    | .ok env' true => match gr env' with
      | .ret e x => .ret e x
      | _ => .stuck
    | _ => .stuck
def gWalkB (ms : List Mode) (j t : Nat) (gi : GI) (gt : GT) (gr : GS) : GS := fun env => match env[j]? with
  | some (some d0) => match gi env with
    | .ok env1 ds => walkB ms j t env d0 gt gr ds env1
    | _ => .stuck
  | _ => .stuck
section
variable {X : Cx} {J : Jd} {ms ms1 ms' : List Mode} {c tg iter : Expr} {x : List Stmt} {pos pos1 : Pos} {gi : GI} {gt : GT} {gr : GS} {tgl : TG} {j t : Nat}
theorem ss_walkB (j t : Nat) (hp : PassesOwn (model X.prog X.w) X.A X.env X.xe) (hc : X.calm = true) (hi : SI X J.T J.W ms1 tg iter gi) (hg : PG X tg tgl) (ht : TgOk J.T ms1 (.nm t) tgl) (hb : ST X J.T J.W ms1 c gt) (ha : SB X J ms1 x ms' gr)
    (hj : (ms.getD j .sh).ok = true) (hm1 : ms1.getD j .sh = .sh) (h2 : ∀ i, i ≠ j → ms1.getD i .sh = ms.getD i .sh) (hmt : ms.getD t .sh = .sh) (htj : t ≠ j) (hpt : J.pm.getD t .sh = .sh) (hs : ∀ x, foldedSetIterable iter X.env x = pure x := by intro _; rfl) :
    SS X J ms (.For tg iter [.If c x [] pos1] [] pos) ms (gWalkB ms j t gi gt gr) :=
  PS.imp (ps_for hp hc hi hg (pss_one (ps_if hb ha pss_nil)) hs) fun E σ0 H0 ⟨F0, env0, fp0, gd0, kp0, o⟩ => by
    unfold gWalkB at o
    split at o
    · rename_i d0 hd0
      have gL := gd0.lend (ms1 := ms1) hj hm1 h2
      have hfs : Same F0 (frz F0 H0 (fp0 j)) := frz_same fun a ha => (gd0.off j a ha).1
      have stL : Step H0 F0 (All fp0) H0 (frz F0 H0 (fp0 j)) (All fun i a => i ≠ j ∧ fp0 i a) := ⟨fun b o h _ => h, hfs, fun b hb => by
        by_cases hp : fp0 j b
        · exact .inr (.inr ⟨j, hp⟩)
        · rw [frz_out hp] at hb; exact .inl hb, fun b ⟨i, z⟩ => .inl ⟨i, z.2⟩⟩
      refine ⟨_, env0, _, gL, ?_⟩
      split at o
      · rename_i env1 ds hgi
        rw [hgi]
        intro H1 F1 fp1 It s1 g1 itd
        refine ⟨fun i m σ H => m = ds.length - i ∧ i ≤ ds.length ∧ ∃ F env fp, Good J.T ms1 env σ H F fp ∧ Keep J σ F ∧ Step H0 (frz F0 H0 (fp0 j)) (All fun i a => i ≠ j ∧ fp0 i a) H F (All fp) ∧ Same F1 F ∧ σ.length = σ0.length ∧ (∀ i, i ≠ t → σ[i]? = σ0[i]?) ∧ SOut J ms E H0 F0 fp0 (walkB ms j t env0 d0 gt gr (ds.drop i) env),
          ⟨_, rfl, Nat.zero_le _, F1, env1, fp1, g1, kp0.mono (hfs.trans s1.grow), s1, Same.refl _, rfl, fun _ _ => rfl, o⟩, ?_⟩
        rintro i m σ H ⟨rfl, hi, F, env, fp, gd, kp, st, sm, sl, se, o2⟩
        by_cases hlt : i < ds.length
        · refine .inr ⟨itd.go i H F sm gd.sub hlt, fun σ' H' => ∃ F' env' fp', Good J.T ms1 env' σ' H' F' fp' ∧ Keep J σ' F' ∧ Step H0 (frz F0 H0 (fp0 j)) (All fun i a => i ≠ j ∧ fp0 i a) H' F' (All fp') ∧ Same F1 F' ∧ σ'.length = σ0.length ∧ (∀ i, i ≠ t → σ'[i]? = σ0[i]?) ∧ SOut J ms E H0 F0 fp0 (walkB ms j t env0 d0 gt gr (ds.drop (i + 1)) env'),
            fun σ' H' ⟨F', env', fp', a, b, c, d, e, f, g⟩ => ⟨ds.length - (i + 1), by omega, rfl, hlt, F', env', fp', a, b, c, d, e, f, g⟩, fun xv H' yv => ?_⟩
          obtain ⟨d, F2, hd, ex, rd⟩ := itd.yld i H F xv H' hlt sm gd.sub yv
          have g2 := gd.ext ex
          have k2 := kp.mono ex.grow
          have st2 := st.trans (ex.step gd)
          have hdr : ds.drop i = d :: ds.drop (i + 1) := by
            rw [List.drop_eq_getElem_cons hlt]
            rw [List.getElem?_eq_getElem hlt] at hd; cases hd; rfl
          rw [hdr] at o2
          unfold walkB at o2
          refine ht.run d xv σ H' F2 env (env.set t (some d)) fp _ g2 rd rfl fun σ' fp' g3 hfp hs => ?_
          have k3 : Keep J σ' F2 := ⟨fun j hj => by rw [hs j fun z => hj (by rw [List.mem_singleton.mp z]; exact hpt)]; exact k2.own j hj, k2.sh⟩
          have st3 := st2.trans (Step.refl.less hfp)
          have sm2 : Same F1 F2 := sm.trans ex.grow
          have sl3 : σ'.length = σ0.length := by rw [← g3.len, List.length_set, g2.len, sl]
          have se3 : ∀ i, i ≠ t → σ'[i]? = σ0[i]? := fun i hi => (hs i fun z => hi (List.mem_singleton.mp z)).trans (se i hi)
          refine ⟨F2, env.set t (some d), fp', g3, ?_⟩
          split at o2
          · rename_i env' he
            rw [he]
            exact fun H4 F4 fp4 s4 g4 => iteF ⟨F4, env', fp4, g4, k3.mono s4.grow, st3.trans s4, sm2.trans s4.grow, sl3, se3, o2⟩
          · rename_i env' he
            rw [he]
            intro H4 F4 fp4 s4 g4
            refine iteT ⟨F4, env', fp4, g4, k3.mono s4.grow, ?_⟩
            split at o2
            · rename_i e1 x1 hr
              rw [hr]
              exact fun H5 F5 fp5 v5 fv5 s5 g5 ow5 off5 dis5 => o2 H5 F5 fp5 v5 fv5 ((stL.trans (st3.trans s4)).trans s5) g5 ow5 off5 dis5
            · exact o2.elim
          · exact o2.elim
        · have e : i = ds.length := by omega
          subst e
          rw [List.drop_length] at o2
          unfold walkB at o2
          refine .inl ⟨itd.stop _ H F sm gd.sub (Nat.le_refl _), ?_⟩
          split at o2
          · rename_i hck
            obtain ⟨c1, c3⟩ := Bool.and_eq_true_iff.mp hck
            have gd0' : Good J.T ms (env0.set t none) σ H0 F0 fp0 := by
              refine ⟨by rw [List.length_set, gd0.len, sl], gd0.sub, fun i d e => ?_, gd0.dis, gd0.off⟩
              by_cases hit : i = t
              · subst hit
                by_cases hl : i < env0.length
                · rw [List.getElem?_set_self hl] at e; cases e
                · rw [List.getElem?_eq_none (by rw [List.length_set]; omega)] at e; cases e
              · rw [List.getElem?_set_ne (Ne.symm hit)] at e
                obtain ⟨v, h1, h2⟩ := gd0.slot i d e
                exact ⟨v, by rw [se i hit]; exact h1, h2⟩
            obtain ⟨s5, g5, _, _, _⟩ := unlend (k := .sh) (d := .non) (v := .non) (fv := fun _ => False) gd0' h2 (by rw [List.getElem?_set_ne htj]; exact hd0) c1 rfl c3 (st.less fun b z => z.elim id False.elim) gd ⟨fun _ z => z, by unfold Rep; rfl⟩ (fun _ z => z.elim) fun _ _ _ z => z
            have ks : Keep J σ (cutF F (fp0 j)) := ⟨kp.own, (kp0.mono s5.grow).sh⟩
            exact o2 σ H _ _ (s5.less fun b z => .inl z) g5 ks
          · exact o2.elim
      · exact o.elim
    · exact o.elim
end
/-! ### a, b = x, y with own things -/
section
variable {X : Cx} {J : Jd} {ms : List Mode} {a b : Expr} {ga gb : G} {x y : Str} {px py pt pos : Pos} {kt k2 pt2} {ka kb : Mode}
theorem ss_parP (i j : Nat) (hc : X.calm = true) (hN : X.N.Nodup) (ha : SP' X J.T J.W ms ka a ga) (hb : SP' X J.T J.W ms kb b gb) (hem : J.em ms) (hi : X.N[i]? = some x := by rfl) (hj : X.N[j]? = some y := by rfl) (hij : i ≠ j := by decide) (hli : i < ms.length := by decide) (hlj : j < ms.length := by decide) (hp : allSh J.pm [i, j] = true := by rfl)
    (hx : X.env.scope.names.lookup x = some .local := by rfl) (hy : X.env.scope.names.lookup y = some .local := by rfl) (hw : swappedStores [.Tuple [.Name x px, .Name y py] kt pt] (.Tuple [a, b] k2 pt2) X.env = pure (some [x, y]) := by with_unfolding_all rfl)
    (hs : swapsWithSole [.Tuple [.Name x px, .Name y py] kt pt] (.Tuple [a, b] k2 pt2) pos.line X.env = pure false := by rfl)
    (hst : starEach [a, b] X.env = (false, eval a X.env) :: starEach [b] X.env := by rfl) (hst2 : starEach [b] X.env = (false, eval b X.env) :: starEach [] X.env := by rfl) :
    SS X J ms (.Assign [.Tuple [.Name x px, .Name y py] kt pt] (.Tuple [a, b] k2 pt2) pos) ((ms.set i ka).set j kb) (gPar [i, j] (TL.gCons ga (TL.gCons gb TL.gNil))) :=
  PS.imp (ps_par hc hN hi hj hij hx hy (pa_cons ha (pa_cons hb pa_nil hst2) hst) hw hs) fun E σ H ⟨F, env, fp, gd, kp, o⟩ => ⟨F, env, fp, gd, by
    cases qa : ga env with
    | err env' x =>
      have q : gPar [i, j] (TL.gCons ga (TL.gCons gb TL.gNil)) env = .err env' x := by simp [gPar, TL.gCons, qa]
      rw [q] at o
      exact fun H' F' fp' cv dd s g e => o σ ms H' F' fp' cv dd hem s g (kp.mono s.grow) e
    | stuck =>
      have q : gPar [i, j] (TL.gCons ga (TL.gCons gb TL.gNil)) env = .stuck := by simp [gPar, TL.gCons, qa]
      rw [q] at o
      exact o.elim
    | ok env1 d =>
      intro H1 F1 fp1 v fv s1 g1 ow off dis
      refine ⟨F1, env1, fp1, g1, ?_⟩
      cases qb : gb env1 with
      | err env' x =>
        have q : gPar [i, j] (TL.gCons ga (TL.gCons gb TL.gNil)) env = .err env' x := by simp [gPar, TL.gCons, qa, qb]
        rw [q] at o
        exact fun H' F' fp' cv dd s g e => o σ ms H' F' fp' cv dd hem (s1.trans (s.more fun _ z => .inl z)) g ((kp.mono s1.grow).mono s.grow) e
      | stuck =>
        have q : gPar [i, j] (TL.gCons ga (TL.gCons gb TL.gNil)) env = .stuck := by simp [gPar, TL.gCons, qa, qb]
        rw [q] at o
        exact o.elim
      | ok env2 e =>
        have q : gPar [i, j] (TL.gCons ga (TL.gCons gb TL.gNil)) env = .next ((env2.set i (some d)).set j (some e)) := by simp [gPar, TL.gCons, TL.gNil, qa, qb, putE]
        rw [q] at o
        intro H2 F2 fp2 u fu s2 g2 ow2 off2 dis2
        have keep : ∀ x, fv x → H2 x = H1 x := fun x hx => by
          have nn := (off x hx).2
          cases hq : H1 x with
          | none => exact absurd hq nn
          | some ob => exact s2.keep x ob hq fun ⟨i, z⟩ => dis i x z hx
        have nf : ∀ x, (All fp2 x ∨ fu x) → fv x → False := fun x h hx => by
          rcases s2.fpn x h with ⟨i', z⟩ | z
          · exact dis i' x z hx
          · exact (off x hx).2 z
        have off3 : ∀ x, fv x → F2 x = none ∧ H2 x ≠ none := fun x hx => by
          have k2 := off x hx
          refine ⟨?_, by rw [keep x hx]; exact k2.2⟩
          cases hq : F2 x with
          | none => rfl
          | some ob =>
            rcases s2.new x (by rw [hq]; exact fun z => nomatch z) with z | z | ⟨i, z⟩
            · exact absurd k2.1 z
            · exact absurd z k2.2
            · exact (dis i x z hx).elim
        have ga1 := g2.set hli (ow.mono s2.grow keep) off3 (fun i x h hx => nf x (.inl ⟨i, h⟩) hx)
        have ga2 := ga1.set (by rw [List.length_set]; exact hlj) ow2 off2 (fun k x h hx => by
          replace h : if k = i then fv x else fp2 k x := h
          split at h
          · exact nf x (.inr hx) h
          · exact dis2 k x h hx)
        have st := s1.trans (s2.more fun _ z => .inl z)
        have pmi : J.pm.getD i .sh = .sh := allSh_of hp i (by simp)
        have pmj : J.pm.getD j .sh = .sh := allSh_of hp j (by simp)
        refine ⟨v, u, rfl, o _ H2 F2 _ ⟨st.keep, st.grow, st.new, fun x hx => ?_⟩ ga2 (((kp.mono st.grow).set pmi).set pmj)⟩
        rcases all_set hx with h | h
        · rcases all_set h with h | h
          · exact st.fpn x (.inl h)
          · exact s1.fpn x (.inr h)
        · exact st.fpn x (.inr h)⟩
end
/-! ### an empty list, at any mode -/
section
variable {X : Cx} {T : Tb} {ms : List Mode} {W : WX} {pos : Pos} {m : Mode}
theorem sp_lst0 : SP' X T W ms (.own m) (.List [] pos) (TL.gLst TL.gNil) :=
  PE.imp (sp_lst (ms := ms) (T := T) (W := W) sa_nil) fun σ H Q ⟨F, env, fp, g, o⟩ => ⟨F, env, fp, g, by
    have q : TL.gLst TL.gNil env = .ok env (.lst []) := rfl
    rw [q] at o ⊢
    intro H' F' fp' v fv s g' ow off dis
    refine o H' F' fp' v fv s g' ?_ off dis
    unfold Own at ow ⊢
    obtain ⟨a, vs, R, e, h1, h2, h3, ol⟩ := ow
    exact ⟨a, vs, R, e, h1, h2, h3, ol⟩⟩
end
/-! ### defs as values -/
theorem spP_of {T : Tb} {pm : List Mode} {n : Nat} {k : Mode} {g : G} {vs : List V} {H : Hp} {Q : VK} {E : XK} (hk : k.ok = true) (h : spS T pm n g vs H Q E) : spP T pm n k g vs H Q E :=
  let ⟨hn, F, env, fp, a, b⟩ := h
  ⟨hn, F, env, fp, a, OutP.of_out hk b⟩
theorem toS {P : Program} {w : World} {K : PySem.W.Frag} {mg : Str → Option Value} {base : Heap} {CX : CXT} {lv : Nat} {f : Addr} {fd : FuncData} {ps : List Str} {T : Tb} {pm : List Mode} {n : Nat} {k : Mode} {g : G} (h : FnOk P w K mg base CX lv f fd ps (spP T pm n k g)) (hk : k.ok = true) : FnOk P w K mg base CX lv f fd ps (spS T pm n g) :=
  h.imp fun vs H Q E z => spP_of hk z
theorem KwD.lift {X : Cx} {T : Tb} {lv lv' : Nat} {f : Addr} {n : Nat} {ks : List Str} {gD : List D → List D → List D} {sp : Sp} (h : KwD X T lv f n ks gD sp) (hl : lv ≤ lv') : KwD X T lv' f n ks gD sp := by
  obtain ⟨fd, ps, gp, gV, h1, h2, h3, h4⟩ := h.ex
  exact ⟨⟨fd, ps, gp, gV, h1, h2, h3.mono hl, h4⟩⟩
section
variable {X : Cx} {T : Tb} {ms : List Mode} {W : WX} {e func : Expr} {es : List Expr} {kws : List Keyword} {gf : G} {gs gks : GA} {pos p : Pos} {x : Str} {i lv : Nat}
theorem se_at (hm : X.mg x = some (.ref (T.at_ i))) (hg : Gl X x := by rfl) (hd : (x == ("__debug__" : Str)) = false := by decide) : SE X T W ms (.Name x p) (gC (.at_ i)) :=
  PE.imp (pe_glob (v := .ref (T.at_ i)) hg hm rfl hd) fun σ H Q ⟨F, env, fp, gd, o⟩ => Out.fin o gd (Ext0.refl gd.sub) (by unfold Rep; rfl)
theorem se_callVK {n m : Nat} {ks : List Str} {tbl : Nat → Option G} {gD : List D → List D → List D} (hr : Room lv X.A) (tk : L2N.Takes X W) (hf : SE X T W ms func gf) (ha : SA X T W ms (e :: es) gs) (hkw : SK X T W ms kws gks) (hn : Cnt gs n) (hks : Cnt gks ks.length)
    (hD : ∀ ds es : List D, ds.length = n → es.length = ks.length → (gD ds es).length = m) (hT : ∀ i g, tbl i = some g → KwD X T lv (T.at_ i) n ks gD (spS T [] m g))
    (hev : eval (.Call func (e :: es) kws pos) X.env = (eval func X.env >>= fun f => callWith pos f [] (backTo pos (starEach (e :: es) X.env)) (backToKw pos (keywordEach kws X.env))) := by rfl)
    (hall : (backToKw pos (keywordEach kws X.env)).all (·.1.isSome) = true := by rfl) (hk : (backToKw pos (keywordEach kws X.env)).filterMap (·.1) = ks := by rfl) (he : starEach (e :: es) X.env = (false, eval e X.env) :: starEach es X.env := by rfl)
    (hpl : ((backTo pos (starEach (e :: es) X.env)).any (·.1) || (backToKw pos (keywordEach kws X.env)).any (·.1.isNone)) = false := by rfl) : SE X T W ms (.Call func (e :: es) kws pos) (gCallV tbl gD gf gs gks) :=
  PE.imp (pe_callV (E := WE W) hr (fun σ => L2N.passAt tk σ) hf ha hkw hev hall hk he hpl) fun σ H Q w => out_callV hn hks hD hT w
end
/-! ### a test with an own thing lent -/
def gBorrowT (ms : List Mode) (j : Nat) (t : GT) : GT := fun env => match env[j]? with
  | some (some d0) => match t env with
    | .ok env' c => if listsM (ms.getD j .sh) d0 && restFlat ms j 0 env' then .ok (mergeE ms j 0 env env') c else .stuck
    | _ => .stuck
  | _ => .stuck
section
variable {X : Cx} {T : Tb} {ms ms1 : List Mode} {W : WX} {e : Expr} {t : GT}
theorem st_borrow (j : Nat) (he : ST X T W ms1 e t) (hj : (ms.getD j .sh).ok = true) (h1 : ms1.getD j .sh = .sh) (h2 : ∀ i, i ≠ j → ms1.getD i .sh = ms.getD i .sh) : ST X T W ms e (gBorrowT ms j t) :=
  PT.imp he fun σ H Q ⟨F, env, fp, gd, o⟩ => by
    refine ⟨_, env, _, gd.lend hj h1 h2, ?_⟩
    unfold gBorrowT at o
    split at o
    · rename_i d0 hd0
      split at o
      · rename_i env' c he
        rw [he]
        split at o
        · rename_i hck
          obtain ⟨c1, c3⟩ := Bool.and_eq_true_iff.mp hck
          intro H' F' fp' s g'
          obtain ⟨s2, g2, _, _, _⟩ := unlend (k := .sh) (d := .non) (v := .non) (fv := fun _ => False) gd h2 hd0 c1 rfl c3 (s.less fun b z => z.elim id False.elim) g' ⟨fun _ z => z, by unfold Rep; rfl⟩ (fun _ z => z.elim) fun _ _ _ z => z
          exact o H' _ _ (s2.less fun b z => .inl z) g2
        · exact o.elim
      · exact o.elim
    · exact o.elim
end
end TL

set_option Elab.async false
set_option linter.all false
set_option maxRecDepth 100000
set_option maxHeartbeats 1000000
namespace TL
open PySem PySem.Spec PyProof.Rows L2
theorem takes0 {X : Cx} : L2N.Takes X (fun _ _ _ _ => False) := fun _ _ ⟨_, _, _, _, _, _, _, _, _, _, _, _, _, _, _, _, z⟩ => z.elim
theorem st_sw {X : Cx} {T : Tb} {W : WX} {ms : List Mode} {e : Expr} {g : GT} (h : SW X T W ms e g) : ST X T W ms e g := PW.pt h
section
variable {P : Program} {w : World} {K : PySem.W.Frag} {mg : Str → Option Value} {base : Heap} {T : Tb}
theorem fun_tlD {x qual : Str} {params : Arguments} {bd : List Stmt} {sc : Scope} {dvs : List V} {kws : List (Str × V)} {f : Addr} {fd : FuncData} {N ps : List Str} {lv : Nat} (Fn : FunD K x qual params bd sc dvs kws f fd) (S : FnScope N ps sc) (pm : List Mode) (hpm : pm.length ≤ ps.length) {ms' : List Mode} {g : GS} (hms' : pmOk pm ms' = true)
    (body : ∀ (cdv : Value) (A : Around) (outer : List PySem.Env) (s : Shared) (H : Hp) (E : XK) (vs : List V) (env0 : Env), Room lv (A.deeper (envOfC qual sc s.heap.objs.size f cdv)) → JOk (jOf T pm .sh E vs env0) →
      SB (cxOf (L2N.CX P w) P w K mg base N qual sc f cdv A outer s H E) (jOf T pm .sh E vs env0) (padM pm N.length) bd ms' g) :
    FnOk P w K mg base (L2N.CX P w) (lv + 1) f fd ps (spS T pm ps.length (gFun pm N.length g)) :=
  Fn.ok S (fun vs H Q E h => h.1) fun cdv A outer s H vs Q E hr ⟨hn, F, env0, fp, gd, o⟩ => by
    have hl : env0.length = vs.length := by have := gd.len; simpa using this
    refine ⟨_, body cdv A outer s H E vs env0 hr ⟨by simpa using hl, fun i hi => ?_⟩, F, _, fp, good_start gd, keep_start gd (by omega), fun_out hms' (by omega) gd rfl o⟩
    rcases Nat.lt_or_ge i pm.length with z | z
    · show i < env0.length; omega
    · exact (hi (by simp [List.getD, List.getElem?_eq_none z])).elim
end
end TL
namespace P04
open PySem PySem.Spec PyProof.Rows L2 TL
def top (i : Nat) : Stmt := PySem.Challenge.pw_tandems_k04_parts_and_backwards.main.body.getD i (.Pass ⟨0, 0, 0, 0⟩)
def inC : Stmt → List Stmt
  | .ClassDef _ _ _ b .. => b
  | _ => []

def st_is_int : Stmt := top 12
theorem sc_is_int : FnScope ["value"] ["value"] (defScope st_is_int) := ⟨rfl, rfl, rfl, by decide +kernel, rfl, by decide +kernel, by decide +kernel⟩
def st_Ratiodd_initdd : Stmt := (inC (top 11)).getD 0 (.Pass ⟨0, 0, 0, 0⟩)
theorem sc_Ratiodd_initdd : FnScope ["self", "top", "bottom", "shared"] ["self", "top", "bottom"] (defScope st_Ratiodd_initdd) := ⟨rfl, rfl, rfl, by decide +kernel, rfl, by decide +kernel, by decide +kernel⟩
def st_is_number : Stmt := top 13
theorem sc_is_number : FnScope ["value"] ["value"] (defScope st_is_number) := ⟨rfl, rfl, rfl, by decide +kernel, rfl, by decide +kernel, by decide +kernel⟩
def st_as_ratio : Stmt := top 14
theorem sc_as_ratio : FnScope ["given"] ["given"] (defScope st_as_ratio) := ⟨rfl, rfl, rfl, by decide +kernel, rfl, by decide +kernel, by decide +kernel⟩
def st_Ratio_top : Stmt := (inC (top 11)).getD 1 (.Pass ⟨0, 0, 0, 0⟩)
theorem sc_Ratio_top : FnScope ["self"] ["self"] (defScope st_Ratio_top) := ⟨rfl, rfl, rfl, by decide +kernel, rfl, by decide +kernel, by decide +kernel⟩
def st_Ratio_bottom : Stmt := (inC (top 11)).getD 2 (.Pass ⟨0, 0, 0, 0⟩)
theorem sc_Ratio_bottom : FnScope ["self"] ["self"] (defScope st_Ratio_bottom) := ⟨rfl, rfl, rfl, by decide +kernel, rfl, by decide +kernel, by decide +kernel⟩
def st_Ratiodd_adddd : Stmt := (inC (top 11)).getD 3 (.Pass ⟨0, 0, 0, 0⟩)
theorem sc_Ratiodd_adddd : FnScope ["self", "other", "right", "top"] ["self", "other"] (defScope st_Ratiodd_adddd) := ⟨rfl, rfl, rfl, by decide +kernel, rfl, by decide +kernel, by decide +kernel⟩
def st_Ratiodd_negdd : Stmt := (inC (top 11)).getD 6 (.Pass ⟨0, 0, 0, 0⟩)
theorem sc_Ratiodd_negdd : FnScope ["self"] ["self"] (defScope st_Ratiodd_negdd) := ⟨rfl, rfl, rfl, by decide +kernel, rfl, by decide +kernel, by decide +kernel⟩
def st_Ratiodd_subdd : Stmt := (inC (top 11)).getD 4 (.Pass ⟨0, 0, 0, 0⟩)
theorem sc_Ratiodd_subdd : FnScope ["self", "other"] ["self", "other"] (defScope st_Ratiodd_subdd) := ⟨rfl, rfl, rfl, by decide +kernel, rfl, by decide +kernel, by decide +kernel⟩
def st_Ratiodd_muldd : Stmt := (inC (top 11)).getD 5 (.Pass ⟨0, 0, 0, 0⟩)
theorem sc_Ratiodd_muldd : FnScope ["self", "other", "right"] ["self", "other"] (defScope st_Ratiodd_muldd) := ⟨rfl, rfl, rfl, by decide +kernel, rfl, by decide +kernel, by decide +kernel⟩
def st_Ratiodd_eqdd : Stmt := (inC (top 11)).getD 7 (.Pass ⟨0, 0, 0, 0⟩)
theorem sc_Ratiodd_eqdd : FnScope ["self", "other"] ["self", "other"] (defScope st_Ratiodd_eqdd) := ⟨rfl, rfl, rfl, by decide +kernel, rfl, by decide +kernel, by decide +kernel⟩
def st_Ratiodd_ltdd : Stmt := (inC (top 11)).getD 8 (.Pass ⟨0, 0, 0, 0⟩)
theorem sc_Ratiodd_ltdd : FnScope ["self", "other", "right"] ["self", "other"] (defScope st_Ratiodd_ltdd) := ⟨rfl, rfl, rfl, by decide +kernel, rfl, by decide +kernel, by decide +kernel⟩
def st_Ratiodd_ledd : Stmt := (inC (top 11)).getD 9 (.Pass ⟨0, 0, 0, 0⟩)
theorem sc_Ratiodd_ledd : FnScope ["self", "other", "right"] ["self", "other"] (defScope st_Ratiodd_ledd) := ⟨rfl, rfl, rfl, by decide +kernel, rfl, by decide +kernel, by decide +kernel⟩
def st_is_list : Stmt := top 21
theorem sc_is_list : FnScope ["value"] ["value"] (defScope st_is_list) := ⟨rfl, rfl, rfl, by decide +kernel, rfl, by decide +kernel, by decide +kernel⟩
def st_is_time : Stmt := top 22
theorem sc_is_time : FnScope ["value"] ["value"] (defScope st_is_time) := ⟨rfl, rfl, rfl, by decide +kernel, rfl, by decide +kernel, by decide +kernel⟩
def st_is_row : Stmt := top 24
theorem sc_is_row : FnScope ["value", "item"] ["value"] (defScope st_is_row) := ⟨rfl, rfl, rfl, by decide +kernel, rfl, by decide +kernel, by decide +kernel⟩
def st_is_table : Stmt := top 23
theorem sc_is_table : FnScope ["value", "row"] ["value"] (defScope st_is_table) := ⟨rfl, rfl, rfl, by decide +kernel, rfl, by decide +kernel, by decide +kernel⟩
def st_is_index : Stmt := top 25
theorem sc_is_index : FnScope ["value", "size"] ["value", "size"] (defScope st_is_index) := ⟨rfl, rfl, rfl, by decide +kernel, rfl, by decide +kernel, by decide +kernel⟩
def st_Linedd_initdd : Stmt := (inC (top 20)).getD 0 (.Pass ⟨0, 0, 0, 0⟩)
theorem sc_Linedd_initdd : FnScope ["self", "rows", "row", "time"] ["self", "rows"] (defScope st_Linedd_initdd) := ⟨rfl, rfl, rfl, by decide +kernel, rfl, by decide +kernel, by decide +kernel⟩
def st_Linedd_eqdd : Stmt := (inC (top 20)).getD 2 (.Pass ⟨0, 0, 0, 0⟩)
theorem sc_Linedd_eqdd : FnScope ["self", "other"] ["self", "other"] (defScope st_Linedd_eqdd) := ⟨rfl, rfl, rfl, by decide +kernel, rfl, by decide +kernel, by decide +kernel⟩
def st_Line_jobs : Stmt := (inC (top 20)).getD 4 (.Pass ⟨0, 0, 0, 0⟩)
theorem sc_Line_jobs : FnScope ["self"] ["self"] (defScope st_Line_jobs) := ⟨rfl, rfl, rfl, by decide +kernel, rfl, by decide +kernel, by decide +kernel⟩
def st_Line_rows : Stmt := (inC (top 20)).getD 5 (.Pass ⟨0, 0, 0, 0⟩)
theorem sc_Line_rows : FnScope ["self", "row"] ["self"] (defScope st_Line_rows) := ⟨rfl, rfl, rfl, by decide +kernel, rfl, by decide +kernel, by decide +kernel⟩
def st_check_job : Stmt := top 26
theorem sc_check_job : FnScope ["line", "job"] ["line", "job"] (defScope st_check_job) := ⟨rfl, rfl, rfl, by decide +kernel, rfl, by decide +kernel, by decide +kernel⟩
def st_check_stretch : Stmt := top 27
theorem sc_check_stretch : FnScope ["line", "first", "last"] ["line", "first", "last"] (defScope st_check_stretch) := ⟨rfl, rfl, rfl, by decide +kernel, rfl, by decide +kernel, by decide +kernel⟩
def st_Line_part : Stmt := (inC (top 20)).getD 10 (.Pass ⟨0, 0, 0, 0⟩)
theorem sc_Line_part : FnScope ["self", "first", "last", "row"] ["self", "first", "last"] (defScope st_Line_part) := ⟨rfl, rfl, rfl, by decide +kernel, rfl, by decide +kernel, by decide +kernel⟩
def st_Line_backwards : Stmt := (inC (top 20)).getD 11 (.Pass ⟨0, 0, 0, 0⟩)
theorem sc_Line_backwards : FnScope ["self", "row"] ["self"] (defScope st_Line_backwards) := ⟨rfl, rfl, rfl, by decide +kernel, rfl, by decide +kernel, by decide +kernel⟩
def st__law_tape : Stmt := top 29
theorem sc__law_tape : FnScope ["_law_script", "_law_k", "_law_spot"] ["_law_script", "_law_k"] (defScope st__law_tape) := ⟨rfl, rfl, rfl, by decide +kernel, rfl, by decide +kernel, by decide +kernel⟩
def st__law_pick : Stmt := top 30
theorem sc__law_pick : FnScope ["_law_tape_here", "_law_many", "_law_digit", "_law_blend"] ["_law_tape_here", "_law_many"] (defScope st__law_pick) := ⟨rfl, rfl, rfl, by decide +kernel, rfl, by decide +kernel, by decide +kernel⟩
def st__law_size : Stmt := top 32
theorem sc__law_size : FnScope ["_law_tape_here", "_law_high", "_law_one", "_law_other"] ["_law_tape_here", "_law_high"] (defScope st__law_size) := ⟨rfl, rfl, rfl, by decide +kernel, rfl, by decide +kernel, by decide +kernel⟩
def st__law_stretch : Stmt := top 34
theorem sc__law_stretch : FnScope ["_law_tape_here", "_law_many", "_law_one", "_law_other", "_law_way"] ["_law_tape_here", "_law_many"] (defScope st__law_stretch) := ⟨rfl, rfl, rfl, by decide +kernel, rfl, by decide +kernel, by decide +kernel⟩
def st__law_grid : Stmt := top 33
theorem sc__law_grid : FnScope ["_law_tape_here", "_law_high", "_law_wide", "_law_many", "_law_more", "_law_kind", "_law_idle", "_law_found", "_law_k", "_law_row", "_law_j", "_law_size_here", "_law_under1"] ["_law_tape_here", "_law_high", "_law_wide"] (defScope st__law_grid) := ⟨rfl, rfl, rfl, by decide +kernel, rfl, by decide +kernel, by decide +kernel⟩
def st__law_made : Stmt := top 35
theorem sc__law_made : FnScope ["_law_tape_here", "_law_grid_here", "_law_found", "_law_row", "_law_part_here", "_law_item"] ["_law_tape_here", "_law_grid_here"] (defScope st__law_made) := ⟨rfl, rfl, rfl, by decide +kernel, rfl, by decide +kernel, by decide +kernel⟩
def st__law_shown : Stmt := top 31
theorem sc__law_shown : FnScope ["_law_thing", "_law_key", "_law_item"] ["_law_thing"] (defScope st__law_shown) := ⟨rfl, rfl, rfl, by decide +kernel, rfl, by decide +kernel, by decide +kernel⟩
def st__law_part : Stmt := top 36
theorem sc__law_part : FnScope ["_law_made_here", "_law_begin", "_law_goal", "e"] ["_law_made_here", "_law_begin", "_law_goal"] (defScope st__law_part) := ⟨rfl, rfl, rfl, by decide +kernel, rfl, by decide +kernel, by decide +kernel⟩
def st_law : Stmt := top 37
theorem sc_law : FnScope ["_law_script", "_law_k", "_law_tape_here", "_law_grid_here", "_law_made_here", "_law_many", "_law_begin", "_law_goal", "_law_back", "_law_odd", "_law_late", "_law_row"] ["_law_script"] (defScope st_law) := ⟨rfl, rfl, rfl, by decide +kernel, rfl, by decide +kernel, by decide +kernel⟩
def hLe_i : D → D → Option D := iI fun i j => .bl (decide (i ≤ j))
def hLt_i : D → D → Option D := iI fun i j => .bl (decide (i < j))
def hAdd_i : D → D → Option D := iI fun i j => .int (i + j)
def hSub_i : D → D → Option D := iI fun i j => .int (i - j)
def hMul_i : D → D → Option D := iC (fun i j => decide (i.natAbs.log2 + j.natAbs.log2 < 1000000)) fun i j => .int (i * j)
def hFdiv_i : D → D → Option D := iC (fun i j => decide (0 < j ∧ j.natAbs.log2 < 9000)) fun i j => .int (i / j)
def hMod_i : D → D → Option D := iC (fun _ j => decide (0 < j)) fun i j => .int (i % j)
def hPow_i : D → D → Option D := iC (fun i j => decide (0 ≤ j ∧ j ≤ 1000000 ∧ i.natAbs < 2 ^ 64)) fun i j => .int (i ^ j.toNat)
def hGe_i : D → D → Option D := iI fun i j => .bl (decide (j ≤ i))
def hGt_i : D → D → Option D := iI fun i j => .bl (decide (j < i))
def hNeg_i : D → Option D
  | .int i => some (.int (-i))
  | _ => none
def own0 : Nat → D → D → Option Bool := fun _ _ _ => none
def hEq_i : D → D → Option D := hEq own0 0
def hI_int : D → Option Bool
  | .int _ => some true
  | .bl _ => some true
  | .obj 0 _ => some false
  | .obj 1 _ => some false
  | .obj _ _ => none
  | .ty _ => none
  | .at_ _ => none
  | .part _ _ => none
  | _ => some false
def hI_bool : D → Option Bool
  | .bl _ => some true
  | .obj 0 _ => some false
  | .obj 1 _ => some false
  | .obj _ _ => none
  | .ty _ => none
  | .at_ _ => none
  | .part _ _ => none
  | _ => some false
def hI_seq : D → Option Bool
  | .lst _ => some true
  | .tup _ => some true
  | .obj 0 _ => some false
  | .obj 1 _ => some false
  | .obj _ _ => none
  | .ty _ => none
  | .at_ _ => none
  | .part _ _ => none
  | _ => some false
def hI_Ratio : D → Option Bool
  | .obj 0 _ => some true
  | .obj 1 _ => some false
  | .obj _ _ => none
  | .ty _ => none
  | .at_ _ => none
  | .part _ _ => none
  | _ => some false
def hI_Line : D → Option Bool
  | .obj 0 _ => some false
  | .obj 1 _ => some true
  | .obj _ _ => none
  | .ty _ => none
  | .at_ _ => none
  | .part _ _ => none
  | _ => some false
def hI_dict : D → Option Bool
  | .dic _ _ => some true
  | .obj 0 _ => some false
  | .obj 1 _ => some false
  | .obj _ _ => none
  | .ty _ => none
  | .at_ _ => none
  | .part _ _ => none
  | _ => some false
def hI_list : D → Option Bool
  | .lst _ => some true
  | .obj 0 _ => some false
  | .obj 1 _ => some false
  | .obj _ _ => none
  | .ty _ => none
  | .at_ _ => none
  | .part _ _ => none
  | _ => some false

structure Fx (K : PySem.W.Frag) (mg : Str → Option Value) (T : Tb) where
  hK : T.K = K
  m_range : mg "range" = none
  cls0 : ∀ X : Cx, X.K = K → ClsD X T 0
  fl0 : T.fl 0 = [("_top" : Str), ("_bottom" : Str)]
  mc0 : mg "Ratio" = some (.ref (T.cl 0))
  cls1 : ∀ X : Cx, X.K = K → ClsD X T 1
  fl1 : T.fl 1 = [("_rows" : Str)]
  mc1 : mg "Line" = some (.ref (T.cl 1))
  k_MOST_SERVERS : ∃ t, mg "MOST_SERVERS" = some (.int 4 t)
  k_MOST_JOBS : ∃ t, mg "MOST_JOBS" = some (.int 6 t)
  a_is_int : Addr
  d_is_int : FuncData
  F_is_int : Fun K "is_int" "is_int" st_is_int a_is_int d_is_int
  m_is_int : mg "is_int" = some (.ref a_is_int)
  a_Ratiodd_initdd : Addr
  d_Ratiodd_initdd : FuncData
  F_Ratiodd_initdd : FunD K "__init__" "Ratio.__init__" (defArgs st_Ratiodd_initdd) (defBody st_Ratiodd_initdd) (defScope st_Ratiodd_initdd) [.int 1] [] a_Ratiodd_initdd d_Ratiodd_initdd
  M_Ratiodd_initdd : Mk K (T.cl 0) a_Ratiodd_initdd
  B_Ratiodd_initdd : ∃ ds, Vals [V.int 1] ds ∧ Binds K d_Ratiodd_initdd ["self", "top", "bottom"] ds
  b_Ratiodd_initdd : Binds K d_Ratiodd_initdd ["self", "top", "bottom"] []
  a_is_number : Addr
  d_is_number : FuncData
  F_is_number : Fun K "is_number" "is_number" st_is_number a_is_number d_is_number
  m_is_number : mg "is_number" = some (.ref a_is_number)
  a_as_ratio : Addr
  d_as_ratio : FuncData
  F_as_ratio : Fun K "as_ratio" "as_ratio" st_as_ratio a_as_ratio d_as_ratio
  m_as_ratio : mg "as_ratio" = some (.ref a_as_ratio)
  a_Ratio_top : Addr
  d_Ratio_top : FuncData
  F_Ratio_top : Fun K "top" "Ratio.top" st_Ratio_top a_Ratio_top d_Ratio_top
  q_Ratio_top : Addr
  p_Ratio_top : PropOf K (T.cl 0) "top" q_Ratio_top a_Ratio_top
  a_Ratio_bottom : Addr
  d_Ratio_bottom : FuncData
  F_Ratio_bottom : Fun K "bottom" "Ratio.bottom" st_Ratio_bottom a_Ratio_bottom d_Ratio_bottom
  q_Ratio_bottom : Addr
  p_Ratio_bottom : PropOf K (T.cl 0) "bottom" q_Ratio_bottom a_Ratio_bottom
  a_Ratiodd_adddd : Addr
  d_Ratiodd_adddd : FuncData
  F_Ratiodd_adddd : Fun K "__add__" "Ratio.__add__" st_Ratiodd_adddd a_Ratiodd_adddd d_Ratiodd_adddd
  s_Ratiodd_adddd : PySem.W.findIn K (.ref (T.cl 0)) "__add__" = some (some (.ref a_Ratiodd_adddd))
  i_Ratiodd_adddd : PySem.W.isFn K (.ref a_Ratiodd_adddd) = true
  a_Ratiodd_negdd : Addr
  d_Ratiodd_negdd : FuncData
  F_Ratiodd_negdd : Fun K "__neg__" "Ratio.__neg__" st_Ratiodd_negdd a_Ratiodd_negdd d_Ratiodd_negdd
  s_Ratiodd_negdd : PySem.W.findIn K (.ref (T.cl 0)) "__neg__" = some (some (.ref a_Ratiodd_negdd))
  i_Ratiodd_negdd : PySem.W.isFn K (.ref a_Ratiodd_negdd) = true
  a_Ratiodd_subdd : Addr
  d_Ratiodd_subdd : FuncData
  F_Ratiodd_subdd : Fun K "__sub__" "Ratio.__sub__" st_Ratiodd_subdd a_Ratiodd_subdd d_Ratiodd_subdd
  s_Ratiodd_subdd : PySem.W.findIn K (.ref (T.cl 0)) "__sub__" = some (some (.ref a_Ratiodd_subdd))
  i_Ratiodd_subdd : PySem.W.isFn K (.ref a_Ratiodd_subdd) = true
  a_Ratiodd_muldd : Addr
  d_Ratiodd_muldd : FuncData
  F_Ratiodd_muldd : Fun K "__mul__" "Ratio.__mul__" st_Ratiodd_muldd a_Ratiodd_muldd d_Ratiodd_muldd
  s_Ratiodd_muldd : PySem.W.findIn K (.ref (T.cl 0)) "__mul__" = some (some (.ref a_Ratiodd_muldd))
  i_Ratiodd_muldd : PySem.W.isFn K (.ref a_Ratiodd_muldd) = true
  a_Ratiodd_eqdd : Addr
  d_Ratiodd_eqdd : FuncData
  F_Ratiodd_eqdd : Fun K "__eq__" "Ratio.__eq__" st_Ratiodd_eqdd a_Ratiodd_eqdd d_Ratiodd_eqdd
  s_Ratiodd_eqdd : PySem.W.findIn K (.ref (T.cl 0)) "__eq__" = some (some (.ref a_Ratiodd_eqdd))
  i_Ratiodd_eqdd : PySem.W.isFn K (.ref a_Ratiodd_eqdd) = true
  a_Ratiodd_ltdd : Addr
  d_Ratiodd_ltdd : FuncData
  F_Ratiodd_ltdd : Fun K "__lt__" "Ratio.__lt__" st_Ratiodd_ltdd a_Ratiodd_ltdd d_Ratiodd_ltdd
  s_Ratiodd_ltdd : PySem.W.findIn K (.ref (T.cl 0)) "__lt__" = some (some (.ref a_Ratiodd_ltdd))
  i_Ratiodd_ltdd : PySem.W.isFn K (.ref a_Ratiodd_ltdd) = true
  a_Ratiodd_ledd : Addr
  d_Ratiodd_ledd : FuncData
  F_Ratiodd_ledd : Fun K "__le__" "Ratio.__le__" st_Ratiodd_ledd a_Ratiodd_ledd d_Ratiodd_ledd
  s_Ratiodd_ledd : PySem.W.findIn K (.ref (T.cl 0)) "__le__" = some (some (.ref a_Ratiodd_ledd))
  i_Ratiodd_ledd : PySem.W.isFn K (.ref a_Ratiodd_ledd) = true
  a_is_list : Addr
  d_is_list : FuncData
  F_is_list : Fun K "is_list" "is_list" st_is_list a_is_list d_is_list
  m_is_list : mg "is_list" = some (.ref a_is_list)
  a_is_time : Addr
  d_is_time : FuncData
  F_is_time : Fun K "is_time" "is_time" st_is_time a_is_time d_is_time
  m_is_time : mg "is_time" = some (.ref a_is_time)
  a_is_row : Addr
  d_is_row : FuncData
  F_is_row : Fun K "is_row" "is_row" st_is_row a_is_row d_is_row
  m_is_row : mg "is_row" = some (.ref a_is_row)
  a_is_table : Addr
  d_is_table : FuncData
  F_is_table : Fun K "is_table" "is_table" st_is_table a_is_table d_is_table
  m_is_table : mg "is_table" = some (.ref a_is_table)
  a_is_index : Addr
  d_is_index : FuncData
  F_is_index : Fun K "is_index" "is_index" st_is_index a_is_index d_is_index
  m_is_index : mg "is_index" = some (.ref a_is_index)
  a_Linedd_initdd : Addr
  d_Linedd_initdd : FuncData
  F_Linedd_initdd : Fun K "__init__" "Line.__init__" st_Linedd_initdd a_Linedd_initdd d_Linedd_initdd
  M_Linedd_initdd : Mk K (T.cl 1) a_Linedd_initdd
  b_Linedd_initdd : Binds K d_Linedd_initdd ["self", "rows"] []
  a_Linedd_eqdd : Addr
  d_Linedd_eqdd : FuncData
  F_Linedd_eqdd : Fun K "__eq__" "Line.__eq__" st_Linedd_eqdd a_Linedd_eqdd d_Linedd_eqdd
  s_Linedd_eqdd : PySem.W.findIn K (.ref (T.cl 1)) "__eq__" = some (some (.ref a_Linedd_eqdd))
  i_Linedd_eqdd : PySem.W.isFn K (.ref a_Linedd_eqdd) = true
  a_Line_jobs : Addr
  d_Line_jobs : FuncData
  F_Line_jobs : Fun K "jobs" "Line.jobs" st_Line_jobs a_Line_jobs d_Line_jobs
  t_Line_jobs : Meth K (T.cl 1) "jobs" a_Line_jobs
  a_Line_rows : Addr
  d_Line_rows : FuncData
  F_Line_rows : Fun K "rows" "Line.rows" st_Line_rows a_Line_rows d_Line_rows
  t_Line_rows : Meth K (T.cl 1) "rows" a_Line_rows
  a_check_job : Addr
  d_check_job : FuncData
  F_check_job : Fun K "check_job" "check_job" st_check_job a_check_job d_check_job
  m_check_job : mg "check_job" = some (.ref a_check_job)
  a_check_stretch : Addr
  d_check_stretch : FuncData
  F_check_stretch : Fun K "check_stretch" "check_stretch" st_check_stretch a_check_stretch d_check_stretch
  m_check_stretch : mg "check_stretch" = some (.ref a_check_stretch)
  a_Line_part : Addr
  d_Line_part : FuncData
  F_Line_part : Fun K "part" "Line.part" st_Line_part a_Line_part d_Line_part
  t_Line_part : Meth K (T.cl 1) "part" a_Line_part
  a_Line_backwards : Addr
  d_Line_backwards : FuncData
  F_Line_backwards : Fun K "backwards" "Line.backwards" st_Line_backwards a_Line_backwards d_Line_backwards
  t_Line_backwards : Meth K (T.cl 1) "backwards" a_Line_backwards
  a__law_tape : Addr
  d__law_tape : FuncData
  F__law_tape : Fun K "_law_tape" "_law_tape" st__law_tape a__law_tape d__law_tape
  m__law_tape : mg "_law_tape" = some (.ref a__law_tape)
  a__law_pick : Addr
  d__law_pick : FuncData
  F__law_pick : Fun K "_law_pick" "_law_pick" st__law_pick a__law_pick d__law_pick
  m__law_pick : mg "_law_pick" = some (.ref a__law_pick)
  a__law_size : Addr
  d__law_size : FuncData
  F__law_size : Fun K "_law_size" "_law_size" st__law_size a__law_size d__law_size
  m__law_size : mg "_law_size" = some (.ref a__law_size)
  a__law_stretch : Addr
  d__law_stretch : FuncData
  F__law_stretch : Fun K "_law_stretch" "_law_stretch" st__law_stretch a__law_stretch d__law_stretch
  m__law_stretch : mg "_law_stretch" = some (.ref a__law_stretch)
  a__law_grid : Addr
  d__law_grid : FuncData
  F__law_grid : Fun K "_law_grid" "_law_grid" st__law_grid a__law_grid d__law_grid
  m__law_grid : mg "_law_grid" = some (.ref a__law_grid)
  a__law_made : Addr
  d__law_made : FuncData
  F__law_made : Fun K "_law_made" "_law_made" st__law_made a__law_made d__law_made
  m__law_made : mg "_law_made" = some (.ref a__law_made)
  a__law_shown : Addr
  d__law_shown : FuncData
  F__law_shown : Fun K "_law_shown" "_law_shown" st__law_shown a__law_shown d__law_shown
  m__law_shown : mg "_law_shown" = some (.ref a__law_shown)
  a__law_part : Addr
  d__law_part : FuncData
  F__law_part : Fun K "_law_part" "_law_part" st__law_part a__law_part d__law_part
  m__law_part : mg "_law_part" = some (.ref a__law_part)
  a_law : Addr
  d_law : FuncData
  F_law : Fun K "law" "law" st_law a_law d_law
  m_law : mg "law" = some (.ref a_law)
  m_isi : mg "isinstance" = none
  m_len : mg "len" = none
  m_all : mg "all" = none
  m_list : mg "list" = none
  m_tuple : mg "tuple" = none
  m_int : mg "int" = none
  m_bool : mg "bool" = none
  m_gcd : mg "gcd" = some (.builtin "math.gcd")
  k_int : ∀ X : Cx, X.K = K → KitD X T [.type "int"] hI_int
  k_bool : ∀ X : Cx, X.K = K → KitD X T [.type "bool"] hI_bool
  k_seq : ∀ X : Cx, X.K = K → KitD X T [.type "list", .type "tuple"] hI_seq
  k_Ratio : ∀ X : Cx, X.K = K → KitD X T [.ref (T.cl 0)] hI_Ratio
  k_Line : ∀ X : Cx, X.K = K → KitD X T [.ref (T.cl 1)] hI_Line
  r_BadNumber : ∀ {P : Program} {w : World} {base : Heap} {X : Cx}, X.prog = P → X.w = w → X.K = K → X.mg = mg → X.base = base → RaiD X T 1 "BadNumber" 4 "given"
  r_BadLine : ∀ {P : Program} {w : World} {base : Heap} {X : Cx}, X.prog = P → X.w = w → X.K = K → X.mg = mg → X.base = base → RaiD X T 1 "BadLine" 5 "given"
  r_BadServer : ∀ {P : Program} {w : World} {base : Heap} {X : Cx}, X.prog = P → X.w = w → X.K = K → X.mg = mg → X.base = base → RaiD X T 1 "BadServer" 6 "given"
  r_BadJob : ∀ {P : Program} {w : World} {base : Heap} {X : Cx}, X.prog = P → X.w = w → X.K = K → X.mg = mg → X.base = base → RaiD X T 1 "BadJob" 7 "given"
  z_ByZero : ∀ {X : Cx}, X.K = K → X.mg = mg → RaiN X T "ByZero" 2
  sf0 : PySem.W.selfFirst K (T.cl 0) = true
  nf00 : PySem.W.notFirst K (T.cl 0) (.ref (T.cl 0)) = true
  nf0i : PySem.W.notFirst K (T.cl 0) (.type "int") = true
  h01 : T.cl 0 ≠ T.cl 1
  ne0 : PySem.W.findIn K (.ref (T.cl 0)) "__ne__" = some (some (.builtin "object.__ne__"))
  nf01 : PySem.W.notFirst K (T.cl 0) (.ref (T.cl 1)) = true
  nf0_NoneType : PySem.W.notFirst K (T.cl 0) (.type "NoneType") = true
  nf0_bool : PySem.W.notFirst K (T.cl 0) (.type "bool") = true
  nf0_str : PySem.W.notFirst K (T.cl 0) (.type "str") = true
  nf0_list : PySem.W.notFirst K (T.cl 0) (.type "list") = true
  nf0_tuple : PySem.W.notFirst K (T.cl 0) (.type "tuple") = true
  m_abs : mg "abs" = none
  m_max : mg "max" = none
  m_min : mg "min" = none
  m_dict : mg "dict" = none
  m_repr : mg "repr" = none
  k_dict : ∀ X : Cx, X.K = K → KitD X T [.type "dict"] hI_dict
  k_list : ∀ X : Cx, X.K = K → KitD X T [.type "list"] hI_list
  nf11 : PySem.W.notFirst K (T.cl 1) (.ref (T.cl 1)) = true
  ne1 : PySem.W.findIn K (.ref (T.cl 1)) "__ne__" = some (some (.builtin "object.__ne__"))
  mc7 : mg "BadJob" = some (.ref (T.cl 7))
  xf7 : XfC K (T.cl 7)
  xn7 : PySem.W.findIn K (.ref (T.cl 7)) "given" = some none
  x7 : PySem.W.exmOne K (.ref (T.cl 7)) (.ref (T.cl 7)) = some true
section
variable {P : Program} {w : World} {K : PySem.W.Frag} {mg : Str → Option Value} {base : Heap} {T : Tb} (h : Fx K mg T)
include h
omit h in
theorem oLe_i {X : Cx} (_ : Fx K mg T) {n : Nat} (_ : Room n X.A) : OpS X T (compareOp .LtE) hLe_i := ops_int op_le fun _ _ _ => by unfold Rep; rfl
omit h in
theorem oLt_i {X : Cx} (_ : Fx K mg T) {n : Nat} (_ : Room n X.A) : OpS X T (compareOp .Lt) hLt_i := ops_int op_lt fun _ _ _ => by unfold Rep; rfl
omit h in
theorem oGe_i {X : Cx} (_ : Fx K mg T) {n : Nat} (_ : Room n X.A) : OpS X T (compareOp .GtE) hGe_i := ops_int op_ge fun _ _ _ => by unfold Rep; rfl
omit h in
theorem oGt_i {X : Cx} (_ : Fx K mg T) {n : Nat} (_ : Room n X.A) : OpS X T (compareOp .Gt) hGt_i := ops_int op_gt fun _ _ _ => by unfold Rep; rfl
omit h in
theorem oAdd_i {X : Cx} (_ : Fx K mg T) {n : Nat} (_ : Room n X.A) : OpS X T (binaryOp .Add) hAdd_i := ops_int op_add fun _ _ _ => by unfold Rep; rfl
omit h in
theorem oSub_i {X : Cx} (_ : Fx K mg T) {n : Nat} (_ : Room n X.A) : OpS X T (binaryOp .Sub) hSub_i := ops_int op_sub fun _ _ _ => by unfold Rep; rfl
omit h in
theorem oMul_i {X : Cx} (_ : Fx K mg T) {n : Nat} (_ : Room n X.A) : OpS X T (binaryOp .Mult) hMul_i := ops_intC op_mulW (fun i j z => (of_decide_eq_true z : i.natAbs.log2 + j.natAbs.log2 < 1000000)) fun _ _ _ => by unfold Rep; rfl
omit h in
theorem oFdiv_i {X : Cx} (_ : Fx K mg T) {n : Nat} (_ : Room n X.A) : OpS X T (binaryOp .FloorDiv) hFdiv_i := ops_intC op_fdivW (fun i j z => (of_decide_eq_true z : 0 < j ∧ j.natAbs.log2 < 9000)) fun _ _ _ => by unfold Rep; rfl
omit h in
theorem oNeg_i {X : Cx} (_ : Fx K mg T) {n : Nat} (_ : Room n X.A) : UnS X T (unaryOp .USub) hNeg_i := UnR.imp un_neg fun x H Q ⟨F, dx, d, s, r, e, q⟩ => by
  unfold hNeg_i at e
  split at e
  · rename_i i
    cases e
    unfold Rep at r
    exact ⟨i, r, q H F _ (Ext0.refl s) (by unfold Rep; rfl)⟩
  · cases e
omit h in
theorem O0 {X : Cx} : OwnQ X T 0 own0 := ⟨fun z => (nomatch z), fun _ _ _ _ _ z => (nomatch z)⟩
omit h in
theorem oEq_i {X : Cx} (h : Fx X.K mg T) {n : Nat} (hr : Room n X.A) : OpS X T (compareOp .Eq) hEq_i := ops_eq h.hK O0 0 (hr.mono (Nat.zero_le _))
omit h in
theorem i_int {X : Cx} {W : WX} {ms : List Mode} {a : Expr} {ga : G} {p p2 pos : Pos} (h : Fx X.K X.mg T) (ha : SE X T W ms a ga) (hg : Gl X "isinstance" := by rfl) (hg2 : Gl X "int" := by rfl)
    (he : starEach [a, .Name "int" p2] X.env = (false, eval a X.env) :: starEach [.Name "int" p2] X.env := by rfl) (he2 : starEach [.Name "int" p2] X.env = (false, eval (.Name "int" p2) X.env) :: starEach [] X.env := by rfl) (hpl : (backTo pos (starEach [.Name "int" p2] X.env)).any (·.1) = false := by rfl) :
    SE X T W ms (.Call (.Name "isinstance" p) [a, .Name "int" p2] [] pos) (gIsi hI_int ga) := se_isi h.hK (h.k_int _ rfl) (fun c fs z => match c, z with
    | 0, _ => h.cls0 _ rfl
    | 1, _ => h.cls1 _ rfl) (.ty "int") ha (pe_bltn hg2 h.m_int (u := .type "int") (by decide +kernel) rfl) hg h.m_isi he he2 hpl
omit h in
theorem i_bool {X : Cx} {W : WX} {ms : List Mode} {a : Expr} {ga : G} {p p2 pos : Pos} (h : Fx X.K X.mg T) (ha : SE X T W ms a ga) (hg : Gl X "isinstance" := by rfl) (hg2 : Gl X "bool" := by rfl)
    (he : starEach [a, .Name "bool" p2] X.env = (false, eval a X.env) :: starEach [.Name "bool" p2] X.env := by rfl) (he2 : starEach [.Name "bool" p2] X.env = (false, eval (.Name "bool" p2) X.env) :: starEach [] X.env := by rfl) (hpl : (backTo pos (starEach [.Name "bool" p2] X.env)).any (·.1) = false := by rfl) :
    SE X T W ms (.Call (.Name "isinstance" p) [a, .Name "bool" p2] [] pos) (gIsi hI_bool ga) := se_isi h.hK (h.k_bool _ rfl) (fun c fs z => match c, z with
    | 0, _ => h.cls0 _ rfl
    | 1, _ => h.cls1 _ rfl) (.ty "bool") ha (pe_bltn hg2 h.m_bool (u := .type "bool") (by decide +kernel) rfl) hg h.m_isi he he2 hpl
omit h in
theorem i_Ratio {X : Cx} {W : WX} {ms : List Mode} {a : Expr} {ga : G} {p p2 pos : Pos} (h : Fx X.K X.mg T) (ha : SE X T W ms a ga) (hg : Gl X "isinstance" := by rfl) (hg2 : Gl X "Ratio" := by rfl)
    (he : starEach [a, .Name "Ratio" p2] X.env = (false, eval a X.env) :: starEach [.Name "Ratio" p2] X.env := by rfl) (he2 : starEach [.Name "Ratio" p2] X.env = (false, eval (.Name "Ratio" p2) X.env) :: starEach [] X.env := by rfl) (hpl : (backTo pos (starEach [.Name "Ratio" p2] X.env)).any (·.1) = false := by rfl) :
    SE X T W ms (.Call (.Name "isinstance" p) [a, .Name "Ratio" p2] [] pos) (gIsi hI_Ratio ga) := se_isi h.hK (h.k_Ratio _ rfl) (fun c fs z => match c, z with
    | 0, _ => h.cls0 _ rfl
    | 1, _ => h.cls1 _ rfl) (.own (T.cl 0)) ha (pe_glob hg2 h.mc0 rfl) hg h.m_isi he he2 hpl
omit h in
theorem i_Line {X : Cx} {W : WX} {ms : List Mode} {a : Expr} {ga : G} {p p2 pos : Pos} (h : Fx X.K X.mg T) (ha : SE X T W ms a ga) (hg : Gl X "isinstance" := by rfl) (hg2 : Gl X "Line" := by rfl)
    (he : starEach [a, .Name "Line" p2] X.env = (false, eval a X.env) :: starEach [.Name "Line" p2] X.env := by rfl) (he2 : starEach [.Name "Line" p2] X.env = (false, eval (.Name "Line" p2) X.env) :: starEach [] X.env := by rfl) (hpl : (backTo pos (starEach [.Name "Line" p2] X.env)).any (·.1) = false := by rfl) :
    SE X T W ms (.Call (.Name "isinstance" p) [a, .Name "Line" p2] [] pos) (gIsi hI_Line ga) := se_isi h.hK (h.k_Line _ rfl) (fun c fs z => match c, z with
    | 0, _ => h.cls0 _ rfl
    | 1, _ => h.cls1 _ rfl) (.own (T.cl 1)) ha (pe_glob hg2 h.mc1 rfl) hg h.m_isi he he2 hpl
theorem rd_BadNumber {X : Cx} (e1 : X.prog = P) (e2 : X.w = w) (e3 : X.K = K) (e4 : X.mg = mg) (e5 : X.base = base) : RaiD X T 1 "BadNumber" 4 "given" := h.r_BadNumber e1 e2 e3 e4 e5
theorem rd_BadLine {X : Cx} (e1 : X.prog = P) (e2 : X.w = w) (e3 : X.K = K) (e4 : X.mg = mg) (e5 : X.base = base) : RaiD X T 1 "BadLine" 5 "given" := h.r_BadLine e1 e2 e3 e4 e5
theorem rd_BadServer {X : Cx} (e1 : X.prog = P) (e2 : X.w = w) (e3 : X.K = K) (e4 : X.mg = mg) (e5 : X.base = base) : RaiD X T 1 "BadServer" 6 "given" := h.r_BadServer e1 e2 e3 e4 e5
theorem rd_BadJob {X : Cx} (e1 : X.prog = P) (e2 : X.w = w) (e3 : X.K = K) (e4 : X.mg = mg) (e5 : X.base = base) : RaiD X T 1 "BadJob" 7 "given" := h.r_BadJob e1 e2 e3 e4 e5
theorem rn_ByZero {X : Cx} (e3 : X.K = K) (e4 : X.mg = mg) : RaiN X T "ByZero" 2 := h.z_ByZero e3 e4
omit h in
theorem b_len {X : Cx} {W : WX} {ms : List Mode} {a : Expr} {gs : GA} {p pos : Pos} (h : Fx X.K X.mg T) (ha : SA X T W ms [a] gs) (hg : Gl X "len" := by rfl) (he : starEach [a] X.env = (false, eval a X.env) :: starEach [] X.env := by rfl) (hpl : (backTo pos (starEach [] X.env)).any (·.1) = false := by rfl) :
    SE X T W ms (.Call (.Name "len" p) [a] [] pos) (gF dLen gs) := se_callB (cal_len h.hK) hg h.m_len (by decide +kernel) ha (by decide) (by decide) he hpl
omit h in
theorem b_gcd {X : Cx} {W : WX} {ms : List Mode} {a b : Expr} {gs : GA} {p pos : Pos} (h : Fx X.K X.mg T) (ha : SA X T W ms [a, b] gs) (hg : Gl X "gcd" := by rfl) (he : starEach [a, b] X.env = (false, eval a X.env) :: starEach [b] X.env := by rfl) (hpl : (backTo pos (starEach [b] X.env)).any (·.1) = false := by rfl) :
    SE X T W ms (.Call (.Name "gcd" p) [a, b] [] pos) (gF dGcd gs) := se_callFun cal_gcd hg h.m_gcd ha (by decide) he hpl
omit h in
theorem i_seq {X : Cx} {W : WX} {ms : List Mode} {a : Expr} {ga : G} {p p1 p2 p3 pos : Pos} {x1} (h : Fx X.K X.mg T) (ha : SE X T W ms a ga) (hg : Gl X "isinstance" := by rfl) (hg1 : Gl X "list" := by rfl) (hg2 : Gl X "tuple" := by rfl)
    (h1 : starEach [.Name "list" p1, .Name "tuple" p2] X.env = (false, eval (.Name "list" p1) X.env) :: starEach [.Name "tuple" p2] X.env := by rfl) (h2 : starEach [.Name "tuple" p2] X.env = (false, eval (.Name "tuple" p2) X.env) :: starEach [] X.env := by rfl)
    (he : starEach [a, .Tuple [.Name "list" p1, .Name "tuple" p2] x1 p3] X.env = (false, eval a X.env) :: starEach [.Tuple [.Name "list" p1, .Name "tuple" p2] x1 p3] X.env := by rfl)
    (he2 : starEach [.Tuple [.Name "list" p1, .Name "tuple" p2] x1 p3] X.env = (false, eval (.Tuple [.Name "list" p1, .Name "tuple" p2] x1 p3) X.env) :: starEach [] X.env := by rfl) (hpl : (backTo pos (starEach [.Tuple [.Name "list" p1, .Name "tuple" p2] x1 p3] X.env)).any (·.1) = false := by rfl) :
    SE X T W ms (.Call (.Name "isinstance" p) [a, .Tuple [.Name "list" p1, .Name "tuple" p2] x1 p3] [] pos) (gIsi hI_seq ga) :=
  se_isiT h.hK (h.k_seq _ rfl) (fun c fs z => match c, z with
    | 0, _ => h.cls0 _ rfl
    | 1, _ => h.cls1 _ rfl) (cvs := [.ty "list", .ty "tuple"]) (.cons (.ty _) (.cons (.ty _) .nil)) (by decide) ha (PA.imp (pa_cons (pe_bltn hg1 h.m_list (u := .type "list") (v := .ty "list") (by decide +kernel) rfl) (pa_cons (pe_bltn hg2 h.m_tuple (u := .type "tuple") (v := .ty "tuple") (by decide +kernel) rfl) pa_nil h2) h1) fun _ _ _ q => q) hg h.m_isi he he2 hpl
omit h in
theorem b_all {X : Cx} {W : WX} {ms : List Mode} {a : Expr} {gs : GA} {p pos : Pos} (h : Fx X.K X.mg T) (ha : SA X T W ms [a] gs) (hc : X.calm = true := by rfl) (hg : Gl X "all" := by rfl) (he : starEach [a] X.env = (false, eval a X.env) :: starEach [] X.env := by rfl) (hpl : (backTo pos (starEach [] X.env)).any (·.1) = false := by rfl) :
    SE X T W ms (.Call (.Name "all" p) [a] [] pos) (gF dAll gs) := se_callB (cal_all h.hK hc) hg h.m_all (by decide +kernel) ha (by decide) (by decide) he hpl
omit h in
theorem b_list {X : Cx} {W : WX} {ms : List Mode} {a : Expr} {gs : GA} {p pos : Pos} (h : Fx X.K X.mg T) (ha : SA X T W ms [a] gs) (hg : Gl X "list" := by rfl) (he : starEach [a] X.env = (false, eval a X.env) :: starEach [] X.env := by rfl) (hpl : (backTo pos (starEach [] X.env)).any (·.1) = false := by rfl) :
    SP' X T W ms (.own .sh) (.Call (.Name "list" p) [a] [] pos) (gFP dList gs) := sp_callTy (cal_list h.hK) hg h.m_list (by decide +kernel) ha (by decide) (by decide) he hpl
omit h in
theorem n_MOST_SERVERS {X : Cx} {W : WX} {ms : List Mode} {p : Pos} (h : Fx X.K X.mg T) (hg : Gl X "MOST_SERVERS" := by rfl) : SE X T W ms (.Name "MOST_SERVERS" p) (gC (.int 4)) := by
  obtain ⟨t, z⟩ := h.k_MOST_SERVERS
  exact se_glob (v := .int 4) hg z ⟨t, rfl⟩ (fun _ => by unfold Rep; rfl)
omit h in
theorem n_MOST_JOBS {X : Cx} {W : WX} {ms : List Mode} {p : Pos} (h : Fx X.K X.mg T) (hg : Gl X "MOST_JOBS" := by rfl) : SE X T W ms (.Name "MOST_JOBS" p) (gC (.int 6)) := by
  obtain ⟨t, z⟩ := h.k_MOST_JOBS
  exact se_glob (v := .int 6) hg z ⟨t, rfl⟩ (fun _ => by unfold Rep; rfl)
omit h in
theorem oMod_i {X : Cx} (_ : Fx K mg T) {n : Nat} (_ : Room n X.A) : OpS X T (binaryOp .Mod) hMod_i := ops_intC op_mod (fun i j z => (of_decide_eq_true z : 0 < j)) fun _ _ _ => by unfold Rep; rfl
omit h in
theorem oPow_i {X : Cx} (_ : Fx K mg T) {n : Nat} (_ : Room n X.A) : OpS X T (binaryOp .Pow) hPow_i := ops_intC op_pow (fun i j z => (of_decide_eq_true z : 0 ≤ j ∧ j ≤ 1000000 ∧ i.natAbs < 2 ^ 64)) fun _ _ _ => by unfold Rep; rfl
omit h in
theorem b_int {X : Cx} {W : WX} {ms : List Mode} {a : Expr} {gs : GA} {p pos : Pos} (h : Fx X.K X.mg T) (ha : SA X T W ms [a] gs) (hg : Gl X "int" := by rfl) (he : starEach [a] X.env = (false, eval a X.env) :: starEach [] X.env := by rfl) (hpl : (backTo pos (starEach [] X.env)).any (·.1) = false := by rfl) :
    SE X T W ms (.Call (.Name "int" p) [a] [] pos) (gF dInt gs) := se_callTy cal_int hg h.m_int (by decide +kernel) ha (by decide) (by decide) he hpl
omit h in
theorem b_abs {X : Cx} {W : WX} {ms : List Mode} {a : Expr} {gs : GA} {p pos : Pos} (h : Fx X.K X.mg T) (ha : SA X T W ms [a] gs) (hg : Gl X "abs" := by rfl) (he : starEach [a] X.env = (false, eval a X.env) :: starEach [] X.env := by rfl) (hpl : (backTo pos (starEach [] X.env)).any (·.1) = false := by rfl) :
    SE X T W ms (.Call (.Name "abs" p) [a] [] pos) (gF dAbs gs) := se_callB cal_abs hg h.m_abs (by decide +kernel) ha (by decide) (by decide) he hpl
omit h in
theorem b_max {X : Cx} {W : WX} {ms : List Mode} {a b : Expr} {gs : GA} {p pos : Pos} (h : Fx X.K X.mg T) (ha : SA X T W ms [a, b] gs) (hc : X.calm = true := by rfl) (hg : Gl X "max" := by rfl) (he : starEach [a, b] X.env = (false, eval a X.env) :: starEach [b] X.env := by rfl) (hpl : (backTo pos (starEach [b] X.env)).any (·.1) = false := by rfl) :
    SE X T W ms (.Call (.Name "max" p) [a, b] [] pos) (gF dMax2 gs) := se_callB (cal_max2 hc) hg h.m_max (by decide +kernel) ha (by decide) (by decide) he hpl
omit h in
theorem b_min {X : Cx} {W : WX} {ms : List Mode} {a b : Expr} {gs : GA} {p pos : Pos} (h : Fx X.K X.mg T) (ha : SA X T W ms [a, b] gs) (hc : X.calm = true := by rfl) (hg : Gl X "min" := by rfl) (he : starEach [a, b] X.env = (false, eval a X.env) :: starEach [b] X.env := by rfl) (hpl : (backTo pos (starEach [b] X.env)).any (·.1) = false := by rfl) :
    SE X T W ms (.Call (.Name "min" p) [a, b] [] pos) (gF dMin2 gs) := se_callB (cal_min2 hc) hg h.m_min (by decide +kernel) ha (by decide) (by decide) he hpl
omit h in
theorem b_tuple {X : Cx} {W : WX} {ms : List Mode} {a : Expr} {gs : GA} {p pos : Pos} (h : Fx X.K X.mg T) (ha : SA X T W ms [a] gs) (hg : Gl X "tuple" := by rfl) (he : starEach [a] X.env = (false, eval a X.env) :: starEach [] X.env := by rfl) (hpl : (backTo pos (starEach [] X.env)).any (·.1) = false := by rfl) :
    SE X T W ms (.Call (.Name "tuple" p) [a] [] pos) (gF dTuple gs) := se_callTy (cal_tuple h.hK) hg h.m_tuple (by decide +kernel) ha (by decide) (by decide) he hpl
omit h in
theorem i_dict {X : Cx} {W : WX} {ms : List Mode} {a : Expr} {ga : G} {p p2 pos : Pos} (h : Fx X.K X.mg T) (ha : SE X T W ms a ga) (hg : Gl X "isinstance" := by rfl) (hg2 : Gl X "dict" := by rfl)
    (he : starEach [a, .Name "dict" p2] X.env = (false, eval a X.env) :: starEach [.Name "dict" p2] X.env := by rfl) (he2 : starEach [.Name "dict" p2] X.env = (false, eval (.Name "dict" p2) X.env) :: starEach [] X.env := by rfl) (hpl : (backTo pos (starEach [.Name "dict" p2] X.env)).any (·.1) = false := by rfl) :
    SE X T W ms (.Call (.Name "isinstance" p) [a, .Name "dict" p2] [] pos) (gIsi hI_dict ga) := se_isi h.hK (h.k_dict _ rfl) (fun c fs z => match c, z with
    | 0, _ => h.cls0 _ rfl
    | 1, _ => h.cls1 _ rfl) (.ty "dict") ha (pe_bltn hg2 h.m_dict (u := .type "dict") (by decide +kernel) rfl) hg h.m_isi he he2 hpl
omit h in
theorem i_list {X : Cx} {W : WX} {ms : List Mode} {a : Expr} {ga : G} {p p2 pos : Pos} (h : Fx X.K X.mg T) (ha : SE X T W ms a ga) (hg : Gl X "isinstance" := by rfl) (hg2 : Gl X "list" := by rfl)
    (he : starEach [a, .Name "list" p2] X.env = (false, eval a X.env) :: starEach [.Name "list" p2] X.env := by rfl) (he2 : starEach [.Name "list" p2] X.env = (false, eval (.Name "list" p2) X.env) :: starEach [] X.env := by rfl) (hpl : (backTo pos (starEach [.Name "list" p2] X.env)).any (·.1) = false := by rfl) :
    SE X T W ms (.Call (.Name "isinstance" p) [a, .Name "list" p2] [] pos) (gIsi hI_list ga) := se_isi h.hK (h.k_list _ rfl) (fun c fs z => match c, z with
    | 0, _ => h.cls0 _ rfl
    | 1, _ => h.cls1 _ rfl) (.ty "list") ha (pe_bltn hg2 h.m_list (u := .type "list") (by decide +kernel) rfl) hg h.m_isi he he2 hpl
omit h in
theorem b_repr {X : Cx} {W : WX} {ms : List Mode} {a : Expr} {gs : GA} {p pos : Pos} (h : Fx X.K X.mg T) (ha : SA X T W ms [a] gs) (hg : Gl X "repr" := by rfl) (he : starEach [a] X.env = (false, eval a X.env) :: starEach [] X.env := by rfl) (hpl : (backTo pos (starEach [] X.env)).any (·.1) = false := by rfl) :
    SE X T W ms (.Call (.Name "repr" p) [a] [] pos) (gF dRepr gs) := se_callB cal_repr hg h.m_repr (by decide +kernel) ha (by decide) (by decide) he hpl

def g_is_int : GS := (gRet (gAndV (gIsi hI_int (gVar 0)) (gNotV (gIsi hI_bool (gVar 0)))))
def G_is_int : G := gFun [] 1 g_is_int
theorem ok_is_int : FnOk P w K mg base (L2N.CX P w) 1 h.a_is_int h.d_is_int ["value"] (spS T [] 1 G_is_int) :=
  fun_tl h.F_is_int sc_is_int [] (by decide) (ms' := [.sh]) rfl fun cdv A outer s H E vs env0 hr jo =>
    (sb_one (ss_ret ⟨jo.len, jo.lo⟩ rfl (pmOk_get rfl) (se_and (i_int h (se_var 0)) (se_one (se_not (i_bool h (se_var 0))))) rfl))
theorem bd_is_int : Binds K h.d_is_int ["value"] [] := h.F_is_int.binds (ps := ["value"]) fun _ _ _ _ _ _ us hl => match us, hl with | [_], _ => rfl
theorem cd_is_int {X : Cx} (e1 : X.prog = P) (e2 : X.w = w) (e3 : X.K = K) (e4 : X.mg = mg) (e5 : X.base = base) : CalD X 1 "is_int" [] (spS T [] 1 G_is_int) := by
  subst e1 e2 e3 e4 e5
  exact ⟨⟨h.a_is_int, h.d_is_int, _, [], h.m_is_int, h.F_is_int.kp, bd_is_int h, .nil, ok_is_int h⟩⟩
def g_Ratiodd_initdd : GS := (gSeq (gIf (gTest (g2 hEq_i (gVar 2) (gC (.int 0)))) (gRaise0 2) gNext)
    (gSeq (gSet 3 (gF dGcd (gCons (gVar 1) (gCons (gVar 2) gNil))))
    (gSeq (gIf (gTest (g2 hLt_i (gVar 2) (gC (.int 0)))) (gSet 3 (g1 hNeg_i (gVar 3))) gNext)
    (gSeq (gFldSet 0 0 0 (g2 hFdiv_i (gVar 1) (gVar 3)))
    (gFldSet 0 0 1 (g2 hFdiv_i (gVar 2) (gVar 3)))))))
def G_Ratiodd_initdd : G := gFun [.part] 4 g_Ratiodd_initdd
theorem ok_Ratiodd_initdd : FnOk P w K mg base (L2N.CX P w) 1 h.a_Ratiodd_initdd h.d_Ratiodd_initdd ["self", "top", "bottom"] (spS T [.part] 3 G_Ratiodd_initdd) :=
  fun_tlD h.F_Ratiodd_initdd sc_Ratiodd_initdd [.part] (by decide) (ms' := [.part, .sh, .sh, .sh]) rfl fun cdv A outer s H E vs env0 hr jo =>
    (sb_cons (ss_if (st_cmp (oEq_i h hr) (se_var 2) se_int) (sb_one (ss_raise0 (rn_ByZero h rfl rfl) rfl (L2N.takes_of rfl rfl rfl rfl) rfl rfl)) sb_nil rfl)
    (sb_cons (ss_set 3 (b_gcd h (sa_cons (se_var 1) (sa_cons (se_var 2) sa_nil))) sc_Ratiodd_initdd.nd rfl (.inl rfl) rfl)
    (sb_cons (ss_if (st_cmp (oLt_i h hr) (se_var 2) se_int) (sb_one (ss_set 3 (se_un (oNeg_i h hr) (se_var 3)) sc_Ratiodd_initdd.nd rfl (.inl rfl) rfl)) sb_nil rfl)
    (sb_cons (ss_fld 0 0 0 (h.cls0 _ rfl) rfl (by rw [show (jOf T _ _ _ _ _).T = T from rfl, h.fl0]; rfl) (se_op (oFdiv_i h hr) (se_var 1) (se_var 3)) rfl)
    (sb_one (ss_fld 0 0 1 (h.cls0 _ rfl) rfl (by rw [show (jOf T _ _ _ _ _).T = T from rfl, h.fl0]; rfl) (se_op (oFdiv_i h hr) (se_var 2) (se_var 3)) rfl))))))
theorem mk_Ratiodd_initdd {X : Cx} (e1 : X.prog = P) (e2 : X.w = w) (e3 : X.K = K) (e4 : X.mg = mg) (e5 : X.base = base) : MakD X T 1 "Ratio" 0 [] (spS T [.part] 3 G_Ratiodd_initdd) := by
  subst e1 e2 e3 e4 e5
  exact ⟨⟨h.a_Ratiodd_initdd, h.d_Ratiodd_initdd, _, [], h.mc0, h.M_Ratiodd_initdd, h.b_Ratiodd_initdd, .nil, ok_Ratiodd_initdd h⟩⟩
theorem mk_Ratiodd_initdd_1 {X : Cx} (e1 : X.prog = P) (e2 : X.w = w) (e3 : X.K = K) (e4 : X.mg = mg) (e5 : X.base = base) : MakD X T 1 "Ratio" 0 [V.int 1] (spS T [.part] 3 G_Ratiodd_initdd) := by
  subst e1 e2 e3 e4 e5
  obtain ⟨ds, z1, z2⟩ := h.B_Ratiodd_initdd
  exact ⟨⟨h.a_Ratiodd_initdd, h.d_Ratiodd_initdd, _, ds, h.mc0, h.M_Ratiodd_initdd, z2, z1, ok_Ratiodd_initdd h⟩⟩
def g_is_number : GS := (gRet (gOrV (gIsi hI_Ratio (gVar 0)) (gCall G_is_int [] (gCons (gVar 0) gNil))))
def G_is_number : G := gFun [] 1 g_is_number
theorem ok_is_number : FnOk P w K mg base (L2N.CX P w) 2 h.a_is_number h.d_is_number ["value"] (spS T [] 1 G_is_number) :=
  fun_tl h.F_is_number sc_is_number [] (by decide) (ms' := [.sh]) rfl fun cdv A outer s H E vs env0 hr jo =>
    (sb_one (ss_ret ⟨jo.len, jo.lo⟩ rfl (pmOk_get rfl) (se_or (i_Ratio h (se_var 0)) (se_one (se_call (c := 1) (dds := []) (cd_is_int h rfl rfl rfl rfl rfl) (hr.mono (by decide)) (L2N.takes_of rfl rfl rfl rfl) rfl (fun _ => RepL.nil) (sa_cons (se_var 0) sa_nil) (cnt_cons cnt_nil)))) rfl))
theorem bd_is_number : Binds K h.d_is_number ["value"] [] := h.F_is_number.binds (ps := ["value"]) fun _ _ _ _ _ _ us hl => match us, hl with | [_], _ => rfl
theorem cd_is_number {X : Cx} (e1 : X.prog = P) (e2 : X.w = w) (e3 : X.K = K) (e4 : X.mg = mg) (e5 : X.base = base) : CalD X 2 "is_number" [] (spS T [] 1 G_is_number) := by
  subst e1 e2 e3 e4 e5
  exact ⟨⟨h.a_is_number, h.d_is_number, _, [], h.m_is_number, h.F_is_number.kp, bd_is_number h, .nil, ok_is_number h⟩⟩
def g_as_ratio : GS := (gSeq (gIf (gTest (gIsi hI_Ratio (gVar 0))) (gRet (gVar 0)) gNext)
    (gSeq (gIf (gNot (gTest (gCall G_is_int [] (gCons (gVar 0) gNil)))) (gRaise1 4 "given" (gVar 0)) gNext)
    (gRet (gMake 0 2 G_Ratiodd_initdd [.int 1] (gCons (gVar 0) gNil)))))
def G_as_ratio : G := gFun [] 1 g_as_ratio
theorem ok_as_ratio : FnOk P w K mg base (L2N.CX P w) 3 h.a_as_ratio h.d_as_ratio ["given"] (spS T [] 1 G_as_ratio) :=
  fun_tl h.F_as_ratio sc_as_ratio [] (by decide) (ms' := [.sh]) rfl fun cdv A outer s H E vs env0 hr jo =>
    (sb_cons (ss_if (st_val (i_Ratio h (se_var 0))) (sb_one (ss_ret ⟨jo.len, jo.lo⟩ rfl (pmOk_get rfl) (se_var 0) rfl)) sb_nil rfl)
    (sb_cons (ss_if (st_not (st_val (se_call (c := 1) (dds := []) (cd_is_int h rfl rfl rfl rfl rfl) (hr.mono (by decide)) (L2N.takes_of rfl rfl rfl rfl) rfl (fun _ => RepL.nil) (sa_cons (se_var 0) sa_nil) (cnt_cons cnt_nil)))) (sb_one (ss_raise1 (rd_BadNumber h (P := P) (w := w) (base := base) rfl rfl rfl rfl rfl) (hr.mono (by decide)) rfl (L2N.takes_of rfl rfl rfl rfl) rfl (se_var 0) rfl)) sb_nil rfl)
    (sb_one (ss_ret ⟨jo.len, jo.lo⟩ rfl (pmOk_get rfl) (SP'.sh rfl (sp_make (cnt := 1) (dds := [.int 1]) (mk_Ratiodd_initdd_1 h rfl rfl rfl rfl rfl) (hr.mono (by decide)) (L2N.takes_of rfl rfl rfl rfl) rfl (by rw [h.fl0]; rfl) (fun _ => RepL.one (by unfold Rep; rfl)) (sa_cons (se_var 0) sa_nil) (cnt_cons cnt_nil))) rfl))))
theorem bd_as_ratio : Binds K h.d_as_ratio ["given"] [] := h.F_as_ratio.binds (ps := ["given"]) fun _ _ _ _ _ _ us hl => match us, hl with | [_], _ => rfl
theorem cd_as_ratio {X : Cx} (e1 : X.prog = P) (e2 : X.w = w) (e3 : X.K = K) (e4 : X.mg = mg) (e5 : X.base = base) : CalD X 3 "as_ratio" [] (spS T [] 1 G_as_ratio) := by
  subst e1 e2 e3 e4 e5
  exact ⟨⟨h.a_as_ratio, h.d_as_ratio, _, [], h.m_as_ratio, h.F_as_ratio.kp, bd_as_ratio h, .nil, ok_as_ratio h⟩⟩
def g_Ratio_top : GS := (gRet (gFld 0 0 (gVar 0)))
def G_Ratio_top : G := gFun [] 1 g_Ratio_top
theorem okB_Ratio_top : FnB P w K mg base 1 h.a_Ratio_top h.d_Ratio_top ["self"] (spS T [] 1 G_Ratio_top) :=
  fun_tlB h.F_Ratio_top sc_Ratio_top [] (by decide) (ms' := [.sh]) rfl fun cdv A outer s H E vs env0 calm pn am jo =>
    (sb_one (ss_ret ⟨jo.len, jo.lo⟩ rfl (pmOk_get rfl) (se_fld (h.cls0 _ rfl) (by rw [h.fl0]; rfl) (se_var 0)) rfl))
theorem ok_Ratio_top : FnOk P w K mg base (L2N.CX P w) 1 h.a_Ratio_top h.d_Ratio_top ["self"] (spS T [] 1 G_Ratio_top) := (okB_Ratio_top h).ok
theorem bd_Ratio_top : Binds K h.d_Ratio_top ["self"] [] := h.F_Ratio_top.binds (ps := ["self"]) fun _ _ _ _ _ _ us hl => match us, hl with | [_], _ => rfl
theorem pdB_Ratio_top {X : Cx} (e1 : X.prog = P) (e2 : X.w = w) (e3 : X.K = K) (e4 : X.mg = mg) (e5 : X.base = base) : PrpB X T 1 0 "top" (spS T [] 1 G_Ratio_top) := by
  subst e1 e2 e3 e4 e5
  exact ⟨⟨h.q_Ratio_top, h.a_Ratio_top, h.d_Ratio_top, _, h.p_Ratio_top, bd_Ratio_top h, okB_Ratio_top h⟩⟩
theorem pd_Ratio_top {X : Cx} (e1 : X.prog = P) (e2 : X.w = w) (e3 : X.K = K) (e4 : X.mg = mg) (e5 : X.base = base) : PrpD X T 1 0 "top" (spS T [] 1 G_Ratio_top) := by
  subst e1 e2 e3 e4 e5
  exact ⟨⟨h.q_Ratio_top, h.a_Ratio_top, h.d_Ratio_top, _, h.p_Ratio_top, bd_Ratio_top h, ok_Ratio_top h⟩⟩
def g_Ratio_bottom : GS := (gRet (gFld 0 1 (gVar 0)))
def G_Ratio_bottom : G := gFun [] 1 g_Ratio_bottom
theorem okB_Ratio_bottom : FnB P w K mg base 1 h.a_Ratio_bottom h.d_Ratio_bottom ["self"] (spS T [] 1 G_Ratio_bottom) :=
  fun_tlB h.F_Ratio_bottom sc_Ratio_bottom [] (by decide) (ms' := [.sh]) rfl fun cdv A outer s H E vs env0 calm pn am jo =>
    (sb_one (ss_ret ⟨jo.len, jo.lo⟩ rfl (pmOk_get rfl) (se_fld (h.cls0 _ rfl) (by rw [h.fl0]; rfl) (se_var 0)) rfl))
theorem ok_Ratio_bottom : FnOk P w K mg base (L2N.CX P w) 1 h.a_Ratio_bottom h.d_Ratio_bottom ["self"] (spS T [] 1 G_Ratio_bottom) := (okB_Ratio_bottom h).ok
theorem bd_Ratio_bottom : Binds K h.d_Ratio_bottom ["self"] [] := h.F_Ratio_bottom.binds (ps := ["self"]) fun _ _ _ _ _ _ us hl => match us, hl with | [_], _ => rfl
theorem pdB_Ratio_bottom {X : Cx} (e1 : X.prog = P) (e2 : X.w = w) (e3 : X.K = K) (e4 : X.mg = mg) (e5 : X.base = base) : PrpB X T 1 0 "bottom" (spS T [] 1 G_Ratio_bottom) := by
  subst e1 e2 e3 e4 e5
  exact ⟨⟨h.q_Ratio_bottom, h.a_Ratio_bottom, h.d_Ratio_bottom, _, h.p_Ratio_bottom, bd_Ratio_bottom h, okB_Ratio_bottom h⟩⟩
theorem pd_Ratio_bottom {X : Cx} (e1 : X.prog = P) (e2 : X.w = w) (e3 : X.K = K) (e4 : X.mg = mg) (e5 : X.base = base) : PrpD X T 1 0 "bottom" (spS T [] 1 G_Ratio_bottom) := by
  subst e1 e2 e3 e4 e5
  exact ⟨⟨h.q_Ratio_bottom, h.a_Ratio_bottom, h.d_Ratio_bottom, _, h.p_Ratio_bottom, bd_Ratio_bottom h, ok_Ratio_bottom h⟩⟩
def g_Ratiodd_adddd : GS := (gSeq (gSet 2 (gCall G_as_ratio [] (gCons (gVar 1) gNil)))
    (gSeq (gSet 3 (g2 hAdd_i (g2 hMul_i (gFld 0 0 (gVar 0)) (gFld 0 1 (gVar 2))) (g2 hMul_i (gFld 0 0 (gVar 2)) (gFld 0 1 (gVar 0)))))
    (gRet (gMake 0 2 G_Ratiodd_initdd [] (gCons (gVar 3) (gCons (g2 hMul_i (gFld 0 1 (gVar 0)) (gFld 0 1 (gVar 2))) gNil))))))
def G_Ratiodd_adddd : G := gFun [] 4 g_Ratiodd_adddd
theorem ok_Ratiodd_adddd : FnOk P w K mg base (L2N.CX P w) 4 h.a_Ratiodd_adddd h.d_Ratiodd_adddd ["self", "other"] (spS T [] 2 G_Ratiodd_adddd) :=
  fun_tl h.F_Ratiodd_adddd sc_Ratiodd_adddd [] (by decide) (ms' := [.sh, .sh, .sh, .sh]) rfl fun cdv A outer s H E vs env0 hr jo =>
    (sb_cons (ss_set 2 (se_call (c := 1) (dds := []) (cd_as_ratio h rfl rfl rfl rfl rfl) (hr.mono (by decide)) (L2N.takes_of rfl rfl rfl rfl) rfl (fun _ => RepL.nil) (sa_cons (se_var 1) sa_nil) (cnt_cons cnt_nil)) sc_Ratiodd_adddd.nd rfl (.inl rfl) rfl)
    (sb_cons (ss_set 3 (se_op (oAdd_i h hr) (se_op (oMul_i h hr) (se_fld (h.cls0 _ rfl) (by rw [h.fl0]; rfl) (se_var 0)) (se_fld (h.cls0 _ rfl) (by rw [h.fl0]; rfl) (se_var 2))) (se_op (oMul_i h hr) (se_fld (h.cls0 _ rfl) (by rw [h.fl0]; rfl) (se_var 2)) (se_fld (h.cls0 _ rfl) (by rw [h.fl0]; rfl) (se_var 0)))) sc_Ratiodd_adddd.nd rfl (.inl rfl) rfl)
    (sb_one (ss_ret ⟨jo.len, jo.lo⟩ rfl (pmOk_get rfl) (SP'.sh rfl (sp_make (cnt := 2) (dds := []) (mk_Ratiodd_initdd h rfl rfl rfl rfl rfl) (hr.mono (by decide)) (L2N.takes_of rfl rfl rfl rfl) rfl (by rw [h.fl0]; rfl) (fun _ => RepL.nil) (sa_cons (se_var 3) (sa_cons (se_op (oMul_i h hr) (se_fld (h.cls0 _ rfl) (by rw [h.fl0]; rfl) (se_var 0)) (se_fld (h.cls0 _ rfl) (by rw [h.fl0]; rfl) (se_var 2))) sa_nil)) (cnt_cons (cnt_cons cnt_nil)))) rfl))))
theorem bd_Ratiodd_adddd : Binds K h.d_Ratiodd_adddd ["self", "other"] [] := h.F_Ratiodd_adddd.binds (ps := ["self", "other"]) fun _ _ _ _ _ _ us hl => match us, hl with | [_, _], _ => rfl
theorem od_Ratiodd_adddd {X : Cx} (e1 : X.prog = P) (e2 : X.w = w) (e3 : X.K = K) (e4 : X.mg = mg) (e5 : X.base = base) : OpD X T 4 0 "__add__" (spS T [] 2 G_Ratiodd_adddd) := by
  subst e1 e2 e3 e4 e5
  exact ⟨⟨h.a_Ratiodd_adddd, h.d_Ratiodd_adddd, _, h.s_Ratiodd_adddd, h.i_Ratiodd_adddd, bd_Ratiodd_adddd h, ok_Ratiodd_adddd h⟩⟩
def hAdd_o : D → D → Option D := dOwn 0 G_Ratiodd_adddd
theorem oAdd_o {X : Cx} (e1 : X.prog = P) (e2 : X.w = w) (e3 : X.K = K) (e4 : X.mg = mg) (e5 : X.base = base) (hr : Room 4 X.A) : OpS X T (binaryOp .Add) hAdd_o := by
  subst e1 e2 e3 e4 e5
  exact ops_own h.sf0 (od_Ratiodd_adddd h rfl rfl rfl rfl rfl) hr

def g_Ratiodd_negdd : GS := (gRet (gMake 0 2 G_Ratiodd_initdd [] (gCons (g1 hNeg_i (gFld 0 0 (gVar 0))) (gCons (gFld 0 1 (gVar 0)) gNil))))
def G_Ratiodd_negdd : G := gFun [] 1 g_Ratiodd_negdd
theorem ok_Ratiodd_negdd : FnOk P w K mg base (L2N.CX P w) 3 h.a_Ratiodd_negdd h.d_Ratiodd_negdd ["self"] (spS T [] 1 G_Ratiodd_negdd) :=
  fun_tl h.F_Ratiodd_negdd sc_Ratiodd_negdd [] (by decide) (ms' := [.sh]) rfl fun cdv A outer s H E vs env0 hr jo =>
    (sb_one (ss_ret ⟨jo.len, jo.lo⟩ rfl (pmOk_get rfl) (SP'.sh rfl (sp_make (cnt := 2) (dds := []) (mk_Ratiodd_initdd h rfl rfl rfl rfl rfl) (hr.mono (by decide)) (L2N.takes_of rfl rfl rfl rfl) rfl (by rw [h.fl0]; rfl) (fun _ => RepL.nil) (sa_cons (se_un (oNeg_i h hr) (se_fld (h.cls0 _ rfl) (by rw [h.fl0]; rfl) (se_var 0))) (sa_cons (se_fld (h.cls0 _ rfl) (by rw [h.fl0]; rfl) (se_var 0)) sa_nil)) (cnt_cons (cnt_cons cnt_nil)))) rfl))
theorem bd_Ratiodd_negdd : Binds K h.d_Ratiodd_negdd ["self"] [] := h.F_Ratiodd_negdd.binds (ps := ["self"]) fun _ _ _ _ _ _ us hl => match us, hl with | [_], _ => rfl
theorem od_Ratiodd_negdd {X : Cx} (e1 : X.prog = P) (e2 : X.w = w) (e3 : X.K = K) (e4 : X.mg = mg) (e5 : X.base = base) : OpD X T 3 0 "__neg__" (spS T [] 1 G_Ratiodd_negdd) := by
  subst e1 e2 e3 e4 e5
  exact ⟨⟨h.a_Ratiodd_negdd, h.d_Ratiodd_negdd, _, h.s_Ratiodd_negdd, h.i_Ratiodd_negdd, bd_Ratiodd_negdd h, ok_Ratiodd_negdd h⟩⟩
def hNeg_o : D → Option D := dOwn1 0 G_Ratiodd_negdd
theorem oNeg_o {X : Cx} (e1 : X.prog = P) (e2 : X.w = w) (e3 : X.K = K) (e4 : X.mg = mg) (e5 : X.base = base) (hr : Room 3 X.A) : UnS X T (unaryOp .USub) hNeg_o := by
  subst e1 e2 e3 e4 e5
  exact uns_neg (od_Ratiodd_negdd h rfl rfl rfl rfl rfl) hr

def g_Ratiodd_subdd : GS := (gRet (g2 hAdd_o (gVar 0) (g1 hNeg_o (gCall G_as_ratio [] (gCons (gVar 1) gNil)))))
def G_Ratiodd_subdd : G := gFun [] 2 g_Ratiodd_subdd
theorem ok_Ratiodd_subdd : FnOk P w K mg base (L2N.CX P w) 5 h.a_Ratiodd_subdd h.d_Ratiodd_subdd ["self", "other"] (spS T [] 2 G_Ratiodd_subdd) :=
  fun_tl h.F_Ratiodd_subdd sc_Ratiodd_subdd [] (by decide) (ms' := [.sh, .sh]) rfl fun cdv A outer s H E vs env0 hr jo =>
    (sb_one (ss_ret ⟨jo.len, jo.lo⟩ rfl (pmOk_get rfl) (se_op (oAdd_o h rfl rfl rfl rfl rfl (hr.mono (by decide))) (se_var 0) (se_un (oNeg_o h rfl rfl rfl rfl rfl (hr.mono (by decide))) (se_call (c := 1) (dds := []) (cd_as_ratio h rfl rfl rfl rfl rfl) (hr.mono (by decide)) (L2N.takes_of rfl rfl rfl rfl) rfl (fun _ => RepL.nil) (sa_cons (se_var 1) sa_nil) (cnt_cons cnt_nil)))) rfl))
theorem bd_Ratiodd_subdd : Binds K h.d_Ratiodd_subdd ["self", "other"] [] := h.F_Ratiodd_subdd.binds (ps := ["self", "other"]) fun _ _ _ _ _ _ us hl => match us, hl with | [_, _], _ => rfl
theorem od_Ratiodd_subdd {X : Cx} (e1 : X.prog = P) (e2 : X.w = w) (e3 : X.K = K) (e4 : X.mg = mg) (e5 : X.base = base) : OpD X T 5 0 "__sub__" (spS T [] 2 G_Ratiodd_subdd) := by
  subst e1 e2 e3 e4 e5
  exact ⟨⟨h.a_Ratiodd_subdd, h.d_Ratiodd_subdd, _, h.s_Ratiodd_subdd, h.i_Ratiodd_subdd, bd_Ratiodd_subdd h, ok_Ratiodd_subdd h⟩⟩
def g_Ratiodd_muldd : GS := (gSeq (gSet 2 (gCall G_as_ratio [] (gCons (gVar 1) gNil)))
    (gRet (gMake 0 2 G_Ratiodd_initdd [] (gCons (g2 hMul_i (gFld 0 0 (gVar 0)) (gFld 0 0 (gVar 2))) (gCons (g2 hMul_i (gFld 0 1 (gVar 0)) (gFld 0 1 (gVar 2))) gNil)))))
def G_Ratiodd_muldd : G := gFun [] 3 g_Ratiodd_muldd
theorem ok_Ratiodd_muldd : FnOk P w K mg base (L2N.CX P w) 4 h.a_Ratiodd_muldd h.d_Ratiodd_muldd ["self", "other"] (spS T [] 2 G_Ratiodd_muldd) :=
  fun_tl h.F_Ratiodd_muldd sc_Ratiodd_muldd [] (by decide) (ms' := [.sh, .sh, .sh]) rfl fun cdv A outer s H E vs env0 hr jo =>
    (sb_cons (ss_set 2 (se_call (c := 1) (dds := []) (cd_as_ratio h rfl rfl rfl rfl rfl) (hr.mono (by decide)) (L2N.takes_of rfl rfl rfl rfl) rfl (fun _ => RepL.nil) (sa_cons (se_var 1) sa_nil) (cnt_cons cnt_nil)) sc_Ratiodd_muldd.nd rfl (.inl rfl) rfl)
    (sb_one (ss_ret ⟨jo.len, jo.lo⟩ rfl (pmOk_get rfl) (SP'.sh rfl (sp_make (cnt := 2) (dds := []) (mk_Ratiodd_initdd h rfl rfl rfl rfl rfl) (hr.mono (by decide)) (L2N.takes_of rfl rfl rfl rfl) rfl (by rw [h.fl0]; rfl) (fun _ => RepL.nil) (sa_cons (se_op (oMul_i h hr) (se_fld (h.cls0 _ rfl) (by rw [h.fl0]; rfl) (se_var 0)) (se_fld (h.cls0 _ rfl) (by rw [h.fl0]; rfl) (se_var 2))) (sa_cons (se_op (oMul_i h hr) (se_fld (h.cls0 _ rfl) (by rw [h.fl0]; rfl) (se_var 0)) (se_fld (h.cls0 _ rfl) (by rw [h.fl0]; rfl) (se_var 2))) sa_nil)) (cnt_cons (cnt_cons cnt_nil)))) rfl)))
theorem bd_Ratiodd_muldd : Binds K h.d_Ratiodd_muldd ["self", "other"] [] := h.F_Ratiodd_muldd.binds (ps := ["self", "other"]) fun _ _ _ _ _ _ us hl => match us, hl with | [_, _], _ => rfl
theorem od_Ratiodd_muldd {X : Cx} (e1 : X.prog = P) (e2 : X.w = w) (e3 : X.K = K) (e4 : X.mg = mg) (e5 : X.base = base) : OpD X T 4 0 "__mul__" (spS T [] 2 G_Ratiodd_muldd) := by
  subst e1 e2 e3 e4 e5
  exact ⟨⟨h.a_Ratiodd_muldd, h.d_Ratiodd_muldd, _, h.s_Ratiodd_muldd, h.i_Ratiodd_muldd, bd_Ratiodd_muldd h, ok_Ratiodd_muldd h⟩⟩
def g_Ratiodd_eqdd : GS := (gSeq (gIf (gTest (gIsi hI_Ratio (gVar 1))) (gRet (gAndV (g2 hEq_i (gFld 0 0 (gVar 0)) (gFld 0 0 (gVar 1))) (g2 hEq_i (gFld 0 1 (gVar 0)) (gFld 0 1 (gVar 1))))) gNext)
    (gRet (gAndV (gCall G_is_int [] (gCons (gVar 1) gNil)) (gAndV (g2 hEq_i (gFld 0 0 (gVar 0)) (gVar 1)) (g2 hEq_i (gFld 0 1 (gVar 0)) (gC (.int 1)))))))
def G_Ratiodd_eqdd : G := gFun [] 2 g_Ratiodd_eqdd
theorem ok_Ratiodd_eqdd : FnOk P w K mg base (L2N.CX P w) 2 h.a_Ratiodd_eqdd h.d_Ratiodd_eqdd ["self", "other"] (spS T [] 2 G_Ratiodd_eqdd) :=
  fun_tl h.F_Ratiodd_eqdd sc_Ratiodd_eqdd [] (by decide) (ms' := [.sh, .sh]) rfl fun cdv A outer s H E vs env0 hr jo =>
    (sb_cons (ss_if (st_val (i_Ratio h (se_var 1))) (sb_one (ss_ret ⟨jo.len, jo.lo⟩ rfl (pmOk_get rfl) (se_and (se_cmp (oEq_i h hr) (se_fld (h.cls0 _ rfl) (by rw [h.fl0]; rfl) (se_var 0)) (se_fld (h.cls0 _ rfl) (by rw [h.fl0]; rfl) (se_var 1))) (se_one (se_cmp (oEq_i h hr) (se_fld (h.cls0 _ rfl) (by rw [h.fl0]; rfl) (se_var 0)) (se_fld (h.cls0 _ rfl) (by rw [h.fl0]; rfl) (se_var 1))))) rfl)) sb_nil rfl)
    (sb_one (ss_ret ⟨jo.len, jo.lo⟩ rfl (pmOk_get rfl) (se_and (se_call (c := 1) (dds := []) (cd_is_int h rfl rfl rfl rfl rfl) (hr.mono (by decide)) (L2N.takes_of rfl rfl rfl rfl) rfl (fun _ => RepL.nil) (sa_cons (se_var 1) sa_nil) (cnt_cons cnt_nil)) (se_and (se_cmp (oEq_i h hr) (se_fld (h.cls0 _ rfl) (by rw [h.fl0]; rfl) (se_var 0)) (se_var 1)) (se_one (se_cmp (oEq_i h hr) (se_fld (h.cls0 _ rfl) (by rw [h.fl0]; rfl) (se_var 0)) se_int)))) rfl)))
theorem bd_Ratiodd_eqdd : Binds K h.d_Ratiodd_eqdd ["self", "other"] [] := h.F_Ratiodd_eqdd.binds (ps := ["self", "other"]) fun _ _ _ _ _ _ us hl => match us, hl with | [_, _], _ => rfl
theorem od_Ratiodd_eqdd {X : Cx} (e1 : X.prog = P) (e2 : X.w = w) (e3 : X.K = K) (e4 : X.mg = mg) (e5 : X.base = base) : OpD X T 2 0 "__eq__" (spS T [] 2 G_Ratiodd_eqdd) := by
  subst e1 e2 e3 e4 e5
  exact ⟨⟨h.a_Ratiodd_eqdd, h.d_Ratiodd_eqdd, _, h.s_Ratiodd_eqdd, h.i_Ratiodd_eqdd, bd_Ratiodd_eqdd h, ok_Ratiodd_eqdd h⟩⟩
def okR : D → Bool
  | .obj 0 [.int _, .int _] => true
  | .obj 1 _ => true
  | .non => true
  | .bl _ => true
  | .int _ => true
  | .str _ => true
  | .lst _ => true
  | .tup _ => true
  | _ => false
def ownR : Nat → D → D → Option Bool := ownE okR 0 G_Ratiodd_eqdd
omit h in
theorem okR_of : ∀ e, okR e = true → (∃ i j, e = .obj 0 [.int i, .int j]) ∨ (∃ gs, e = .obj 1 gs) ∨ kdD e ≠ 0 := fun e z => by
  unfold okR at z
  split at z
  · exact .inl ⟨_, _, rfl⟩
  · exact .inr (.inl ⟨_, rfl⟩)
  all_goals first
    | exact absurd z Bool.false_ne_true
    | exact .inr (.inr (by simp [kdD]))
omit h in
theorem refl_R (i j : Int) : ans (G_Ratiodd_eqdd [some (.obj 0 [.int i, .int j]), some (.obj 0 [.int i, .int j])]) = some (.bl true) := by
  simp [ans, G_Ratiodd_eqdd, gFun, g_Ratiodd_eqdd, gSeq, gIf, gTest, gIsi, gVar, hI_Ratio, isPlainD, gRet, gAndV, gFld, g2, hEq_i, hEq_int, back]
theorem nfR {X : Cx} (e1 : X.prog = P) (e2 : X.w = w) (e3 : X.K = K) (e4 : X.mg = mg) (e5 : X.base = base) : ∀ y, okR y = true → ∃ t, tyD T y = some t ∧ PySem.W.notFirst X.K (T.cl 0) t = true := fun y z => by
  subst e1 e2 e3 e4 e5
  unfold okR at z
  split at z
  · exact ⟨_, rfl, h.nf00⟩
  · exact ⟨_, rfl, h.nf01⟩
  · exact ⟨_, rfl, h.nf0_NoneType⟩
  · exact ⟨_, rfl, h.nf0_bool⟩
  · exact ⟨_, rfl, h.nf0i⟩
  · exact ⟨_, rfl, h.nf0_str⟩
  · exact ⟨_, rfl, h.nf0_list⟩
  · exact ⟨_, rfl, h.nf0_tuple⟩
  · cases z
theorem OR {X : Cx} (e1 : X.prog = P) (e2 : X.w = w) (e3 : X.K = K) (e4 : X.mg = mg) (e5 : X.base = base) : OwnN X T 2 ownR := by
  have hn := nfR h e1 e2 e3 e4 e5
  subst e1 e2 e3 e4 e5
  have c0 : ∀ {c : Nat} {fs : List D} {d : D} {b : Bool}, ownR c (.obj c fs) d = some b → c = 0 := fun {c fs d b} z => by
    unfold ownR ownE at z
    split at z
    · rename_i q
      exact of_decide_eq_true (Bool.and_eq_true_iff.mp q).1
    · cases z
  exact ⟨⟨fun z => rc_own h.hK (od_Ratiodd_eqdd h rfl rfl rfl rfl rfl) hn z, fun I s r1 r2 ru z => by
    have e := c0 z
    subst e
    exact same_R h.hK okR_of h.h01 refl_R I s r1 r2 ru z⟩, fun z => rn_own h.hK (od_Ratiodd_eqdd h rfl rfl rfl rfl rfl) (h.cls0 _ rfl).cm h.ne0 hn z⟩
def hEq_r : D → D → Option D := hEq ownR 2
theorem oEq_r {X : Cx} (e1 : X.prog = P) (e2 : X.w = w) (e3 : X.K = K) (e4 : X.mg = mg) (e5 : X.base = base) (hr : Room 4 X.A) : OpS X T (compareOp .Eq) hEq_r := ops_eq (by rw [h.hK, e3]) (OR h e1 e2 e3 e4 e5).toOwnQ 2 hr

def g_Ratiodd_ltdd : GS := (gSeq (gSet 2 (gCall G_as_ratio [] (gCons (gVar 1) gNil)))
    (gRet (g2 hLt_i (g2 hMul_i (gFld 0 0 (gVar 0)) (gFld 0 1 (gVar 2))) (g2 hMul_i (gFld 0 0 (gVar 2)) (gFld 0 1 (gVar 0))))))
def G_Ratiodd_ltdd : G := gFun [] 3 g_Ratiodd_ltdd
theorem ok_Ratiodd_ltdd : FnOk P w K mg base (L2N.CX P w) 4 h.a_Ratiodd_ltdd h.d_Ratiodd_ltdd ["self", "other"] (spS T [] 2 G_Ratiodd_ltdd) :=
  fun_tl h.F_Ratiodd_ltdd sc_Ratiodd_ltdd [] (by decide) (ms' := [.sh, .sh, .sh]) rfl fun cdv A outer s H E vs env0 hr jo =>
    (sb_cons (ss_set 2 (se_call (c := 1) (dds := []) (cd_as_ratio h rfl rfl rfl rfl rfl) (hr.mono (by decide)) (L2N.takes_of rfl rfl rfl rfl) rfl (fun _ => RepL.nil) (sa_cons (se_var 1) sa_nil) (cnt_cons cnt_nil)) sc_Ratiodd_ltdd.nd rfl (.inl rfl) rfl)
    (sb_one (ss_ret ⟨jo.len, jo.lo⟩ rfl (pmOk_get rfl) (se_cmp (oLt_i h hr) (se_op (oMul_i h hr) (se_fld (h.cls0 _ rfl) (by rw [h.fl0]; rfl) (se_var 0)) (se_fld (h.cls0 _ rfl) (by rw [h.fl0]; rfl) (se_var 2))) (se_op (oMul_i h hr) (se_fld (h.cls0 _ rfl) (by rw [h.fl0]; rfl) (se_var 2)) (se_fld (h.cls0 _ rfl) (by rw [h.fl0]; rfl) (se_var 0)))) rfl)))
theorem bd_Ratiodd_ltdd : Binds K h.d_Ratiodd_ltdd ["self", "other"] [] := h.F_Ratiodd_ltdd.binds (ps := ["self", "other"]) fun _ _ _ _ _ _ us hl => match us, hl with | [_, _], _ => rfl
theorem od_Ratiodd_ltdd {X : Cx} (e1 : X.prog = P) (e2 : X.w = w) (e3 : X.K = K) (e4 : X.mg = mg) (e5 : X.base = base) : OpD X T 4 0 "__lt__" (spS T [] 2 G_Ratiodd_ltdd) := by
  subst e1 e2 e3 e4 e5
  exact ⟨⟨h.a_Ratiodd_ltdd, h.d_Ratiodd_ltdd, _, h.s_Ratiodd_ltdd, h.i_Ratiodd_ltdd, bd_Ratiodd_ltdd h, ok_Ratiodd_ltdd h⟩⟩
def hLt_o : D → D → Option D := alt (dOwn 0 G_Ratiodd_ltdd) (dOwnI 0 G_Ratiodd_ltdd)
theorem oLt_o {X : Cx} (e1 : X.prog = P) (e2 : X.w = w) (e3 : X.K = K) (e4 : X.mg = mg) (e5 : X.base = base) (hr : Room 4 X.A) : OpS X T (compareOp .Lt) hLt_o := by
  subst e1 e2 e3 e4 e5
  exact OpS.or (cmp_own (fun _ _ => rfl) (od_Ratiodd_ltdd h rfl rfl rfl rfl rfl) hr h.nf00) (cmp_ownI (fun _ _ => rfl) (od_Ratiodd_ltdd h rfl rfl rfl rfl rfl) hr h.nf0i)

def g_Ratiodd_ledd : GS := (gSeq (gSet 2 (gCall G_as_ratio [] (gCons (gVar 1) gNil)))
    (gRet (g2 hLe_i (g2 hMul_i (gFld 0 0 (gVar 0)) (gFld 0 1 (gVar 2))) (g2 hMul_i (gFld 0 0 (gVar 2)) (gFld 0 1 (gVar 0))))))
def G_Ratiodd_ledd : G := gFun [] 3 g_Ratiodd_ledd
theorem ok_Ratiodd_ledd : FnOk P w K mg base (L2N.CX P w) 4 h.a_Ratiodd_ledd h.d_Ratiodd_ledd ["self", "other"] (spS T [] 2 G_Ratiodd_ledd) :=
  fun_tl h.F_Ratiodd_ledd sc_Ratiodd_ledd [] (by decide) (ms' := [.sh, .sh, .sh]) rfl fun cdv A outer s H E vs env0 hr jo =>
    (sb_cons (ss_set 2 (se_call (c := 1) (dds := []) (cd_as_ratio h rfl rfl rfl rfl rfl) (hr.mono (by decide)) (L2N.takes_of rfl rfl rfl rfl) rfl (fun _ => RepL.nil) (sa_cons (se_var 1) sa_nil) (cnt_cons cnt_nil)) sc_Ratiodd_ledd.nd rfl (.inl rfl) rfl)
    (sb_one (ss_ret ⟨jo.len, jo.lo⟩ rfl (pmOk_get rfl) (se_cmp (oLe_i h hr) (se_op (oMul_i h hr) (se_fld (h.cls0 _ rfl) (by rw [h.fl0]; rfl) (se_var 0)) (se_fld (h.cls0 _ rfl) (by rw [h.fl0]; rfl) (se_var 2))) (se_op (oMul_i h hr) (se_fld (h.cls0 _ rfl) (by rw [h.fl0]; rfl) (se_var 2)) (se_fld (h.cls0 _ rfl) (by rw [h.fl0]; rfl) (se_var 0)))) rfl)))
theorem bd_Ratiodd_ledd : Binds K h.d_Ratiodd_ledd ["self", "other"] [] := h.F_Ratiodd_ledd.binds (ps := ["self", "other"]) fun _ _ _ _ _ _ us hl => match us, hl with | [_, _], _ => rfl
theorem od_Ratiodd_ledd {X : Cx} (e1 : X.prog = P) (e2 : X.w = w) (e3 : X.K = K) (e4 : X.mg = mg) (e5 : X.base = base) : OpD X T 4 0 "__le__" (spS T [] 2 G_Ratiodd_ledd) := by
  subst e1 e2 e3 e4 e5
  exact ⟨⟨h.a_Ratiodd_ledd, h.d_Ratiodd_ledd, _, h.s_Ratiodd_ledd, h.i_Ratiodd_ledd, bd_Ratiodd_ledd h, ok_Ratiodd_ledd h⟩⟩
def hLe_o : D → D → Option D := alt (dOwn 0 G_Ratiodd_ledd) (dOwnI 0 G_Ratiodd_ledd)
theorem oLe_o {X : Cx} (e1 : X.prog = P) (e2 : X.w = w) (e3 : X.K = K) (e4 : X.mg = mg) (e5 : X.base = base) (hr : Room 4 X.A) : OpS X T (compareOp .LtE) hLe_o := by
  subst e1 e2 e3 e4 e5
  exact OpS.or (cmp_own (fun _ _ => rfl) (od_Ratiodd_ledd h rfl rfl rfl rfl rfl) hr h.nf00) (cmp_ownI (fun _ _ => rfl) (od_Ratiodd_ledd h rfl rfl rfl rfl rfl) hr h.nf0i)

def g_is_list : GS := (gRet (gIsi hI_seq (gVar 0)))
def G_is_list : G := gFun [] 1 g_is_list
theorem ok_is_list : FnOk P w K mg base (L2N.CX P w) 1 h.a_is_list h.d_is_list ["value"] (spS T [] 1 G_is_list) :=
  fun_tl h.F_is_list sc_is_list [] (by decide) (ms' := [.sh]) rfl fun cdv A outer s H E vs env0 hr jo =>
    (sb_one (ss_ret ⟨jo.len, jo.lo⟩ rfl (pmOk_get rfl) (i_seq h (se_var 0)) rfl))
theorem bd_is_list : Binds K h.d_is_list ["value"] [] := h.F_is_list.binds (ps := ["value"]) fun _ _ _ _ _ _ us hl => match us, hl with | [_], _ => rfl
theorem cd_is_list {X : Cx} (e1 : X.prog = P) (e2 : X.w = w) (e3 : X.K = K) (e4 : X.mg = mg) (e5 : X.base = base) : CalD X 1 "is_list" [] (spS T [] 1 G_is_list) := by
  subst e1 e2 e3 e4 e5
  exact ⟨⟨h.a_is_list, h.d_is_list, _, [], h.m_is_list, h.F_is_list.kp, bd_is_list h, .nil, ok_is_list h⟩⟩
def g_is_time : GS := (gRet (gAndV (gCall G_is_number [] (gCons (gVar 0) gNil)) (g2 hLe_o (gMake 0 2 G_Ratiodd_initdd [.int 1] (gCons (gC (.int 0)) gNil)) (gVar 0))))
def G_is_time : G := gFun [] 1 g_is_time
theorem ok_is_time : FnOk P w K mg base (L2N.CX P w) 5 h.a_is_time h.d_is_time ["value"] (spS T [] 1 G_is_time) :=
  fun_tl h.F_is_time sc_is_time [] (by decide) (ms' := [.sh]) rfl fun cdv A outer s H E vs env0 hr jo =>
    (sb_one (ss_ret ⟨jo.len, jo.lo⟩ rfl (pmOk_get rfl) (se_and (se_call (c := 1) (dds := []) (cd_is_number h rfl rfl rfl rfl rfl) (hr.mono (by decide)) (L2N.takes_of rfl rfl rfl rfl) rfl (fun _ => RepL.nil) (sa_cons (se_var 0) sa_nil) (cnt_cons cnt_nil)) (se_one (se_cmp (oLe_o h rfl rfl rfl rfl rfl (hr.mono (by decide))) (SP'.sh rfl (sp_make (cnt := 1) (dds := [.int 1]) (mk_Ratiodd_initdd_1 h rfl rfl rfl rfl rfl) (hr.mono (by decide)) (L2N.takes_of rfl rfl rfl rfl) rfl (by rw [h.fl0]; rfl) (fun _ => RepL.one (by unfold Rep; rfl)) (sa_cons se_int sa_nil) (cnt_cons cnt_nil))) (se_var 0)))) rfl))
theorem bd_is_time : Binds K h.d_is_time ["value"] [] := h.F_is_time.binds (ps := ["value"]) fun _ _ _ _ _ _ us hl => match us, hl with | [_], _ => rfl
theorem cd_is_time {X : Cx} (e1 : X.prog = P) (e2 : X.w = w) (e3 : X.K = K) (e4 : X.mg = mg) (e5 : X.base = base) : CalD X 5 "is_time" [] (spS T [] 1 G_is_time) := by
  subst e1 e2 e3 e4 e5
  exact ⟨⟨h.a_is_time, h.d_is_time, _, [], h.m_is_time, h.F_is_time.kp, bd_is_time h, .nil, ok_is_time h⟩⟩
def g_is_row : GS := (gRet (gAndV (gCall G_is_list [] (gCons (gVar 0) gNil)) (gAndV (gChain hLe_i hLe_i (gC (.int 1)) (gF dLen (gCons (gVar 0) gNil)) (gC (.int 6))) (gF dAll (gCons (gLc [1] (.nm 1) (gSeqI (gVar 0)) gYes (gCall G_is_time [] (gCons (gVar 1) gNil))) gNil)))))
def G_is_row : G := gFun [] 2 g_is_row
theorem ok_is_row : FnOk P w K mg base (L2N.CX P w) 6 h.a_is_row h.d_is_row ["value"] (spS T [] 1 G_is_row) :=
  fun_tl h.F_is_row sc_is_row [] (by decide) (ms' := [.sh, .sh]) rfl fun cdv A outer s H E vs env0 hr jo =>
    (sb_one (ss_ret ⟨jo.len, jo.lo⟩ rfl (pmOk_get rfl) (se_and (se_call (c := 1) (dds := []) (cd_is_list h rfl rfl rfl rfl rfl) (hr.mono (by decide)) (L2N.takes_of rfl rfl rfl rfl) rfl (fun _ => RepL.nil) (sa_cons (se_var 0) sa_nil) (cnt_cons cnt_nil)) (se_and (se_chain (oLe_i h hr) (oLe_i h hr) se_int (b_len h (sa_cons (se_var 0) sa_nil)) (n_MOST_JOBS h)) (se_one (b_all h (sa_cons (SP'.sh rfl (sp_lc (own := [("item", 1)]) (k := .sh) rfl sc_is_row.nd (si_seq h.hK (se_var 0)) (blk_of rfl) (fun _ _ _ _ _ => pg_name (sc_is_row.nd) rfl (by first | exact Or.inl rfl | exact Or.inr rfl) (i := 1)) (tg_name 1 rfl) (fun _ _ _ _ _ => sts_nil) (fun _ _ _ _ _ => (SE.sp (se_call (c := 1) (dds := []) (cd_is_time h rfl rfl rfl rfl rfl) (hr.mono (by decide)) takes0 rfl (fun _ => RepL.nil) (sa_cons (se_var 1) sa_nil) (cnt_cons cnt_nil)))) (by decide) (by decide))) sa_nil))))) rfl))
theorem bd_is_row : Binds K h.d_is_row ["value"] [] := h.F_is_row.binds (ps := ["value"]) fun _ _ _ _ _ _ us hl => match us, hl with | [_], _ => rfl
theorem cd_is_row {X : Cx} (e1 : X.prog = P) (e2 : X.w = w) (e3 : X.K = K) (e4 : X.mg = mg) (e5 : X.base = base) : CalD X 6 "is_row" [] (spS T [] 1 G_is_row) := by
  subst e1 e2 e3 e4 e5
  exact ⟨⟨h.a_is_row, h.d_is_row, _, [], h.m_is_row, h.F_is_row.kp, bd_is_row h, .nil, ok_is_row h⟩⟩
def g_is_table : GS := (gSeq (gIf (gOr (gNot (gTest (gCall G_is_list [] (gCons (gVar 0) gNil)))) (gNot (gTest (gChain hLe_i hLe_i (gC (.int 1)) (gF dLen (gCons (gVar 0) gNil)) (gC (.int 4)))))) (gRet (gC (.bl false))) gNext)
    (gRet (gAndV (gF dAll (gCons (gLc [1] (.nm 1) (gSeqI (gVar 0)) gYes (gCall G_is_row [] (gCons (gVar 1) gNil))) gNil)) (gF dAll (gCons (gLc [1] (.nm 1) (gSeqI (gVar 0)) gYes (g2 hEq_i (gF dLen (gCons (gVar 1) gNil)) (gF dLen (gCons (g2 dIx (gVar 0) (gC (.int 0))) gNil)))) gNil)))))
def G_is_table : G := gFun [] 2 g_is_table
theorem ok_is_table : FnOk P w K mg base (L2N.CX P w) 7 h.a_is_table h.d_is_table ["value"] (spS T [] 1 G_is_table) :=
  fun_tl h.F_is_table sc_is_table [] (by decide) (ms' := [.sh, .sh]) rfl fun cdv A outer s H E vs env0 hr jo =>
    (sb_cons (ss_if (st_sw (sw_or (st_not (st_val (se_call (c := 1) (dds := []) (cd_is_list h rfl rfl rfl rfl rfl) (hr.mono (by decide)) (L2N.takes_of rfl rfl rfl rfl) rfl (fun _ => RepL.nil) (sa_cons (se_var 0) sa_nil) (cnt_cons cnt_nil)))) (sw_or1 (st_not (st_chain (oLe_i h hr) (oLe_i h hr) se_int (b_len h (sa_cons (se_var 0) sa_nil)) (n_MOST_SERVERS h)))))) (sb_one (ss_ret ⟨jo.len, jo.lo⟩ rfl (pmOk_get rfl) se_bl rfl)) sb_nil rfl)
    (sb_one (ss_ret ⟨jo.len, jo.lo⟩ rfl (pmOk_get rfl) (se_and (b_all h (sa_cons (SP'.sh rfl (sp_lc (own := [("row", 1)]) (k := .sh) rfl sc_is_table.nd (si_seq h.hK (se_var 0)) (blk_of rfl) (fun _ _ _ _ _ => pg_name (sc_is_table.nd) rfl (by first | exact Or.inl rfl | exact Or.inr rfl) (i := 1)) (tg_name 1 rfl) (fun _ _ _ _ _ => sts_nil) (fun _ _ _ _ _ => (SE.sp (se_call (c := 1) (dds := []) (cd_is_row h rfl rfl rfl rfl rfl) (hr.mono (by decide)) takes0 rfl (fun _ => RepL.nil) (sa_cons (se_var 1) sa_nil) (cnt_cons cnt_nil)))) (by decide) (by decide))) sa_nil)) (se_one (b_all h (sa_cons (SP'.sh rfl (sp_lc (own := [("row", 1)]) (k := .sh) rfl sc_is_table.nd (si_seq h.hK (se_var 0)) (blk_of rfl) (fun _ _ _ _ _ => pg_name (sc_is_table.nd) rfl (by first | exact Or.inl rfl | exact Or.inr rfl) (i := 1)) (tg_name 1 rfl) (fun _ _ _ _ _ => sts_nil) (fun _ _ _ _ _ => (SE.sp (se_cmp (oEq_i h hr) (b_len h (sa_cons (se_var 1) sa_nil)) (b_len h (sa_cons (se_ix h.hK (se_var 0) se_int) sa_nil))))) (by decide) (by decide))) sa_nil)))) rfl)))
theorem bd_is_table : Binds K h.d_is_table ["value"] [] := h.F_is_table.binds (ps := ["value"]) fun _ _ _ _ _ _ us hl => match us, hl with | [_], _ => rfl
theorem cd_is_table {X : Cx} (e1 : X.prog = P) (e2 : X.w = w) (e3 : X.K = K) (e4 : X.mg = mg) (e5 : X.base = base) : CalD X 7 "is_table" [] (spS T [] 1 G_is_table) := by
  subst e1 e2 e3 e4 e5
  exact ⟨⟨h.a_is_table, h.d_is_table, _, [], h.m_is_table, h.F_is_table.kp, bd_is_table h, .nil, ok_is_table h⟩⟩
def g_is_index : GS := (gRet (gAndV (gCall G_is_int [] (gCons (gVar 0) gNil)) (gChain hLe_i hLt_i (gC (.int 0)) (gVar 0) (gVar 1))))
def G_is_index : G := gFun [] 2 g_is_index
theorem ok_is_index : FnOk P w K mg base (L2N.CX P w) 2 h.a_is_index h.d_is_index ["value", "size"] (spS T [] 2 G_is_index) :=
  fun_tl h.F_is_index sc_is_index [] (by decide) (ms' := [.sh, .sh]) rfl fun cdv A outer s H E vs env0 hr jo =>
    (sb_one (ss_ret ⟨jo.len, jo.lo⟩ rfl (pmOk_get rfl) (se_and (se_call (c := 1) (dds := []) (cd_is_int h rfl rfl rfl rfl rfl) (hr.mono (by decide)) (L2N.takes_of rfl rfl rfl rfl) rfl (fun _ => RepL.nil) (sa_cons (se_var 0) sa_nil) (cnt_cons cnt_nil)) (se_one (se_chain (oLe_i h hr) (oLt_i h hr) se_int (se_var 0) (se_var 1)))) rfl))
theorem bd_is_index : Binds K h.d_is_index ["value", "size"] [] := h.F_is_index.binds (ps := ["value", "size"]) fun _ _ _ _ _ _ us hl => match us, hl with | [_, _], _ => rfl
theorem cd_is_index {X : Cx} (e1 : X.prog = P) (e2 : X.w = w) (e3 : X.K = K) (e4 : X.mg = mg) (e5 : X.base = base) : CalD X 2 "is_index" [] (spS T [] 2 G_is_index) := by
  subst e1 e2 e3 e4 e5
  exact ⟨⟨h.a_is_index, h.d_is_index, _, [], h.m_is_index, h.F_is_index.kp, bd_is_index h, .nil, ok_is_index h⟩⟩
def g_Linedd_initdd : GS := (gSeq (gIf (gNot (gTest (gCall G_is_table [] (gCons (gVar 1) gNil)))) (gRaise1 5 "given" (gVar 1)) gNext)
    (gFldSet 1 0 0 (gLc [2] (.nm 2) (gSeqI (gVar 1)) gYes (gLc [3] (.nm 3) (gSeqI (gVar 2)) gYes (gCall G_as_ratio [] (gCons (gVar 3) gNil))))))
def G_Linedd_initdd : G := gFun [.part] 4 g_Linedd_initdd
theorem ok_Linedd_initdd : FnOk P w K mg base (L2N.CX P w) 8 h.a_Linedd_initdd h.d_Linedd_initdd ["self", "rows"] (spS T [.part] 2 G_Linedd_initdd) :=
  fun_tl h.F_Linedd_initdd sc_Linedd_initdd [.part] (by decide) (ms' := [.part, .sh, .sh, .sh]) rfl fun cdv A outer s H E vs env0 hr jo =>
    (sb_cons (ss_if (st_not (st_val (se_call (c := 1) (dds := []) (cd_is_table h rfl rfl rfl rfl rfl) (hr.mono (by decide)) (L2N.takes_of rfl rfl rfl rfl) rfl (fun _ => RepL.nil) (sa_cons (se_var 1) sa_nil) (cnt_cons cnt_nil)))) (sb_one (ss_raise1 (rd_BadLine h (P := P) (w := w) (base := base) rfl rfl rfl rfl rfl) (hr.mono (by decide)) rfl (L2N.takes_of rfl rfl rfl rfl) rfl (se_var 1) rfl)) sb_nil rfl)
    (sb_one (ss_fld 1 0 0 (h.cls1 _ rfl) rfl (by rw [show (jOf T _ _ _ _ _).T = T from rfl, h.fl1]; rfl) (SP'.sh rfl (sp_lc (own := [("row", 2)]) (k := .sh) rfl sc_Linedd_initdd.nd (si_seq h.hK (se_var 1)) (blk_of rfl) (fun _ _ _ _ _ => pg_name (sc_Linedd_initdd.nd) rfl (by first | exact Or.inl rfl | exact Or.inr rfl) (i := 2)) (tg_name 2 rfl) (fun _ _ _ _ _ => sts_nil) (fun _ _ _ _ _ => (SE.sp (SP'.sh rfl (sp_lc (own := [("time", 3)]) (k := .sh) rfl sc_Linedd_initdd.nd (si_seq h.hK (se_var 2)) (blk_of rfl) (fun _ _ _ _ _ => pg_name (sc_Linedd_initdd.nd) rfl (by first | exact Or.inl rfl | exact Or.inr rfl) (i := 3)) (tg_name 3 rfl) (fun _ _ _ _ _ => sts_nil) (fun _ _ _ _ _ => (SE.sp (se_call (c := 1) (dds := []) (cd_as_ratio h rfl rfl rfl rfl rfl) (hr.mono (by decide)) takes0 rfl (fun _ => RepL.nil) (sa_cons (se_var 3) sa_nil) (cnt_cons cnt_nil)))) (by decide) (by decide))))) (by decide) (by decide))) rfl)))
theorem bd_Linedd_initdd : Binds K h.d_Linedd_initdd ["self", "rows"] [] := h.F_Linedd_initdd.binds (ps := ["self", "rows"]) fun _ _ _ _ _ _ us hl => match us, hl with | [_, _], _ => rfl
theorem mk_Linedd_initdd {X : Cx} (e1 : X.prog = P) (e2 : X.w = w) (e3 : X.K = K) (e4 : X.mg = mg) (e5 : X.base = base) : MakD X T 8 "Line" 1 [] (spS T [.part] 2 G_Linedd_initdd) := by
  subst e1 e2 e3 e4 e5
  exact ⟨⟨h.a_Linedd_initdd, h.d_Linedd_initdd, _, [], h.mc1, h.M_Linedd_initdd, h.b_Linedd_initdd, .nil, ok_Linedd_initdd h⟩⟩
def g_Linedd_eqdd : GS := (gRet (gAndV (gIsi hI_Line (gVar 1)) (g2 hEq_r (gFld 1 0 (gVar 0)) (gFld 1 0 (gVar 1)))))
def G_Linedd_eqdd : G := gFun [] 2 g_Linedd_eqdd
theorem ok_Linedd_eqdd : FnOk P w K mg base (L2N.CX P w) 5 h.a_Linedd_eqdd h.d_Linedd_eqdd ["self", "other"] (spS T [] 2 G_Linedd_eqdd) :=
  fun_tl h.F_Linedd_eqdd sc_Linedd_eqdd [] (by decide) (ms' := [.sh, .sh]) rfl fun cdv A outer s H E vs env0 hr jo =>
    (sb_one (ss_ret ⟨jo.len, jo.lo⟩ rfl (pmOk_get rfl) (se_and (i_Line h (se_var 1)) (se_one (se_cmp (oEq_r h rfl rfl rfl rfl rfl (hr.mono (by decide))) (se_fld (h.cls1 _ rfl) (by rw [h.fl1]; rfl) (se_var 0)) (se_fld (h.cls1 _ rfl) (by rw [h.fl1]; rfl) (se_var 1))))) rfl))
theorem bd_Linedd_eqdd : Binds K h.d_Linedd_eqdd ["self", "other"] [] := h.F_Linedd_eqdd.binds (ps := ["self", "other"]) fun _ _ _ _ _ _ us hl => match us, hl with | [_, _], _ => rfl
theorem od_Linedd_eqdd {X : Cx} (e1 : X.prog = P) (e2 : X.w = w) (e3 : X.K = K) (e4 : X.mg = mg) (e5 : X.base = base) : OpD X T 5 1 "__eq__" (spS T [] 2 G_Linedd_eqdd) := by
  subst e1 e2 e3 e4 e5
  exact ⟨⟨h.a_Linedd_eqdd, h.d_Linedd_eqdd, _, h.s_Linedd_eqdd, h.i_Linedd_eqdd, bd_Linedd_eqdd h, ok_Linedd_eqdd h⟩⟩
def okL : D → Bool
  | .obj 1 _ => true
  | _ => false
theorem nfL {X : Cx} (e1 : X.prog = P) (e2 : X.w = w) (e3 : X.K = K) (e4 : X.mg = mg) (e5 : X.base = base) : ∀ y, okL y = true → ∃ t, tyD T y = some t ∧ PySem.W.notFirst X.K (T.cl 1) t = true := fun y z => by
  subst e1 e2 e3 e4 e5
  unfold okL at z
  split at z
  · exact ⟨_, rfl, h.nf11⟩
  · cases z
def ownL : Nat → D → D → Option Bool := ownE okL 1 G_Linedd_eqdd
theorem oNe_l {X : Cx} (e1 : X.prog = P) (e2 : X.w = w) (e3 : X.K = K) (e4 : X.mg = mg) (e5 : X.base = base) (hr : Room 6 X.A) : OpS X T (compareOp .NotEq) (hNe1 1 ownL) := by
  have hn := nfL h e1 e2 e3 e4 e5
  subst e1 e2 e3 e4 e5
  exact ops_ne1 (n := 5) (fun z => rn_own h.hK (od_Linedd_eqdd h rfl rfl rfl rfl rfl) (h.cls1 _ rfl).cm h.ne1 hn z) hr
def hNe_q : D → D → Option D := alt (hNq ownR 4) (hNe1 1 ownL)
theorem oNe_q {X : Cx} (e1 : X.prog = P) (e2 : X.w = w) (e3 : X.K = K) (e4 : X.mg = mg) (e5 : X.base = base) (hr : Room 9 X.A) : OpS X T (compareOp .NotEq) hNe_q := OpS.or (ops_nq (by rw [h.hK, e3]) (OR h e1 e2 e3 e4 e5) 4 (hr.mono (by decide))) (oNe_l h e1 e2 e3 e4 e5 (hr.mono (by decide)))

def g_Line_jobs : GS := (gRet (gF dLen (gCons (g2 dIx (gFld 1 0 (gVar 0)) (gC (.int 0))) gNil)))
def G_Line_jobs : G := gFun [] 1 g_Line_jobs
theorem ok_Line_jobs : FnOk P w K mg base (L2N.CX P w) 1 h.a_Line_jobs h.d_Line_jobs ["self"] (spS T [] 1 G_Line_jobs) :=
  fun_tl h.F_Line_jobs sc_Line_jobs [] (by decide) (ms' := [.sh]) rfl fun cdv A outer s H E vs env0 hr jo =>
    (sb_one (ss_ret ⟨jo.len, jo.lo⟩ rfl (pmOk_get rfl) (b_len h (sa_cons (se_ix h.hK (se_fld (h.cls1 _ rfl) (by rw [h.fl1]; rfl) (se_var 0)) se_int) sa_nil)) rfl))
theorem bd_Line_jobs : Binds K h.d_Line_jobs ["self"] [] := h.F_Line_jobs.binds (ps := ["self"]) fun _ _ _ _ _ _ us hl => match us, hl with | [_], _ => rfl
theorem md_Line_jobs {X : Cx} (e1 : X.prog = P) (e2 : X.w = w) (e3 : X.K = K) (e4 : X.mg = mg) (e5 : X.base = base) : MetD X T 1 1 "jobs" [] (spS T [] 1 G_Line_jobs) := by
  subst e1 e2 e3 e4 e5
  exact ⟨⟨h.a_Line_jobs, h.d_Line_jobs, _, [], h.t_Line_jobs, bd_Line_jobs h, .nil, ok_Line_jobs h⟩, by rw [h.fl1]; decide⟩
def g_Line_rows : GS := (gRet (gLc [1] (.nm 1) (gSeqI (gFld 1 0 (gVar 0))) gYes (gFP dList (gCons (gVar 1) gNil))))
def G_Line_rows : G := gFun [] 2 g_Line_rows
theorem ok_Line_rows : FnOk P w K mg base (L2N.CX P w) 1 h.a_Line_rows h.d_Line_rows ["self"] (spS T [] 1 G_Line_rows) :=
  fun_tl h.F_Line_rows sc_Line_rows [] (by decide) (ms' := [.sh, .sh]) rfl fun cdv A outer s H E vs env0 hr jo =>
    (sb_one (ss_ret ⟨jo.len, jo.lo⟩ rfl (pmOk_get rfl) (SP'.sh rfl (sp_lc (own := [("row", 1)]) (k := .sh) rfl sc_Line_rows.nd (si_seq h.hK (se_fld (h.cls1 _ rfl) (by rw [h.fl1]; rfl) (se_var 0))) (blk_of rfl) (fun _ _ _ _ _ => pg_name (sc_Line_rows.nd) rfl (by first | exact Or.inl rfl | exact Or.inr rfl) (i := 1)) (tg_name 1 rfl) (fun _ _ _ _ _ => sts_nil) (fun _ _ _ _ _ => (SE.sp (SP'.sh rfl (b_list h (sa_cons (se_var 1) sa_nil))))) (by decide) (by decide))) rfl))
theorem bd_Line_rows : Binds K h.d_Line_rows ["self"] [] := h.F_Line_rows.binds (ps := ["self"]) fun _ _ _ _ _ _ us hl => match us, hl with | [_], _ => rfl
theorem md_Line_rows {X : Cx} (e1 : X.prog = P) (e2 : X.w = w) (e3 : X.K = K) (e4 : X.mg = mg) (e5 : X.base = base) : MetD X T 1 1 "rows" [] (spS T [] 1 G_Line_rows) := by
  subst e1 e2 e3 e4 e5
  exact ⟨⟨h.a_Line_rows, h.d_Line_rows, _, [], h.t_Line_rows, bd_Line_rows h, .nil, ok_Line_rows h⟩, by rw [h.fl1]; decide⟩
def g_check_job : GS := (gIf (gNot (gTest (gCall G_is_index [] (gCons (gVar 1) (gCons (gMeth 1 G_Line_jobs [] (gVar 0) gNil) gNil))))) (gRaise1 7 "given" (gVar 1)) gNext)
def G_check_job : G := gFun [] 2 g_check_job
theorem ok_check_job : FnOk P w K mg base (L2N.CX P w) 3 h.a_check_job h.d_check_job ["line", "job"] (spS T [] 2 G_check_job) :=
  fun_tl h.F_check_job sc_check_job [] (by decide) (ms' := [.sh, .sh]) rfl fun cdv A outer s H E vs env0 hr jo =>
    (sb_one (ss_if (st_not (st_val (se_call (c := 2) (dds := []) (cd_is_index h rfl rfl rfl rfl rfl) (hr.mono (by decide)) (L2N.takes_of rfl rfl rfl rfl) rfl (fun _ => RepL.nil) (sa_cons (se_var 1) (sa_cons (se_meth0 (dds := []) (h.cls1 _ rfl) (md_Line_jobs h rfl rfl rfl rfl rfl) (hr.mono (by decide)) (L2N.takes_of rfl rfl rfl rfl) (fun _ => RepL.nil) (se_var 0)) sa_nil)) (cnt_cons (cnt_cons cnt_nil))))) (sb_one (ss_raise1 (rd_BadJob h (P := P) (w := w) (base := base) rfl rfl rfl rfl rfl) (hr.mono (by decide)) rfl (L2N.takes_of rfl rfl rfl rfl) rfl (se_var 1) rfl)) sb_nil rfl))
theorem bd_check_job : Binds K h.d_check_job ["line", "job"] [] := h.F_check_job.binds (ps := ["line", "job"]) fun _ _ _ _ _ _ us hl => match us, hl with | [_, _], _ => rfl
theorem cd_check_job {X : Cx} (e1 : X.prog = P) (e2 : X.w = w) (e3 : X.K = K) (e4 : X.mg = mg) (e5 : X.base = base) : CalD X 3 "check_job" [] (spS T [] 2 G_check_job) := by
  subst e1 e2 e3 e4 e5
  exact ⟨⟨h.a_check_job, h.d_check_job, _, [], h.m_check_job, h.F_check_job.kp, bd_check_job h, .nil, ok_check_job h⟩⟩
def g_check_stretch : GS := (gSeq (gExp (gCall G_check_job [] (gCons (gVar 0) (gCons (gVar 1) gNil))))
    (gIf (gOr (gNot (gTest (gCall G_is_index [] (gCons (gVar 2) (gCons (gMeth 1 G_Line_jobs [] (gVar 0) gNil) gNil))))) (gTest (g2 hLt_i (gVar 2) (gVar 1)))) (gRaise1 7 "given" (gVar 2)) gNext))
def G_check_stretch : G := gFun [] 3 g_check_stretch
theorem ok_check_stretch : FnOk P w K mg base (L2N.CX P w) 4 h.a_check_stretch h.d_check_stretch ["line", "first", "last"] (spS T [] 3 G_check_stretch) :=
  fun_tl h.F_check_stretch sc_check_stretch [] (by decide) (ms' := [.sh, .sh, .sh]) rfl fun cdv A outer s H E vs env0 hr jo =>
    (sb_cons (ss_expr (se_call (c := 2) (dds := []) (cd_check_job h rfl rfl rfl rfl rfl) (hr.mono (by decide)) (L2N.takes_of rfl rfl rfl rfl) rfl (fun _ => RepL.nil) (sa_cons (se_var 0) (sa_cons (se_var 1) sa_nil)) (cnt_cons (cnt_cons cnt_nil))) rfl)
    (sb_one (ss_if (st_sw (sw_or (st_not (st_val (se_call (c := 2) (dds := []) (cd_is_index h rfl rfl rfl rfl rfl) (hr.mono (by decide)) (L2N.takes_of rfl rfl rfl rfl) rfl (fun _ => RepL.nil) (sa_cons (se_var 2) (sa_cons (se_meth0 (dds := []) (h.cls1 _ rfl) (md_Line_jobs h rfl rfl rfl rfl rfl) (hr.mono (by decide)) (L2N.takes_of rfl rfl rfl rfl) (fun _ => RepL.nil) (se_var 0)) sa_nil)) (cnt_cons (cnt_cons cnt_nil))))) (sw_or1 (st_cmp (oLt_i h hr) (se_var 2) (se_var 1))))) (sb_one (ss_raise1 (rd_BadJob h (P := P) (w := w) (base := base) rfl rfl rfl rfl rfl) (hr.mono (by decide)) rfl (L2N.takes_of rfl rfl rfl rfl) rfl (se_var 2) rfl)) sb_nil rfl)))
theorem bd_check_stretch : Binds K h.d_check_stretch ["line", "first", "last"] [] := h.F_check_stretch.binds (ps := ["line", "first", "last"]) fun _ _ _ _ _ _ us hl => match us, hl with | [_, _, _], _ => rfl
theorem cd_check_stretch {X : Cx} (e1 : X.prog = P) (e2 : X.w = w) (e3 : X.K = K) (e4 : X.mg = mg) (e5 : X.base = base) : CalD X 4 "check_stretch" [] (spS T [] 3 G_check_stretch) := by
  subst e1 e2 e3 e4 e5
  exact ⟨⟨h.a_check_stretch, h.d_check_stretch, _, [], h.m_check_stretch, h.F_check_stretch.kp, bd_check_stretch h, .nil, ok_check_stretch h⟩⟩
def g_Line_part : GS := (gSeq (gExp (gCall G_check_stretch [] (gCons (gVar 0) (gCons (gVar 1) (gCons (gVar 2) gNil)))))
    (gRet (gMake 1 1 G_Linedd_initdd [] (gCons (gLc [3] (.nm 3) (gSeqI (gFld 1 0 (gVar 0))) gYes (gSl (gVar 3) (gSo (gVar 1)) (gSo (g2 hAdd_i (gVar 2) (gC (.int 1)))))) gNil))))
def G_Line_part : G := gFun [] 4 g_Line_part
theorem ok_Line_part : FnOk P w K mg base (L2N.CX P w) 10 h.a_Line_part h.d_Line_part ["self", "first", "last"] (spS T [] 3 G_Line_part) :=
  fun_tl h.F_Line_part sc_Line_part [] (by decide) (ms' := [.sh, .sh, .sh, .sh]) rfl fun cdv A outer s H E vs env0 hr jo =>
    (sb_cons (ss_expr (se_call (c := 3) (dds := []) (cd_check_stretch h rfl rfl rfl rfl rfl) (hr.mono (by decide)) (L2N.takes_of rfl rfl rfl rfl) rfl (fun _ => RepL.nil) (sa_cons (se_var 0) (sa_cons (se_var 1) (sa_cons (se_var 2) sa_nil))) (cnt_cons (cnt_cons (cnt_cons cnt_nil)))) rfl)
    (sb_one (ss_ret ⟨jo.len, jo.lo⟩ rfl (pmOk_get rfl) (SP'.sh rfl (sp_make (cnt := 1) (dds := []) (mk_Linedd_initdd h rfl rfl rfl rfl rfl) (hr.mono (by decide)) (L2N.takes_of rfl rfl rfl rfl) rfl (by rw [h.fl1]; rfl) (fun _ => RepL.nil) (sa_cons (SP'.sh rfl (sp_lc (own := [("row", 3)]) (k := .sh) rfl sc_Line_part.nd (si_seq h.hK (se_fld (h.cls1 _ rfl) (by rw [h.fl1]; rfl) (se_var 0))) (blk_of rfl) (fun _ _ _ _ _ => pg_name (sc_Line_part.nd) rfl (by first | exact Or.inl rfl | exact Or.inr rfl) (i := 3)) (tg_name 3 rfl) (fun _ _ _ _ _ => sts_nil) (fun _ _ _ _ _ => (SE.sp (se_slice h.hK (se_var 3) (so_some (se_var 1)) (so_some (se_op (oAdd_i h hr) (se_var 2) se_int))))) (by decide) (by decide))) sa_nil) (cnt_cons cnt_nil))) rfl)))
theorem bd_Line_part : Binds K h.d_Line_part ["self", "first", "last"] [] := h.F_Line_part.binds (ps := ["self", "first", "last"]) fun _ _ _ _ _ _ us hl => match us, hl with | [_, _, _], _ => rfl
theorem md_Line_part {X : Cx} (e1 : X.prog = P) (e2 : X.w = w) (e3 : X.K = K) (e4 : X.mg = mg) (e5 : X.base = base) : MetD X T 10 1 "part" [] (spS T [] 3 G_Line_part) := by
  subst e1 e2 e3 e4 e5
  exact ⟨⟨h.a_Line_part, h.d_Line_part, _, [], h.t_Line_part, bd_Line_part h, .nil, ok_Line_part h⟩, by rw [h.fl1]; decide⟩
def D_kw_Line_part_0_last_first (ds es : List D) : List D := [(ds.getD 0 .non), (es.getD 1 .non), (es.getD 0 .non)]
omit h in
theorem hD_kw_Line_part_0_last_first : ∀ ds es : List D, ds.length = 0 + 1 → es.length = 2 → (D_kw_Line_part_0_last_first ds es).length = 3 := fun _ _ _ _ => rfl
theorem kw_Line_part_0_last_first {X : Cx} (e1 : X.prog = P) (e2 : X.w = w) (e3 : X.K = K) (e4 : X.mg = mg) (e5 : X.base = base) : KwM X T 10 1 "part" 0 ["last", "first"] D_kw_Line_part_0_last_first (spS T [] 3 G_Line_part) := by
  subst e1 e2 e3 e4 e5
  refine ⟨⟨h.a_Line_part, h.d_Line_part, _, fun us ws => [(us.getD 0 .none), (ws.getD 1 .none), (ws.getD 0 .none)], fun vs zs => [(vs.getD 0 .non), (zs.getD 1 .non), (zs.getD 0 .non)], h.t_Line_part, kbn_all h.F_Line_part (ps := ["self", "first", "last"]) (fun kV doc pm an cdv ct us ws h1 h2 => match us, ws, h1, h2 with | [_], [_, _], _, _ => rfl) (fun r1 r2 => .cons (vals_getD r1 0) (.cons (vals_getD r2 1) (.cons (vals_getD r2 0) (.nil)))), ok_Line_part h, fun F ds es vs zs r1 r2 => RepL.cons (repL_getD r1 0) (RepL.cons (repL_getD r2 1) (RepL.cons (repL_getD r2 0) (RepL.nil)))⟩, by rw [h.fl1]; decide⟩
def D_kw_Line_part_1_last (ds es : List D) : List D := [(ds.getD 0 .non), (ds.getD 1 .non), (es.getD 0 .non)]
omit h in
theorem hD_kw_Line_part_1_last : ∀ ds es : List D, ds.length = 1 + 1 → es.length = 1 → (D_kw_Line_part_1_last ds es).length = 3 := fun _ _ _ _ => rfl
theorem kw_Line_part_1_last {X : Cx} (e1 : X.prog = P) (e2 : X.w = w) (e3 : X.K = K) (e4 : X.mg = mg) (e5 : X.base = base) : KwM X T 10 1 "part" 1 ["last"] D_kw_Line_part_1_last (spS T [] 3 G_Line_part) := by
  subst e1 e2 e3 e4 e5
  refine ⟨⟨h.a_Line_part, h.d_Line_part, _, fun us ws => [(us.getD 0 .none), (us.getD 1 .none), (ws.getD 0 .none)], fun vs zs => [(vs.getD 0 .non), (vs.getD 1 .non), (zs.getD 0 .non)], h.t_Line_part, kbn_all h.F_Line_part (ps := ["self", "first", "last"]) (fun kV doc pm an cdv ct us ws h1 h2 => match us, ws, h1, h2 with | [_, _], [_], _, _ => rfl) (fun r1 r2 => .cons (vals_getD r1 0) (.cons (vals_getD r1 1) (.cons (vals_getD r2 0) (.nil)))), ok_Line_part h, fun F ds es vs zs r1 r2 => RepL.cons (repL_getD r1 0) (RepL.cons (repL_getD r1 1) (RepL.cons (repL_getD r2 0) (RepL.nil)))⟩, by rw [h.fl1]; decide⟩
def g_Line_backwards : GS := (gRet (gMake 1 1 G_Linedd_initdd [] (gCons (gLc [1] (.nm 1) (gSeqI (gRevL (gFld 1 0 (gVar 0)))) gYes (gRevL (gVar 1))) gNil)))
def G_Line_backwards : G := gFun [] 2 g_Line_backwards
theorem ok_Line_backwards : FnOk P w K mg base (L2N.CX P w) 10 h.a_Line_backwards h.d_Line_backwards ["self"] (spS T [] 1 G_Line_backwards) :=
  fun_tl h.F_Line_backwards sc_Line_backwards [] (by decide) (ms' := [.sh, .sh]) rfl fun cdv A outer s H E vs env0 hr jo =>
    (sb_one (ss_ret ⟨jo.len, jo.lo⟩ rfl (pmOk_get rfl) (SP'.sh rfl (sp_make (cnt := 1) (dds := []) (mk_Linedd_initdd h rfl rfl rfl rfl rfl) (hr.mono (by decide)) (L2N.takes_of rfl rfl rfl rfl) rfl (by rw [h.fl1]; rfl) (fun _ => RepL.nil) (sa_cons (SP'.sh rfl (sp_lc (own := [("row", 1)]) (k := .sh) rfl sc_Line_backwards.nd (si_seq h.hK (se_revL (se_fld (h.cls1 _ rfl) (by rw [h.fl1]; rfl) (se_var 0)))) (blk_of rfl) (fun _ _ _ _ _ => pg_name (sc_Line_backwards.nd) rfl (by first | exact Or.inl rfl | exact Or.inr rfl) (i := 1)) (tg_name 1 rfl) (fun _ _ _ _ _ => sts_nil) (fun _ _ _ _ _ => (SE.sp (se_revL (se_var 1)))) (by decide) (by decide))) sa_nil) (cnt_cons cnt_nil))) rfl))
theorem bd_Line_backwards : Binds K h.d_Line_backwards ["self"] [] := h.F_Line_backwards.binds (ps := ["self"]) fun _ _ _ _ _ _ us hl => match us, hl with | [_], _ => rfl
theorem md_Line_backwards {X : Cx} (e1 : X.prog = P) (e2 : X.w = w) (e3 : X.K = K) (e4 : X.mg = mg) (e5 : X.base = base) : MetD X T 10 1 "backwards" [] (spS T [] 1 G_Line_backwards) := by
  subst e1 e2 e3 e4 e5
  exact ⟨⟨h.a_Line_backwards, h.d_Line_backwards, _, [], h.t_Line_backwards, bd_Line_backwards h, .nil, ok_Line_backwards h⟩, by rw [h.fl1]; decide⟩
def g__law_tape : GS := (gSeq (gSet 2 (gC (.int 0)))
    (gSeq (gIf (gTest (g2 hLt_i (gVar 1) (gF dLen (gCons (gVar 0) gNil)))) (gSet 2 (g2 dIx (gVar 0) (gVar 1))) gNext)
    (gRet (gLst (gCons (gF dAbs (gCons (gVar 2) gNil)) (gCons (g2 hAdd_i (g2 hMul_i (gC (.int 7919)) (gVar 1)) (gC (.int 15485863))) gNil))))))
def G__law_tape : G := gFun [] 3 g__law_tape
theorem ok__law_tape : FnOk P w K mg base (L2N.CX P w) 1 h.a__law_tape h.d__law_tape ["_law_script", "_law_k"] (spP T [] 2 (.own .sh) G__law_tape) :=
  fun_tlP h.F__law_tape sc__law_tape [] (.own .sh) (by decide) (ms' := [.sh, .sh, .sh]) rfl ((nn_seq (nn_seq nn_ret))) fun cdv A outer s H E vs env0 hr jo =>
    (sb_cons (ss_set 2 se_int sc__law_tape.nd rfl (.inl rfl) rfl)
    (sb_cons (ss_if (st_cmp (oLt_i h hr) (se_var 1) (b_len h (sa_cons (se_var 0) sa_nil))) (sb_one (ss_set 2 (se_ix h.hK (se_var 0) (se_var 1)) sc__law_tape.nd rfl (.inl rfl) rfl)) sb_nil rfl)
    (sb_one (ss_retP ⟨jo.len, jo.lo⟩ (pmOk_get rfl) (sp_lst (sa_cons (b_abs h (sa_cons (se_var 2) sa_nil)) (sa_cons (se_op (oAdd_i h hr) (se_op (oMul_i h hr) se_int (se_var 1)) se_int) sa_nil))) rfl))))
theorem bd__law_tape : Binds K h.d__law_tape ["_law_script", "_law_k"] [] := h.F__law_tape.binds (ps := ["_law_script", "_law_k"]) fun _ _ _ _ _ _ us hl => match us, hl with | [_, _], _ => rfl
theorem cd__law_tape {X : Cx} (e1 : X.prog = P) (e2 : X.w = w) (e3 : X.K = K) (e4 : X.mg = mg) (e5 : X.base = base) : CalD X 1 "_law_tape" [] (spP T [] 2 (.own .sh) G__law_tape) := by
  subst e1 e2 e3 e4 e5
  exact ⟨⟨h.a__law_tape, h.d__law_tape, _, [], h.m__law_tape, h.F__law_tape.kp, bd__law_tape h, .nil, ok__law_tape h⟩⟩
def g__law_pick : GS := (gSeq (gIf (gTest (g2 hGe_i (gIxP 0 (gC (.int 0))) (g2 hPow_i (gC (.int 10)) (gC (.int 18))))) (gSeq (gSet 2 (g2 hMod_i (gF dInt (gCons (gIxP 0 (gC (.int 0))) gNil)) (gVar 1)))
    (gSeq (gSetI 0 (gC (.int 0)) (g2 hFdiv_i (gIxP 0 (gC (.int 0))) (gVar 1)))
    (gRet (gVar 2)))) gNext)
    (gSeq (gSetI 0 (gC (.int 1)) (g2 hMod_i (gF dInt (gCons (g2 hAdd_i (g2 hAdd_i (g2 hMul_i (gIxP 0 (gC (.int 1))) (gC (.int 48271))) (g2 hMul_i (gIxP 0 (gC (.int 0))) (gC (.int 69621)))) (gC (.int 29))) gNil)) (gC (.int 2147483647))))
    (gSeq (gSet 3 (g2 hMod_i (gF dInt (gCons (g2 hAdd_i (g2 hAdd_i (g2 hMul_i (gIxP 0 (gC (.int 1))) (gIxP 0 (gC (.int 1)))) (g2 hMul_i (gIxP 0 (gC (.int 1))) (gC (.int 40692)))) (gC (.int 17))) gNil)) (gC (.int 2147483399))))
    (gRet (g2 hMod_i (gF dInt (gCons (g2 hFdiv_i (gVar 3) (gC (.int 32))) gNil)) (gVar 1))))))
def G__law_pick : G := gFun [(.own .sh)] 4 g__law_pick
theorem ok__law_pick : FnOk P w K mg base (L2N.CX P w) 1 h.a__law_pick h.d__law_pick ["_law_tape_here", "_law_many"] (spS T [(.own .sh)] 2 G__law_pick) :=
  fun_tl h.F__law_pick sc__law_pick [(.own .sh)] (by decide) (ms' := [(.own .sh), .sh, .sh, .sh]) rfl fun cdv A outer s H E vs env0 hr jo =>
    (sb_cons (ss_if (st_cmp (oGe_i h hr) (se_ixP 0 rfl se_int) (se_op (oPow_i h hr) se_int se_int)) (sb_cons (ss_set 2 (se_op (oMod_i h hr) (b_int h (sa_cons (se_ixP 0 rfl se_int) sa_nil)) (se_var 1)) sc__law_pick.nd rfl (.inl rfl) rfl)
    (sb_cons (ss_setI 0 rfl (se_op (oFdiv_i h hr) (se_ixP 0 rfl se_int) (se_var 1)) se_int rfl)
    (sb_one (ss_ret ⟨jo.len, jo.lo⟩ rfl (pmOk_get rfl) (se_var 2) rfl)))) sb_nil rfl)
    (sb_cons (ss_setI 0 rfl (se_op (oMod_i h hr) (b_int h (sa_cons (se_op (oAdd_i h hr) (se_op (oAdd_i h hr) (se_op (oMul_i h hr) (se_ixP 0 rfl se_int) se_int) (se_op (oMul_i h hr) (se_ixP 0 rfl se_int) se_int)) se_int) sa_nil)) se_int) se_int rfl)
    (sb_cons (ss_set 3 (se_op (oMod_i h hr) (b_int h (sa_cons (se_op (oAdd_i h hr) (se_op (oAdd_i h hr) (se_op (oMul_i h hr) (se_ixP 0 rfl se_int) (se_ixP 0 rfl se_int)) (se_op (oMul_i h hr) (se_ixP 0 rfl se_int) se_int)) se_int) sa_nil)) se_int) sc__law_pick.nd rfl (.inl rfl) rfl)
    (sb_one (ss_ret ⟨jo.len, jo.lo⟩ rfl (pmOk_get rfl) (se_op (oMod_i h hr) (b_int h (sa_cons (se_op (oFdiv_i h hr) (se_var 3) se_int) sa_nil)) (se_var 1)) rfl)))))
theorem bd__law_pick : Binds K h.d__law_pick ["_law_tape_here", "_law_many"] [] := h.F__law_pick.binds (ps := ["_law_tape_here", "_law_many"]) fun _ _ _ _ _ _ us hl => match us, hl with | [_, _], _ => rfl
theorem cd__law_pick {X : Cx} (e1 : X.prog = P) (e2 : X.w = w) (e3 : X.K = K) (e4 : X.mg = mg) (e5 : X.base = base) : CalD X 1 "_law_pick" [] (spS T [(.own .sh)] 2 G__law_pick) := by
  subst e1 e2 e3 e4 e5
  exact ⟨⟨h.a__law_pick, h.d__law_pick, _, [], h.m__law_pick, h.F__law_pick.kp, bd__law_pick h, .nil, ok__law_pick h⟩⟩
def g__law_size : GS := (gSeq (gPar [2, 3] (gCons (gCallT G__law_pick 0 (gCons (gVar 1) gNil)) (gCons (gCallT G__law_pick 0 (gCons (gVar 1) gNil)) gNil)))
    (gRet (g2 hAdd_i (gC (.int 1)) (gIfE (gTest (g2 hLt_i (gVar 3) (gVar 2))) (gVar 2) (gVar 3)))))
def G__law_size : G := gFun [(.own .sh)] 4 g__law_size
theorem ok__law_size : FnOk P w K mg base (L2N.CX P w) 2 h.a__law_size h.d__law_size ["_law_tape_here", "_law_high"] (spS T [(.own .sh)] 2 G__law_size) :=
  fun_tl h.F__law_size sc__law_size [(.own .sh)] (by decide) (ms' := [(.own .sh), .sh, .sh, .sh]) rfl fun cdv A outer s H E vs env0 hr jo =>
    (sb_cons (ss_par 2 3 rfl sc__law_size.nd (sa_cons (se_callT (j := 0) (n := 1) (cd__law_pick h rfl rfl rfl rfl rfl) (hr.mono (by decide)) (L2N.takes_of rfl rfl rfl rfl) rfl rfl (sa_cons (se_var 1) sa_nil) (cnt_cons cnt_nil)) (sa_cons (se_callT (j := 0) (n := 1) (cd__law_pick h rfl rfl rfl rfl rfl) (hr.mono (by decide)) (L2N.takes_of rfl rfl rfl rfl) rfl rfl (sa_cons (se_var 1) sa_nil) (cnt_cons cnt_nil)) sa_nil)) rfl)
    (sb_one (ss_ret ⟨jo.len, jo.lo⟩ rfl (pmOk_get rfl) (se_op (oAdd_i h hr) se_int (se_ife (st_cmp (oLt_i h hr) (se_var 3) (se_var 2)) (se_var 2) (se_var 3))) rfl)))
theorem bd__law_size : Binds K h.d__law_size ["_law_tape_here", "_law_high"] [] := h.F__law_size.binds (ps := ["_law_tape_here", "_law_high"]) fun _ _ _ _ _ _ us hl => match us, hl with | [_, _], _ => rfl
theorem cd__law_size {X : Cx} (e1 : X.prog = P) (e2 : X.w = w) (e3 : X.K = K) (e4 : X.mg = mg) (e5 : X.base = base) : CalD X 2 "_law_size" [] (spS T [(.own .sh)] 2 G__law_size) := by
  subst e1 e2 e3 e4 e5
  exact ⟨⟨h.a__law_size, h.d__law_size, _, [], h.m__law_size, h.F__law_size.kp, bd__law_size h, .nil, ok__law_size h⟩⟩
def g__law_stretch : GS := (gSeq (gPar [2, 3, 4] (gCons (gCallT G__law_pick 0 (gCons (gVar 1) gNil)) (gCons (gCallT G__law_pick 0 (gCons (gVar 1) gNil)) (gCons (gCallT G__law_pick 0 (gCons (gC (.int 5)) gNil)) gNil))))
    (gSeq (gIf (gTest (g2 hLt_i (gVar 4) (gC (.int 2)))) (gRet (gTup (gCons (gC (.int 0)) (gCons (g2 hSub_i (gVar 1) (gC (.int 1))) gNil)))) gNext)
    (gSeq (gIf (gTest (g2 hEq_i (gVar 4) (gC (.int 2)))) (gRet (gTup (gCons (gC (.int 0)) (gCons (gVar 2) gNil)))) gNext)
    (gSeq (gIf (gTest (g2 hEq_i (gVar 4) (gC (.int 3)))) (gRet (gTup (gCons (gVar 2) (gCons (g2 hSub_i (gVar 1) (gC (.int 1))) gNil)))) gNext)
    (gRet (gIfE (gTest (g2 hLt_i (gVar 2) (gVar 3))) (gTup (gCons (gVar 2) (gCons (gVar 3) gNil))) (gTup (gCons (gVar 3) (gCons (gVar 2) gNil)))))))))
def G__law_stretch : G := gFun [(.own .sh)] 5 g__law_stretch
theorem ok__law_stretch : FnOk P w K mg base (L2N.CX P w) 2 h.a__law_stretch h.d__law_stretch ["_law_tape_here", "_law_many"] (spS T [(.own .sh)] 2 G__law_stretch) :=
  fun_tl h.F__law_stretch sc__law_stretch [(.own .sh)] (by decide) (ms' := [(.own .sh), .sh, .sh, .sh, .sh]) rfl fun cdv A outer s H E vs env0 hr jo =>
    (sb_cons (ss_par3 2 3 4 rfl sc__law_stretch.nd (sa_cons (se_callT (j := 0) (n := 1) (cd__law_pick h rfl rfl rfl rfl rfl) (hr.mono (by decide)) (L2N.takes_of rfl rfl rfl rfl) rfl rfl (sa_cons (se_var 1) sa_nil) (cnt_cons cnt_nil)) (sa_cons (se_callT (j := 0) (n := 1) (cd__law_pick h rfl rfl rfl rfl rfl) (hr.mono (by decide)) (L2N.takes_of rfl rfl rfl rfl) rfl rfl (sa_cons (se_var 1) sa_nil) (cnt_cons cnt_nil)) (sa_cons (se_callT (j := 0) (n := 1) (cd__law_pick h rfl rfl rfl rfl rfl) (hr.mono (by decide)) (L2N.takes_of rfl rfl rfl rfl) rfl rfl (sa_cons se_int sa_nil) (cnt_cons cnt_nil)) sa_nil))) rfl)
    (sb_cons (ss_if (st_cmp (oLt_i h hr) (se_var 4) se_int) (sb_one (ss_ret ⟨jo.len, jo.lo⟩ rfl (pmOk_get rfl) (se_tup (sa_cons se_int (sa_cons (se_op (oSub_i h hr) (se_var 1) se_int) sa_nil))) rfl)) sb_nil rfl)
    (sb_cons (ss_if (st_cmp (oEq_i h hr) (se_var 4) se_int) (sb_one (ss_ret ⟨jo.len, jo.lo⟩ rfl (pmOk_get rfl) (se_tup (sa_cons se_int (sa_cons (se_var 2) sa_nil))) rfl)) sb_nil rfl)
    (sb_cons (ss_if (st_cmp (oEq_i h hr) (se_var 4) se_int) (sb_one (ss_ret ⟨jo.len, jo.lo⟩ rfl (pmOk_get rfl) (se_tup (sa_cons (se_var 2) (sa_cons (se_op (oSub_i h hr) (se_var 1) se_int) sa_nil))) rfl)) sb_nil rfl)
    (sb_one (ss_ret ⟨jo.len, jo.lo⟩ rfl (pmOk_get rfl) (se_ife (st_cmp (oLt_i h hr) (se_var 2) (se_var 3)) (se_tup (sa_cons (se_var 2) (sa_cons (se_var 3) sa_nil))) (se_tup (sa_cons (se_var 3) (sa_cons (se_var 2) sa_nil)))) rfl))))))
theorem bd__law_stretch : Binds K h.d__law_stretch ["_law_tape_here", "_law_many"] [] := h.F__law_stretch.binds (ps := ["_law_tape_here", "_law_many"]) fun _ _ _ _ _ _ us hl => match us, hl with | [_, _], _ => rfl
theorem cd__law_stretch {X : Cx} (e1 : X.prog = P) (e2 : X.w = w) (e3 : X.K = K) (e4 : X.mg = mg) (e5 : X.base = base) : CalD X 2 "_law_stretch" [] (spS T [(.own .sh)] 2 G__law_stretch) := by
  subst e1 e2 e3 e4 e5
  exact ⟨⟨h.a__law_stretch, h.d__law_stretch, _, [], h.m__law_stretch, h.F__law_stretch.kp, bd__law_stretch h, .nil, ok__law_stretch h⟩⟩
def g__law_grid : GS := (gSeq (gPar [3, 4] (gCons (gCallT G__law_size 0 (gCons (gVar 1) gNil)) (gCons (gCallT G__law_size 0 (gCons (gVar 2) gNil)) gNil)))
    (gSeq (gPar [5, 6] (gCons (gCallT G__law_pick 0 (gCons (gC (.int 5)) gNil)) (gCons (gCallT G__law_pick 0 (gCons (gC (.int 30)) gNil)) gNil)))
    (gSeq (gSet 7 (gLst gNil))
    (gSeq (gFor (.nm 8) (gRangeI (gCons (gVar 3) gNil)) (gSeq (gSet 9 (gLst gNil))
    (gSeq (gFor (.nm 10) (gRangeI (gCons (gVar 4) gNil)) (gSeq (gSet 11 (gCallT G__law_pick 0 (gCons (g2 dIx (gLst (gCons (gC (.int 3)) (gCons (gC (.int 6)) (gCons (gC (.int 12)) (gCons (gC (.int 12)) (gCons (gC (.int 12)) gNil)))))) (gVar 5)) gNil)))
    (gSeq (gSet 12 (g2 dIx (gLst (gCons (gC (.int 1)) (gCons (gC (.int 1)) (gCons (gC (.int 3)) (gCons (g2 hAdd_i (gC (.int 1)) (g2 hMod_i (g2 hAdd_i (gVar 10) (g2 hMul_i (gC (.int 2)) (gVar 8))) (gC (.int 4)))) (gCons (gC (.int 7)) gNil)))))) (gVar 5)))
    (gApp 9 (gIfE (gTest (g2 hEq_i (gVar 8) (gVar 6))) (gMake 0 2 G_Ratiodd_initdd [.int 1] (gCons (gC (.int 0)) gNil)) (gMake 0 2 G_Ratiodd_initdd [] (gCons (gIfE (gTest (g2 hEq_i (gVar 5) (gC (.int 4)))) (g2 hMul_i (gVar 11) (g2 hPow_i (gC (.int 10)) (gC (.int 9)))) (gVar 11)) (gCons (gVar 12) gNil))))))))
    (gApp 7 (gVar 9)))))
    (gRet (gVar 7))))))
def G__law_grid : G := gFun [(.own .sh)] 13 g__law_grid
theorem ok__law_grid : FnOk P w K mg base (L2N.CX P w) 3 h.a__law_grid h.d__law_grid ["_law_tape_here", "_law_high", "_law_wide"] (spS T [(.own .sh)] 3 G__law_grid) :=
  fun_tl h.F__law_grid sc__law_grid [(.own .sh)] (by decide) (ms' := [(.own .sh), .sh, .sh, .sh, .sh, .sh, .sh, .sh, .sh, .sh, .sh, .sh, .sh]) rfl fun cdv A outer s H E vs env0 hr jo =>
    (sb_cons (ss_par 3 4 rfl sc__law_grid.nd (sa_cons (se_callT (j := 0) (n := 1) (cd__law_size h rfl rfl rfl rfl rfl) (hr.mono (by decide)) (L2N.takes_of rfl rfl rfl rfl) rfl rfl (sa_cons (se_var 1) sa_nil) (cnt_cons cnt_nil)) (sa_cons (se_callT (j := 0) (n := 1) (cd__law_size h rfl rfl rfl rfl rfl) (hr.mono (by decide)) (L2N.takes_of rfl rfl rfl rfl) rfl rfl (sa_cons (se_var 2) sa_nil) (cnt_cons cnt_nil)) sa_nil)) rfl)
    (sb_cons (ss_par 5 6 rfl sc__law_grid.nd (sa_cons (se_callT (j := 0) (n := 1) (cd__law_pick h rfl rfl rfl rfl rfl) (hr.mono (by decide)) (L2N.takes_of rfl rfl rfl rfl) rfl rfl (sa_cons se_int sa_nil) (cnt_cons cnt_nil)) (sa_cons (se_callT (j := 0) (n := 1) (cd__law_pick h rfl rfl rfl rfl rfl) (hr.mono (by decide)) (L2N.takes_of rfl rfl rfl rfl) rfl rfl (sa_cons se_int sa_nil) (cnt_cons cnt_nil)) sa_nil)) rfl)
    (sb_cons (ss_setP 7 (sp_lst sa_nil) sc__law_grid.nd rfl (.inl rfl) rfl)
    (sb_cons (ss_for PassesOwn.leaving rfl (si_range1 rfl h.m_range (sa_cons (se_var 3) sa_nil) (cnt_cons cnt_nil)) (pg_name sc__law_grid.nd rfl (Or.inl rfl) (i := 8)) (tg_name 8 rfl) (sb_cons (ss_setP 9 (sp_lst sa_nil) sc__law_grid.nd rfl (.inl rfl) rfl)
    (sb_cons (ss_for PassesOwn.leaving rfl (si_range1 rfl h.m_range (sa_cons (se_var 4) sa_nil) (cnt_cons cnt_nil)) (pg_name sc__law_grid.nd rfl (Or.inl rfl) (i := 10)) (tg_name 10 rfl) (sb_cons (ss_set 11 (se_callT (j := 0) (n := 1) (cd__law_pick h rfl rfl rfl rfl rfl) (hr.mono (by decide)) (L2N.takes_of rfl rfl rfl rfl) rfl rfl (sa_cons (se_ix h.hK (SP'.sh rfl (sp_lst (sa_cons se_int (sa_cons se_int (sa_cons se_int (sa_cons se_int (sa_cons se_int sa_nil))))))) (se_var 5)) sa_nil) (cnt_cons cnt_nil)) sc__law_grid.nd rfl (.inl rfl) rfl)
    (sb_cons (ss_set 12 (se_ix h.hK (SP'.sh rfl (sp_lst (sa_cons se_int (sa_cons se_int (sa_cons se_int (sa_cons (se_op (oAdd_i h hr) se_int (se_op (oMod_i h hr) (se_op (oAdd_i h hr) (se_var 10) (se_op (oMul_i h hr) se_int (se_var 8))) se_int)) (sa_cons se_int sa_nil))))))) (se_var 5)) sc__law_grid.nd rfl (.inl rfl) rfl)
    (sb_one (ss_app 9 rfl (SE.sp (se_ife (st_cmp (oEq_i h hr) (se_var 8) (se_var 6)) (SP'.sh rfl (sp_make (cnt := 1) (dds := [.int 1]) (mk_Ratiodd_initdd_1 h rfl rfl rfl rfl rfl) (hr.mono (by decide)) (L2N.takes_of rfl rfl rfl rfl) rfl (by rw [h.fl0]; rfl) (fun _ => RepL.one (by unfold Rep; rfl)) (sa_cons se_int sa_nil) (cnt_cons cnt_nil))) (SP'.sh rfl (sp_make (cnt := 2) (dds := []) (mk_Ratiodd_initdd h rfl rfl rfl rfl rfl) (hr.mono (by decide)) (L2N.takes_of rfl rfl rfl rfl) rfl (by rw [h.fl0]; rfl) (fun _ => RepL.nil) (sa_cons (se_ife (st_cmp (oEq_i h hr) (se_var 5) se_int) (se_op (oMul_i h hr) (se_var 11) (se_op (oPow_i h hr) se_int se_int)) (se_var 11)) (sa_cons (se_var 12) sa_nil)) (cnt_cons (cnt_cons cnt_nil)))))) rfl)))) rfl (allSh_of rfl))
    (sb_one (ss_less (.same (.same (.same (.same (.same (.same (.same (.same (.same (.share rfl (.same (.same (.same .nil))))))))))))) (ss_app 7 rfl (SE.sp (se_var 9)) rfl))))) rfl (allSh_of rfl))
    (sb_one (ss_less (.same (.same (.same (.same (.same (.same (.same (.share rfl (.same (.same (.same (.same (.same .nil))))))))))))) (ss_ret ⟨jo.len, jo.lo⟩ rfl (pmOk_get rfl) (se_var 7) rfl)))))))
theorem bd__law_grid : Binds K h.d__law_grid ["_law_tape_here", "_law_high", "_law_wide"] [] := h.F__law_grid.binds (ps := ["_law_tape_here", "_law_high", "_law_wide"]) fun _ _ _ _ _ _ us hl => match us, hl with | [_, _, _], _ => rfl
theorem cd__law_grid {X : Cx} (e1 : X.prog = P) (e2 : X.w = w) (e3 : X.K = K) (e4 : X.mg = mg) (e5 : X.base = base) : CalD X 3 "_law_grid" [] (spS T [(.own .sh)] 3 G__law_grid) := by
  subst e1 e2 e3 e4 e5
  exact ⟨⟨h.a__law_grid, h.d__law_grid, _, [], h.m__law_grid, h.F__law_grid.kp, bd__law_grid h, .nil, ok__law_grid h⟩⟩
def g__law_made : GS := (gSeq (gSet 2 (gLst gNil))
    (gSeq (gFor (.nm 3) (gSeqI (gVar 1)) (gSeq (gSet 4 (gLc [5] (.nm 5) (gSeqI (gVar 3)) gYes (gIfE (gAnd (gTest (g2 hEq_i (gPrp 0 G_Ratio_bottom (gVar 5)) (gC (.int 1)))) (gTest (g2 hEq_i (gCallT G__law_pick 0 (gCons (gC (.int 2)) gNil)) (gC (.int 0))))) (gPrp 0 G_Ratio_top (gVar 5)) (gVar 5))))
    (gApp 2 (gIfE (gTest (g2 hGt_i (gCallT G__law_pick 0 (gCons (gC (.int 3)) gNil)) (gC (.int 0)))) (gVar 4) (gF dTuple (gCons (gVar 4) gNil))))))
    (gRet (gMake 1 1 G_Linedd_initdd [] (gCons (gIfE (gTest (g2 hGt_i (gCallT G__law_pick 0 (gCons (gC (.int 4)) gNil)) (gC (.int 0)))) (gVar 2) (gF dTuple (gCons (gVar 2) gNil))) gNil)))))
def G__law_made : G := gFun [(.own .sh)] 6 g__law_made
theorem ok__law_made : FnOk P w K mg base (L2N.CX P w) 10 h.a__law_made h.d__law_made ["_law_tape_here", "_law_grid_here"] (spS T [(.own .sh)] 2 G__law_made) :=
  fun_tl h.F__law_made sc__law_made [(.own .sh)] (by decide) (ms' := [(.own .sh), .sh, .sh, .sh, .sh, .sh]) rfl fun cdv A outer s H E vs env0 hr jo =>
    (sb_cons (ss_setP 2 (sp_lst sa_nil) sc__law_made.nd rfl (.inl rfl) rfl)
    (sb_cons (ss_for PassesOwn.leaving rfl (si_seq h.hK (se_var 1)) (pg_name sc__law_made.nd rfl (Or.inl rfl) (i := 3)) (tg_name 3 rfl) (sb_cons (SS.lessN (ss_setLc 4 (own := [("_law_item", 5)]) (k := .sh) rfl sc__law_made.nd (si_seq h.hK (se_var 3)) (blk_of rfl) (fun _ _ _ _ _ => pg_name (sc__law_made.nd) rfl (by first | exact Or.inl rfl | exact Or.inr rfl) (i := 5)) (tg_name 5 rfl) (fun _ _ _ _ _ => sts_nil) (fun _ _ _ _ _ => (SE.sp (se_ife (st_sw (sw_and (st_cmp (oEq_i h hr) (se_prp (h.cls0 _ rfl) (pd_Ratio_bottom h rfl rfl rfl rfl rfl) (hr.mono (by decide)) (se_var 5)) se_int) (sw_and1 (st_cmp (oEq_i h hr) (se_callT (j := 0) (n := 1) (cd__law_pick h rfl rfl rfl rfl rfl) (hr.mono (by decide)) takes0 rfl rfl (sa_cons se_int sa_nil) (cnt_cons cnt_nil)) se_int)))) (se_prp (h.cls0 _ rfl) (pd_Ratio_top h rfl rfl rfl rfl rfl) (hr.mono (by decide)) (se_var 5)) (se_var 5)))) rfl (by decide) rfl) (.same (.same (.same (.same (.share rfl (.same .nil)))))))
    (sb_one (ss_app 2 rfl (SE.sp (se_ife (st_cmp (oGt_i h hr) (se_callT (j := 0) (n := 1) (cd__law_pick h rfl rfl rfl rfl rfl) (hr.mono (by decide)) (L2N.takes_of rfl rfl rfl rfl) rfl rfl (sa_cons se_int sa_nil) (cnt_cons cnt_nil)) se_int) (se_var 4) (b_tuple h (sa_cons (se_var 4) sa_nil)))) rfl))) rfl (allSh_of rfl))
    (sb_one (ss_less (.same (.same (.share rfl (.same (.same (.same .nil)))))) (ss_ret ⟨jo.len, jo.lo⟩ rfl (pmOk_get rfl) (SP'.sh rfl (sp_make (cnt := 1) (dds := []) (mk_Linedd_initdd h rfl rfl rfl rfl rfl) (hr.mono (by decide)) (L2N.takes_of rfl rfl rfl rfl) rfl (by rw [h.fl1]; rfl) (fun _ => RepL.nil) (sa_cons (se_ife (st_cmp (oGt_i h hr) (se_callT (j := 0) (n := 1) (cd__law_pick h rfl rfl rfl rfl rfl) (hr.mono (by decide)) (L2N.takes_of rfl rfl rfl rfl) rfl rfl (sa_cons se_int sa_nil) (cnt_cons cnt_nil)) se_int) (se_var 2) (b_tuple h (sa_cons (se_var 2) sa_nil))) sa_nil) (cnt_cons cnt_nil))) rfl)))))
theorem bd__law_made : Binds K h.d__law_made ["_law_tape_here", "_law_grid_here"] [] := h.F__law_made.binds (ps := ["_law_tape_here", "_law_grid_here"]) fun _ _ _ _ _ _ us hl => match us, hl with | [_, _], _ => rfl
theorem cd__law_made {X : Cx} (e1 : X.prog = P) (e2 : X.w = w) (e3 : X.K = K) (e4 : X.mg = mg) (e5 : X.base = base) : CalD X 10 "_law_made" [] (spS T [(.own .sh)] 2 G__law_made) := by
  subst e1 e2 e3 e4 e5
  exact ⟨⟨h.a__law_made, h.d__law_made, _, [], h.m__law_made, h.F__law_made.kp, bd__law_made h, .nil, ok__law_made h⟩⟩
def g__law_shown (G0 : G) : GS := (gSeq (gIf (gTest (gIsi hI_Ratio (gVar 0))) (gRet (gLst (gCons (gC (.str "ratio")) (gCons (gPrp 0 G_Ratio_top (gVar 0)) (gCons (gPrp 0 G_Ratio_bottom (gVar 0)) gNil))))) gNext)
    (gSeq (gIf (gTest (gIsi hI_dict (gVar 0))) (gRet (gLst (gCons (gC (.str "dict")) (gCons (gLc [1] (.nm 1) (gKeys0 (gVar 0)) gYes (gTup (gCons (gCall G0 [] (gCons (gVar 1) gNil)) (gCons (gCall G0 [] (gCons (g2 dIx (gVar 0) (gVar 1)) gNil)) gNil)))) gNil)))) gNext)
    (gSeq (gIf (gTest (gIsi hI_seq (gVar 0))) (gRet (gLst (gCons (gIfE (gTest (gIsi hI_list (gVar 0))) (gC (.str "list")) (gC (.str "tuple"))) (gCons (gLc [2] (.nm 2) (gSeqI (gVar 0)) gYes (gCall G0 [] (gCons (gVar 2) gNil))) gNil)))) gNext)
    (gRet (gF dRepr (gCons (gVar 0) gNil))))))
def G__law_shown : Nat → G
  | 0 => fun _ => .stuck
  | n + 1 => gFun [] 3 (g__law_shown (G__law_shown n))
theorem bd__law_shown : Binds K h.d__law_shown ["_law_thing"] [] := h.F__law_shown.binds (ps := ["_law_thing"]) fun _ _ _ _ _ _ us hl => match us, hl with | [_], _ => rfl
theorem okB__law_shown : ∀ n, FnB P w K mg base (n + 2) h.a__law_shown h.d__law_shown ["_law_thing"] (spS T [] 1 (G__law_shown n))
  | 0 => fnB_no
  | n + 1 => by
    have ih := okB__law_shown n
    have self : ∀ {X : Cx} (e1 : X.prog = P) (e2 : X.w = w) (e3 : X.K = K) (e4 : X.mg = mg) (e5 : X.base = base), CalB X (n + 2) "_law_shown" [] (spS T [] 1 (G__law_shown n)) := by
      intro X e1 e2 e3 e4 e5
      subst e1 e2 e3 e4 e5
      exact ⟨⟨h.a__law_shown, h.d__law_shown, _, [], h.m__law_shown, h.F__law_shown.kp, bd__law_shown h, .nil, ih⟩⟩
    exact fun_tlB h.F__law_shown sc__law_shown [] (by decide) (ms' := [.sh, .sh, .sh]) rfl fun cdv A outer s H E vs env0 calm pn am jo =>
      (sb_cons (ss_if (st_val (i_Ratio h (se_var 0))) (sb_one (ss_ret ⟨jo.len, jo.lo⟩ rfl (pmOk_get rfl) (SP'.sh rfl (sp_lst (sa_cons se_str (sa_cons (se_prpQ (h.cls0 _ rfl) (pdB_Ratio_top h rfl rfl rfl rfl rfl) (am.mono (by omega)) (se_var 0)) (sa_cons (se_prpQ (h.cls0 _ rfl) (pdB_Ratio_bottom h rfl rfl rfl rfl rfl) (am.mono (by omega)) (se_var 0)) sa_nil))))) rfl)) sb_nil rfl)
    (sb_cons (ss_if (st_val (i_dict h (se_var 0))) (sb_one (ss_ret ⟨jo.len, jo.lo⟩ rfl (pmOk_get rfl) (SP'.sh rfl (sp_lst (sa_cons se_str (sa_cons (SP'.sh rfl (sp_lcB (own := [("_law_key", 1)]) (k := .sh) am sc__law_shown.nd (sib_keys0 (se_var 0)) (blk_of rfl) (tg_name 1 rfl) (fun _ _ _ _ _ _ am => ⟨pg_name (sc__law_shown.nd) rfl (by first | exact Or.inl rfl | exact Or.inr rfl) (i := 1), sts_nil, (SE.sp (se_tup (sa_cons (se_callQ (cnt := 1) (dds := []) (self rfl rfl rfl rfl rfl) (am.mono (by omega)) takes0 rfl (fun _ => RepL.nil) (sa_cons (se_var 1) sa_nil) (cnt_cons cnt_nil)) (sa_cons (se_callQ (cnt := 1) (dds := []) (self rfl rfl rfl rfl rfl) (am.mono (by omega)) takes0 rfl (fun _ => RepL.nil) (sa_cons (se_ix h.hK (se_var 0) (se_var 1)) sa_nil) (cnt_cons cnt_nil)) sa_nil))))⟩) (by decide) (by decide))) sa_nil)))) rfl)) sb_nil rfl)
    (sb_cons (ss_if (st_val (i_seq h (se_var 0))) (sb_one (ss_ret ⟨jo.len, jo.lo⟩ rfl (pmOk_get rfl) (SP'.sh rfl (sp_lst (sa_cons (se_ife (st_val (i_list h (se_var 0))) se_str se_str) (sa_cons (SP'.sh rfl (sp_lcB (own := [("_law_item", 2)]) (k := .sh) am sc__law_shown.nd (sib_seq h.hK (se_var 0)) (blk_of rfl) (tg_name 2 rfl) (fun _ _ _ _ _ _ am => ⟨pg_name (sc__law_shown.nd) rfl (by first | exact Or.inl rfl | exact Or.inr rfl) (i := 2), sts_nil, (SE.sp (se_callQ (cnt := 1) (dds := []) (self rfl rfl rfl rfl rfl) (am.mono (by omega)) takes0 rfl (fun _ => RepL.nil) (sa_cons (se_var 2) sa_nil) (cnt_cons cnt_nil)))⟩) (by decide) (by decide))) sa_nil)))) rfl)) sb_nil rfl)
    (sb_one (ss_ret ⟨jo.len, jo.lo⟩ rfl (pmOk_get rfl) (b_repr h (sa_cons (se_var 0) sa_nil)) rfl)))))
theorem cdB__law_shown (n : Nat) {X : Cx} (e1 : X.prog = P) (e2 : X.w = w) (e3 : X.K = K) (e4 : X.mg = mg) (e5 : X.base = base) : CalB X (n + 2) "_law_shown" [] (spS T [] 1 (G__law_shown n)) := by
  subst e1 e2 e3 e4 e5
  exact ⟨⟨h.a__law_shown, h.d__law_shown, _, [], h.m__law_shown, h.F__law_shown.kp, bd__law_shown h, .nil, okB__law_shown h n⟩⟩
def g__law_part : GS := (gTry (gRet (gMeth 1 G_Line_rows [] (gMethK 1 G_Line_part D_kw_Line_part_1_last (gVar 0) (gCons (gVar 1) gNil) (gCons (gVar 2) gNil)) gNil)) [⟨hit1 7, some 3, (gRet (gLst (gCons (gC (.str "job")) (gCons (gCall (G__law_shown 2) [] (gCons (gGiven 3 "given") gNil)) gNil))))⟩])
def G__law_part : G := gFun [] 4 g__law_part
theorem ok__law_part : FnOk P w K mg base (L2N.CX P w) 11 h.a__law_part h.d__law_part ["_law_made_here", "_law_begin", "_law_goal"] (spS T [] 3 G__law_part) :=
  fun_tl h.F__law_part sc__law_part [] (by decide) (ms' := [.sh, .sh, .sh, .sh]) rfl fun cdv A outer s H E vs env0 hr jo =>
    (sb_one (ss_try rfl rfl sc__law_part.nd (L2N.takes_of rfl rfl rfl rfl) rfl (fun W pn xe tk po => (sb_one (ss_ret ⟨jo.len, jo.lo⟩ rfl (pmOk_get rfl) (se_meth0 (dds := []) (h.cls1 _ rfl) (md_Line_rows h rfl rfl rfl rfl rfl) (hr.mono (by decide)) tk (fun _ => RepL.nil) (se_methK (n := 1) (ks := ["last"]) (cnt := 3) (h.cls1 _ rfl) (kw_Line_part_1_last h rfl rfl rfl rfl rfl) (hr.mono (by decide)) tk (se_var 0) (sa_cons (se_var 1) sa_nil) (cnt_cons cnt_nil) (sk_cons (se_var 2) sk_nil) (cnt_cons cnt_nil) hD_kw_Line_part_1_last)) rfl))) (.named (names_own h.mc7 rfl) rfl rfl rfl (by decide) (hit1_ok h.x7) (fun a oe pn n dd hz hfd hn => by
      have e := hit1_n hn
      subst e
      exact (sb_one (ss_ret ⟨jo.len, jo.lo⟩ rfl (pmOk_get rfl) (SP'.sh rfl (sp_lst (sa_cons se_str (sa_cons (se_callQ (cnt := 1) (dds := []) (cdB__law_shown h 2 rfl rfl rfl rfl rfl) (amb_suite hz hfd (hr.mono (by decide))) takes0 rfl (fun _ => RepL.nil) (sa_cons (se_given hz hfd h.xf7 h.xn7 rfl rfl (Or.inl rfl)) sa_nil) (cnt_cons cnt_nil)) sa_nil)))) trivial))) .nil)))
theorem bd__law_part : Binds K h.d__law_part ["_law_made_here", "_law_begin", "_law_goal"] [] := h.F__law_part.binds (ps := ["_law_made_here", "_law_begin", "_law_goal"]) fun _ _ _ _ _ _ us hl => match us, hl with | [_, _, _], _ => rfl
theorem cd__law_part {X : Cx} (e1 : X.prog = P) (e2 : X.w = w) (e3 : X.K = K) (e4 : X.mg = mg) (e5 : X.base = base) : CalD X 11 "_law_part" [] (spS T [] 3 G__law_part) := by
  subst e1 e2 e3 e4 e5
  exact ⟨⟨h.a__law_part, h.d__law_part, _, [], h.m__law_part, h.F__law_part.kp, bd__law_part h, .nil, ok__law_part h⟩⟩
def g_law : GS := (gSeq (gFor (.nm 1) (gRangeI (gCons (gF dMax2 (gCons (gC (.int 1)) (gCons (gF dMin2 (gCons (gC (.int 2)) (gCons (gF dLen (gCons (gVar 0) gNil)) gNil))) gNil))) gNil)) (gSeq (gSet 2 (gCall G__law_tape [] (gCons (gVar 0) (gCons (gVar 1) gNil))))
    (gSeq (gSet 3 (gCallT G__law_grid 2 (gCons (gC (.int 4)) (gCons (gC (.int 6)) gNil))))
    (gSeq (gPar [4, 5] (gCons (gCallT G__law_made 2 (gCons (gVar 3) gNil)) (gCons (gF dLen (gCons (g2 dIx (gVar 3) (gC (.int 0))) gNil)) gNil)))
    (gSeq (gAsg (.tup [6, 7]) (gCallT G__law_stretch 2 (gCons (gVar 5) gNil)))
    (gSeq (gIf (gTest (g2 hNe_q (gCall G__law_part [] (gCons (gVar 4) (gCons (gVar 6) (gCons (gVar 7) gNil)))) (gLc [11] (.nm 11) (gSeqI (gVar 3)) gYes (gSl (gVar 11) (gSo (gVar 6)) (gSo (g2 hAdd_i (gVar 7) (gC (.int 1)))))))) (gRet (gC (.bl false))) gNext)
    (gSeq (gSet 8 (gMeth 1 G_Line_backwards [] (gVar 4) gNil))
    (gSeq (gIf (gOr (gTest (g2 hNe_q (gMeth 1 G_Line_rows [] (gVar 8) gNil) (gLc [11] (.nm 11) (gSeqI (gRevL (gVar 3))) gYes (gRevL (gVar 11))))) (gTest (g2 hNe_q (gMeth 1 G_Line_backwards [] (gVar 8) gNil) (gVar 4)))) (gRet (gC (.bl false))) gNext)
    (gSeq (gIf (gTest (g2 hNe_q (gMeth 1 G_Line_backwards [] (gMeth 1 G_Line_part [] (gVar 8) (gCons (g2 hSub_i (g2 hSub_i (gVar 5) (gC (.int 1))) (gVar 7)) (gCons (g2 hSub_i (g2 hSub_i (gVar 5) (gC (.int 1))) (gVar 6)) gNil))) gNil) (gMethK 1 G_Line_part D_kw_Line_part_0_last_first (gVar 4) gNil (gCons (gVar 7) (gCons (gVar 6) gNil))))) (gRet (gC (.bl false))) gNext)
    (gSeq (gSet 9 (g2 dIx (gLst (gCons (gC .non) (gCons (g1 hNeg_i (gC (.int 1))) (gCons (gVar 5) (gCons (gC (.bl true)) (gCons (gC (.str "0")) (gCons (gMake 0 2 G_Ratiodd_initdd [.int 1] (gCons (gC (.int 0)) gNil)) (gCons (gLst (gCons (gC (.int 0)) gNil)) gNil)))))))) (gCallT G__law_pick 2 (gCons (gC (.int 7)) gNil))))
    (gSeq (gSet 10 (g2 dIx (gLst (gCons (gC .non) (gCons (g1 hNeg_i (gC (.int 1))) (gCons (gVar 5) (gCons (gC (.bl true)) (gCons (gC (.str "0")) (gCons (gMake 0 2 G_Ratiodd_initdd [.int 1] (gCons (gC (.int 0)) gNil)) (gCons (gC (.dic [] [])) (gCons (g2 hSub_i (gVar 6) (gC (.int 1))) gNil))))))))) (gCallT G__law_pick 2 (gCons (gC (.int 8)) gNil))))
    (gSeq (gIf (gTest (g2 hNe_q (gLst (gCons (gC (.str "job")) (gCons (gCall (G__law_shown 2) [] (gCons (gVar 9) gNil)) gNil))) (gCall G__law_part [] (gCons (gVar 4) (gCons (gVar 9) (gCons (gVar 10) gNil)))))) (gRet (gC (.bl false))) gNext)
    (gIf (gOr (gTest (g2 hNe_q (gCall G__law_part [] (gCons (gVar 4) (gCons (gVar 6) (gCons (gVar 10) gNil)))) (gLst (gCons (gC (.str "job")) (gCons (gCall (G__law_shown 2) [] (gCons (gVar 10) gNil)) gNil))))) (gTest (g2 hNe_q (gMeth 1 G_Line_rows [] (gVar 4) gNil) (gVar 3)))) (gRet (gC (.bl false))) gNext)))))))))))))
    (gRet (gC (.bl true))))
def G_law : G := gFun [] 12 g_law
theorem ok_law : FnOk P w K mg base (L2N.CX P w) 12 h.a_law h.d_law ["_law_script"] (spS T [] 1 G_law) :=
  fun_tl h.F_law sc_law [] (by decide) (ms' := [.sh, .sh, .sh, .sh, .sh, .sh, .sh, .sh, .sh, .sh, .sh, .sh]) rfl fun cdv A outer s H E vs env0 hr jo =>
    (sb_cons (ss_for PassesOwn.leaving rfl (si_range1 rfl h.m_range (sa_cons (b_max h (sa_cons se_int (sa_cons (b_min h (sa_cons se_int (sa_cons (b_len h (sa_cons (se_var 0) sa_nil)) sa_nil))) sa_nil))) sa_nil) (cnt_cons cnt_nil)) (pg_name sc_law.nd rfl (Or.inl rfl) (i := 1)) (tg_name 1 rfl) (sb_cons (ss_setP 2 (sp_call (c := 2) (dds := []) (cd__law_tape h rfl rfl rfl rfl rfl) (hr.mono (by decide)) (L2N.takes_of rfl rfl rfl rfl) rfl (fun _ => RepL.nil) (sa_cons (se_var 0) (sa_cons (se_var 1) sa_nil)) (cnt_cons (cnt_cons cnt_nil))) sc_law.nd rfl (.inl rfl) rfl)
    (sb_cons (ss_set 3 (se_callT (j := 2) (n := 2) (cd__law_grid h rfl rfl rfl rfl rfl) (hr.mono (by decide)) (L2N.takes_of rfl rfl rfl rfl) rfl rfl (sa_cons se_int (sa_cons se_int sa_nil)) (cnt_cons (cnt_cons cnt_nil))) sc_law.nd rfl (.inl rfl) rfl)
    (sb_cons (ss_par 4 5 rfl sc_law.nd (sa_cons (se_callT (j := 2) (n := 1) (cd__law_made h rfl rfl rfl rfl rfl) (hr.mono (by decide)) (L2N.takes_of rfl rfl rfl rfl) rfl rfl (sa_cons (se_var 3) sa_nil) (cnt_cons cnt_nil)) (sa_cons (b_len h (sa_cons (se_ix h.hK (se_var 3) se_int) sa_nil)) sa_nil)) rfl)
    (sb_cons (ss_asg (se_callT (j := 2) (n := 1) (cd__law_stretch h rfl rfl rfl rfl rfl) (hr.mono (by decide)) (L2N.takes_of rfl rfl rfl rfl) rfl rfl (sa_cons (se_var 5) sa_nil) (cnt_cons cnt_nil)) (pg_tup rfl (pgs_cons (pg_name sc_law.nd rfl (Or.inr rfl) (i := 6)) (pgs_cons (pg_name sc_law.nd rfl (Or.inr rfl) (i := 7)) pgs_nil))) (tg_tupK h.hK [6, 7] (allSh_of rfl)) rfl (allSh_of rfl))
    (sb_cons (ss_if (st_cmp (oNe_q h rfl rfl rfl rfl rfl (hr.mono (by decide))) (se_call (c := 3) (dds := []) (cd__law_part h rfl rfl rfl rfl rfl) (hr.mono (by decide)) (L2N.takes_of rfl rfl rfl rfl) rfl (fun _ => RepL.nil) (sa_cons (se_var 4) (sa_cons (se_var 6) (sa_cons (se_var 7) sa_nil))) (cnt_cons (cnt_cons (cnt_cons cnt_nil)))) (SP'.sh rfl (sp_lc (own := [("_law_row", 11)]) (k := .sh) rfl sc_law.nd (si_seq h.hK (se_var 3)) (blk_of rfl) (fun _ _ _ _ _ => pg_name (sc_law.nd) rfl (by first | exact Or.inl rfl | exact Or.inr rfl) (i := 11)) (tg_name 11 rfl) (fun _ _ _ _ _ => sts_nil) (fun _ _ _ _ _ => (SE.sp (se_slice h.hK (se_var 11) (so_some (se_var 6)) (so_some (se_op (oAdd_i h hr) (se_var 7) se_int))))) (by decide) (by decide)))) (sb_one (ss_ret ⟨jo.len, jo.lo⟩ rfl (pmOk_get rfl) se_bl rfl)) sb_nil rfl)
    (sb_cons (ss_set 8 (se_meth0 (dds := []) (h.cls1 _ rfl) (md_Line_backwards h rfl rfl rfl rfl rfl) (hr.mono (by decide)) (L2N.takes_of rfl rfl rfl rfl) (fun _ => RepL.nil) (se_var 4)) sc_law.nd rfl (.inl rfl) rfl)
    (sb_cons (ss_if (st_sw (sw_or (st_cmp (oNe_q h rfl rfl rfl rfl rfl (hr.mono (by decide))) (se_meth0 (dds := []) (h.cls1 _ rfl) (md_Line_rows h rfl rfl rfl rfl rfl) (hr.mono (by decide)) (L2N.takes_of rfl rfl rfl rfl) (fun _ => RepL.nil) (se_var 8)) (SP'.sh rfl (sp_lc (own := [("_law_row", 11)]) (k := .sh) rfl sc_law.nd (si_seq h.hK (se_revL (se_var 3))) (blk_of rfl) (fun _ _ _ _ _ => pg_name (sc_law.nd) rfl (by first | exact Or.inl rfl | exact Or.inr rfl) (i := 11)) (tg_name 11 rfl) (fun _ _ _ _ _ => sts_nil) (fun _ _ _ _ _ => (SE.sp (se_revL (se_var 11)))) (by decide) (by decide)))) (sw_or1 (st_cmp (oNe_q h rfl rfl rfl rfl rfl (hr.mono (by decide))) (se_meth0 (dds := []) (h.cls1 _ rfl) (md_Line_backwards h rfl rfl rfl rfl rfl) (hr.mono (by decide)) (L2N.takes_of rfl rfl rfl rfl) (fun _ => RepL.nil) (se_var 8)) (se_var 4))))) (sb_one (ss_ret ⟨jo.len, jo.lo⟩ rfl (pmOk_get rfl) se_bl rfl)) sb_nil rfl)
    (sb_cons (ss_if (st_cmp (oNe_q h rfl rfl rfl rfl rfl (hr.mono (by decide))) (se_meth0 (dds := []) (h.cls1 _ rfl) (md_Line_backwards h rfl rfl rfl rfl rfl) (hr.mono (by decide)) (L2N.takes_of rfl rfl rfl rfl) (fun _ => RepL.nil) (se_meth (cnt := 2) (dds := []) (h.cls1 _ rfl) (md_Line_part h rfl rfl rfl rfl rfl) (hr.mono (by decide)) (L2N.takes_of rfl rfl rfl rfl) (fun _ => RepL.nil) (se_var 8) (sa_cons (se_op (oSub_i h hr) (se_op (oSub_i h hr) (se_var 5) se_int) (se_var 7)) (sa_cons (se_op (oSub_i h hr) (se_op (oSub_i h hr) (se_var 5) se_int) (se_var 6)) sa_nil)) (cnt_cons (cnt_cons cnt_nil)))) (se_methK0 (ks := ["last", "first"]) (cnt := 3) (h.cls1 _ rfl) (kw_Line_part_0_last_first h rfl rfl rfl rfl rfl) (hr.mono (by decide)) (L2N.takes_of rfl rfl rfl rfl) (se_var 4) (sk_cons (se_var 7) (sk_cons (se_var 6) sk_nil)) (cnt_cons (cnt_cons cnt_nil)) hD_kw_Line_part_0_last_first)) (sb_one (ss_ret ⟨jo.len, jo.lo⟩ rfl (pmOk_get rfl) se_bl rfl)) sb_nil rfl)
    (sb_cons (ss_set 9 (se_ix h.hK (SP'.sh rfl (sp_lst (sa_cons se_non (sa_cons (se_un (oNeg_i h hr) se_int) (sa_cons (se_var 5) (sa_cons se_bl (sa_cons se_str (sa_cons (SP'.sh rfl (sp_make (cnt := 1) (dds := [.int 1]) (mk_Ratiodd_initdd_1 h rfl rfl rfl rfl rfl) (hr.mono (by decide)) (L2N.takes_of rfl rfl rfl rfl) rfl (by rw [h.fl0]; rfl) (fun _ => RepL.one (by unfold Rep; rfl)) (sa_cons se_int sa_nil) (cnt_cons cnt_nil))) (sa_cons (SP'.sh rfl (sp_lst (sa_cons se_int sa_nil))) sa_nil))))))))) (se_callT (j := 2) (n := 1) (cd__law_pick h rfl rfl rfl rfl rfl) (hr.mono (by decide)) (L2N.takes_of rfl rfl rfl rfl) rfl rfl (sa_cons se_int sa_nil) (cnt_cons cnt_nil))) sc_law.nd rfl (.inl rfl) rfl)
    (sb_cons (ss_set 10 (se_ix h.hK (SP'.sh rfl (sp_lst (sa_cons se_non (sa_cons (se_un (oNeg_i h hr) se_int) (sa_cons (se_var 5) (sa_cons se_bl (sa_cons se_str (sa_cons (SP'.sh rfl (sp_make (cnt := 1) (dds := [.int 1]) (mk_Ratiodd_initdd_1 h rfl rfl rfl rfl rfl) (hr.mono (by decide)) (L2N.takes_of rfl rfl rfl rfl) rfl (by rw [h.fl0]; rfl) (fun _ => RepL.one (by unfold Rep; rfl)) (sa_cons se_int sa_nil) (cnt_cons cnt_nil))) (sa_cons se_dict0 (sa_cons (se_op (oSub_i h hr) (se_var 6) se_int) sa_nil)))))))))) (se_callT (j := 2) (n := 1) (cd__law_pick h rfl rfl rfl rfl rfl) (hr.mono (by decide)) (L2N.takes_of rfl rfl rfl rfl) rfl rfl (sa_cons se_int sa_nil) (cnt_cons cnt_nil))) sc_law.nd rfl (.inl rfl) rfl)
    (sb_cons (ss_if (st_cmp (oNe_q h rfl rfl rfl rfl rfl (hr.mono (by decide))) (SP'.sh rfl (sp_lst (sa_cons se_str (sa_cons (se_callQ (cnt := 1) (dds := []) (cdB__law_shown h 2 rfl rfl rfl rfl rfl) (.inl ⟨rfl, hr.mono (by decide)⟩) (L2N.takes_of rfl rfl rfl rfl) rfl (fun _ => RepL.nil) (sa_cons (se_var 9) sa_nil) (cnt_cons cnt_nil)) sa_nil)))) (se_call (c := 3) (dds := []) (cd__law_part h rfl rfl rfl rfl rfl) (hr.mono (by decide)) (L2N.takes_of rfl rfl rfl rfl) rfl (fun _ => RepL.nil) (sa_cons (se_var 4) (sa_cons (se_var 9) (sa_cons (se_var 10) sa_nil))) (cnt_cons (cnt_cons (cnt_cons cnt_nil))))) (sb_one (ss_ret ⟨jo.len, jo.lo⟩ rfl (pmOk_get rfl) se_bl rfl)) sb_nil rfl)
    (sb_one (SS.lessN (ss_if (st_sw (sw_or (st_cmp (oNe_q h rfl rfl rfl rfl rfl (hr.mono (by decide))) (se_call (c := 3) (dds := []) (cd__law_part h rfl rfl rfl rfl rfl) (hr.mono (by decide)) (L2N.takes_of rfl rfl rfl rfl) rfl (fun _ => RepL.nil) (sa_cons (se_var 4) (sa_cons (se_var 6) (sa_cons (se_var 10) sa_nil))) (cnt_cons (cnt_cons (cnt_cons cnt_nil)))) (SP'.sh rfl (sp_lst (sa_cons se_str (sa_cons (se_callQ (cnt := 1) (dds := []) (cdB__law_shown h 2 rfl rfl rfl rfl rfl) (.inl ⟨rfl, hr.mono (by decide)⟩) (L2N.takes_of rfl rfl rfl rfl) rfl (fun _ => RepL.nil) (sa_cons (se_var 10) sa_nil) (cnt_cons cnt_nil)) sa_nil))))) (sw_or1 (st_cmp (oNe_q h rfl rfl rfl rfl rfl (hr.mono (by decide))) (se_meth0 (dds := []) (h.cls1 _ rfl) (md_Line_rows h rfl rfl rfl rfl rfl) (hr.mono (by decide)) (L2N.takes_of rfl rfl rfl rfl) (fun _ => RepL.nil) (se_var 4)) (se_var 3))))) (sb_one (ss_ret ⟨jo.len, jo.lo⟩ rfl (pmOk_get rfl) se_bl rfl)) sb_nil rfl) (.same (.same (.share rfl (.same (.same (.same (.same (.same (.same (.same (.same (.same .nil))))))))))))))))))))))))) rfl (allSh_of rfl))
    (sb_one (ss_ret ⟨jo.len, jo.lo⟩ rfl (pmOk_get rfl) se_bl rfl)))
theorem bd_law : Binds K h.d_law ["_law_script"] [] := h.F_law.binds (ps := ["_law_script"]) fun _ _ _ _ _ _ us hl => match us, hl with | [_], _ => rfl
theorem cd_law {X : Cx} (e1 : X.prog = P) (e2 : X.w = w) (e3 : X.K = K) (e4 : X.mg = mg) (e5 : X.base = base) : CalD X 12 "law" [] (spS T [] 1 G_law) := by
  subst e1 e2 e3 e4 e5
  exact ⟨⟨h.a_law, h.d_law, _, [], h.m_law, h.F_law.kp, bd_law h, .nil, ok_law h⟩⟩
end
end P04

set_option Elab.async false
set_option linter.all false
set_option maxRecDepth 100000
set_option maxHeartbeats 1000000
namespace P04
open PySem PySem.Spec PyProof.Rows L2 TL
theorem kit1 {K : PySem.W.Frag} {t u : Value} {b : Bool} (h : PySem.W.kitOne K t u = some b) : PySem.W.kitAny K t [u] = some b := by
  unfold PySem.W.kitAny
  rw [h]
  cases b <;> rfl
theorem kit2 {K : PySem.W.Frag} {t u v : Value} {b c : Bool} (h : PySem.W.kitOne K t u = some b) (h' : PySem.W.kitOne K t v = some c) : PySem.W.kitAny K t [u, v] = some (b || c) := by
  unfold PySem.W.kitAny
  rw [h]
  cases b
  · exact kit1 h'
  · rfl
def clOf (l : List (Nat × Addr)) (n : Nat) : Addr := (l.lookup n).getD 0
def st_BadNumber_init : Stmt := (inC (top 6)).getD 0 (.Pass ⟨0, 0, 0, 0⟩)
theorem sc_BadNumber_init : FnScope ["self", "given"] ["self", "given"] (defScope st_BadNumber_init) := ⟨rfl, rfl, rfl, by decide +kernel, rfl, by decide +kernel, by decide +kernel⟩
def st_BadLine_init : Stmt := (inC (top 7)).getD 0 (.Pass ⟨0, 0, 0, 0⟩)
theorem sc_BadLine_init : FnScope ["self", "given"] ["self", "given"] (defScope st_BadLine_init) := ⟨rfl, rfl, rfl, by decide +kernel, rfl, by decide +kernel, by decide +kernel⟩
def st_BadServer_init : Stmt := (inC (top 8)).getD 0 (.Pass ⟨0, 0, 0, 0⟩)
theorem sc_BadServer_init : FnScope ["self", "given"] ["self", "given"] (defScope st_BadServer_init) := ⟨rfl, rfl, rfl, by decide +kernel, rfl, by decide +kernel, by decide +kernel⟩
def st_BadJob_init : Stmt := (inC (top 9)).getD 0 (.Pass ⟨0, 0, 0, 0⟩)
theorem sc_BadJob_init : FnScope ["self", "given"] ["self", "given"] (defScope st_BadJob_init) := ⟨rfl, rfl, rfl, by decide +kernel, rfl, by decide +kernel, by decide +kernel⟩
def flOf : Nat → List Str
  | 0 => ["_top", "_bottom"]
  | 1 => ["_rows"]
  | _ => []
def tbOf (K : PySem.W.Frag) (C0 C1 C2 C4 C5 C6 C7 : Addr) : Tb := ⟨K, fun _ => 0, fun n => match n with
  | 0 => C0
  | 1 => C1
  | 2 => C2
  | 4 => C4
  | 5 => C5
  | 6 => C6
  | 7 => C7
  | _ => C0, flOf⟩
theorem fx_mk {K : PySem.W.Frag} {h : Heap} {mg : Str → Option Value} (X0 : K.In h) (G0 : h.Ns mainGlobals mg) {C0 : Addr} {C1 : Addr} {C2 : Addr} {C4 : Addr} {C5 : Addr} {C6 : Addr} {C7 : Addr} {f_is_int : Addr} {oc_is_int : Value} {dc_is_int : Value} {pm_is_int : Value} {cd_is_int : Value} {ct_is_int : Value} {kV_is_int : Value} {od_is_int : Option Addr} {an_is_int : Option Addr} {sl_is_int : Array (Option Value)} {f_Ratiodd_initdd : Addr} {oc_Ratiodd_initdd : Value} {dc_Ratiodd_initdd : Value} {pm_Ratiodd_initdd : Value} {cd_Ratiodd_initdd : Value} {ct_Ratiodd_initdd : Value} {kV_Ratiodd_initdd : Value} {od_Ratiodd_initdd : Option Addr} {an_Ratiodd_initdd : Option Addr} {sl_Ratiodd_initdd : Array (Option Value)} {tD_Ratiodd_initdd : Addr} {n_Ratiodd_initdd : Nat} {cs_Ratiodd_initdd : Value} {ds_Ratiodd_initdd : Option Addr} {t_Ratiodd_initdd : Tok} {so_Ratiodd_initdd : Array (Option Value)} {f_is_number : Addr} {oc_is_number : Value} {dc_is_number : Value} {pm_is_number : Value} {cd_is_number : Value} {ct_is_number : Value} {kV_is_number : Value} {od_is_number : Option Addr} {an_is_number : Option Addr} {sl_is_number : Array (Option Value)} {f_as_ratio : Addr} {oc_as_ratio : Value} {dc_as_ratio : Value} {pm_as_ratio : Value} {cd_as_ratio : Value} {ct_as_ratio : Value} {kV_as_ratio : Value} {od_as_ratio : Option Addr} {an_as_ratio : Option Addr} {sl_as_ratio : Array (Option Value)} {f_Ratio_top : Addr} {p_Ratio_top : Addr} {r_Ratio_top : List Value} {oc_Ratio_top : Value} {dc_Ratio_top : Value} {pm_Ratio_top : Value} {cd_Ratio_top : Value} {ct_Ratio_top : Value} {kV_Ratio_top : Value} {od_Ratio_top : Option Addr} {an_Ratio_top : Option Addr} {sl_Ratio_top : Array (Option Value)} {f_Ratio_bottom : Addr} {p_Ratio_bottom : Addr} {r_Ratio_bottom : List Value} {oc_Ratio_bottom : Value} {dc_Ratio_bottom : Value} {pm_Ratio_bottom : Value} {cd_Ratio_bottom : Value} {ct_Ratio_bottom : Value} {kV_Ratio_bottom : Value} {od_Ratio_bottom : Option Addr} {an_Ratio_bottom : Option Addr} {sl_Ratio_bottom : Array (Option Value)} {f_Ratiodd_adddd : Addr} {oc_Ratiodd_adddd : Value} {dc_Ratiodd_adddd : Value} {pm_Ratiodd_adddd : Value} {cd_Ratiodd_adddd : Value} {ct_Ratiodd_adddd : Value} {kV_Ratiodd_adddd : Value} {od_Ratiodd_adddd : Option Addr} {an_Ratiodd_adddd : Option Addr} {sl_Ratiodd_adddd : Array (Option Value)} {f_Ratiodd_negdd : Addr} {oc_Ratiodd_negdd : Value} {dc_Ratiodd_negdd : Value} {pm_Ratiodd_negdd : Value} {cd_Ratiodd_negdd : Value} {ct_Ratiodd_negdd : Value} {kV_Ratiodd_negdd : Value} {od_Ratiodd_negdd : Option Addr} {an_Ratiodd_negdd : Option Addr} {sl_Ratiodd_negdd : Array (Option Value)} {f_Ratiodd_subdd : Addr} {oc_Ratiodd_subdd : Value} {dc_Ratiodd_subdd : Value} {pm_Ratiodd_subdd : Value} {cd_Ratiodd_subdd : Value} {ct_Ratiodd_subdd : Value} {kV_Ratiodd_subdd : Value} {od_Ratiodd_subdd : Option Addr} {an_Ratiodd_subdd : Option Addr} {sl_Ratiodd_subdd : Array (Option Value)} {f_Ratiodd_muldd : Addr} {oc_Ratiodd_muldd : Value} {dc_Ratiodd_muldd : Value} {pm_Ratiodd_muldd : Value} {cd_Ratiodd_muldd : Value} {ct_Ratiodd_muldd : Value} {kV_Ratiodd_muldd : Value} {od_Ratiodd_muldd : Option Addr} {an_Ratiodd_muldd : Option Addr} {sl_Ratiodd_muldd : Array (Option Value)} {f_Ratiodd_eqdd : Addr} {oc_Ratiodd_eqdd : Value} {dc_Ratiodd_eqdd : Value} {pm_Ratiodd_eqdd : Value} {cd_Ratiodd_eqdd : Value} {ct_Ratiodd_eqdd : Value} {kV_Ratiodd_eqdd : Value} {od_Ratiodd_eqdd : Option Addr} {an_Ratiodd_eqdd : Option Addr} {sl_Ratiodd_eqdd : Array (Option Value)} {f_Ratiodd_ltdd : Addr} {oc_Ratiodd_ltdd : Value} {dc_Ratiodd_ltdd : Value} {pm_Ratiodd_ltdd : Value} {cd_Ratiodd_ltdd : Value} {ct_Ratiodd_ltdd : Value} {kV_Ratiodd_ltdd : Value} {od_Ratiodd_ltdd : Option Addr} {an_Ratiodd_ltdd : Option Addr} {sl_Ratiodd_ltdd : Array (Option Value)} {f_Ratiodd_ledd : Addr} {oc_Ratiodd_ledd : Value} {dc_Ratiodd_ledd : Value} {pm_Ratiodd_ledd : Value} {cd_Ratiodd_ledd : Value} {ct_Ratiodd_ledd : Value} {kV_Ratiodd_ledd : Value} {od_Ratiodd_ledd : Option Addr} {an_Ratiodd_ledd : Option Addr} {sl_Ratiodd_ledd : Array (Option Value)} {f_is_list : Addr} {oc_is_list : Value} {dc_is_list : Value} {pm_is_list : Value} {cd_is_list : Value} {ct_is_list : Value} {kV_is_list : Value} {od_is_list : Option Addr} {an_is_list : Option Addr} {sl_is_list : Array (Option Value)} {f_is_time : Addr} {oc_is_time : Value} {dc_is_time : Value} {pm_is_time : Value} {cd_is_time : Value} {ct_is_time : Value} {kV_is_time : Value} {od_is_time : Option Addr} {an_is_time : Option Addr} {sl_is_time : Array (Option Value)} {f_is_row : Addr} {oc_is_row : Value} {dc_is_row : Value} {pm_is_row : Value} {cd_is_row : Value} {ct_is_row : Value} {kV_is_row : Value} {od_is_row : Option Addr} {an_is_row : Option Addr} {sl_is_row : Array (Option Value)} {f_is_table : Addr} {oc_is_table : Value} {dc_is_table : Value} {pm_is_table : Value} {cd_is_table : Value} {ct_is_table : Value} {kV_is_table : Value} {od_is_table : Option Addr} {an_is_table : Option Addr} {sl_is_table : Array (Option Value)} {f_is_index : Addr} {oc_is_index : Value} {dc_is_index : Value} {pm_is_index : Value} {cd_is_index : Value} {ct_is_index : Value} {kV_is_index : Value} {od_is_index : Option Addr} {an_is_index : Option Addr} {sl_is_index : Array (Option Value)} {f_Linedd_initdd : Addr} {oc_Linedd_initdd : Value} {dc_Linedd_initdd : Value} {pm_Linedd_initdd : Value} {cd_Linedd_initdd : Value} {ct_Linedd_initdd : Value} {kV_Linedd_initdd : Value} {od_Linedd_initdd : Option Addr} {an_Linedd_initdd : Option Addr} {sl_Linedd_initdd : Array (Option Value)} {f_Linedd_eqdd : Addr} {oc_Linedd_eqdd : Value} {dc_Linedd_eqdd : Value} {pm_Linedd_eqdd : Value} {cd_Linedd_eqdd : Value} {ct_Linedd_eqdd : Value} {kV_Linedd_eqdd : Value} {od_Linedd_eqdd : Option Addr} {an_Linedd_eqdd : Option Addr} {sl_Linedd_eqdd : Array (Option Value)} {f_Line_jobs : Addr} {oc_Line_jobs : Value} {dc_Line_jobs : Value} {pm_Line_jobs : Value} {cd_Line_jobs : Value} {ct_Line_jobs : Value} {kV_Line_jobs : Value} {od_Line_jobs : Option Addr} {an_Line_jobs : Option Addr} {sl_Line_jobs : Array (Option Value)} {f_Line_rows : Addr} {oc_Line_rows : Value} {dc_Line_rows : Value} {pm_Line_rows : Value} {cd_Line_rows : Value} {ct_Line_rows : Value} {kV_Line_rows : Value} {od_Line_rows : Option Addr} {an_Line_rows : Option Addr} {sl_Line_rows : Array (Option Value)} {f_check_job : Addr} {oc_check_job : Value} {dc_check_job : Value} {pm_check_job : Value} {cd_check_job : Value} {ct_check_job : Value} {kV_check_job : Value} {od_check_job : Option Addr} {an_check_job : Option Addr} {sl_check_job : Array (Option Value)} {f_check_stretch : Addr} {oc_check_stretch : Value} {dc_check_stretch : Value} {pm_check_stretch : Value} {cd_check_stretch : Value} {ct_check_stretch : Value} {kV_check_stretch : Value} {od_check_stretch : Option Addr} {an_check_stretch : Option Addr} {sl_check_stretch : Array (Option Value)} {f_Line_part : Addr} {oc_Line_part : Value} {dc_Line_part : Value} {pm_Line_part : Value} {cd_Line_part : Value} {ct_Line_part : Value} {kV_Line_part : Value} {od_Line_part : Option Addr} {an_Line_part : Option Addr} {sl_Line_part : Array (Option Value)} {f_Line_backwards : Addr} {oc_Line_backwards : Value} {dc_Line_backwards : Value} {pm_Line_backwards : Value} {cd_Line_backwards : Value} {ct_Line_backwards : Value} {kV_Line_backwards : Value} {od_Line_backwards : Option Addr} {an_Line_backwards : Option Addr} {sl_Line_backwards : Array (Option Value)} {f__law_tape : Addr} {oc__law_tape : Value} {dc__law_tape : Value} {pm__law_tape : Value} {cd__law_tape : Value} {ct__law_tape : Value} {kV__law_tape : Value} {od__law_tape : Option Addr} {an__law_tape : Option Addr} {sl__law_tape : Array (Option Value)} {f__law_pick : Addr} {oc__law_pick : Value} {dc__law_pick : Value} {pm__law_pick : Value} {cd__law_pick : Value} {ct__law_pick : Value} {kV__law_pick : Value} {od__law_pick : Option Addr} {an__law_pick : Option Addr} {sl__law_pick : Array (Option Value)} {f__law_size : Addr} {oc__law_size : Value} {dc__law_size : Value} {pm__law_size : Value} {cd__law_size : Value} {ct__law_size : Value} {kV__law_size : Value} {od__law_size : Option Addr} {an__law_size : Option Addr} {sl__law_size : Array (Option Value)} {f__law_stretch : Addr} {oc__law_stretch : Value} {dc__law_stretch : Value} {pm__law_stretch : Value} {cd__law_stretch : Value} {ct__law_stretch : Value} {kV__law_stretch : Value} {od__law_stretch : Option Addr} {an__law_stretch : Option Addr} {sl__law_stretch : Array (Option Value)} {f__law_grid : Addr} {oc__law_grid : Value} {dc__law_grid : Value} {pm__law_grid : Value} {cd__law_grid : Value} {ct__law_grid : Value} {kV__law_grid : Value} {od__law_grid : Option Addr} {an__law_grid : Option Addr} {sl__law_grid : Array (Option Value)} {f__law_made : Addr} {oc__law_made : Value} {dc__law_made : Value} {pm__law_made : Value} {cd__law_made : Value} {ct__law_made : Value} {kV__law_made : Value} {od__law_made : Option Addr} {an__law_made : Option Addr} {sl__law_made : Array (Option Value)} {f__law_shown : Addr} {oc__law_shown : Value} {dc__law_shown : Value} {pm__law_shown : Value} {cd__law_shown : Value} {ct__law_shown : Value} {kV__law_shown : Value} {od__law_shown : Option Addr} {an__law_shown : Option Addr} {sl__law_shown : Array (Option Value)} {f__law_part : Addr} {oc__law_part : Value} {dc__law_part : Value} {pm__law_part : Value} {cd__law_part : Value} {ct__law_part : Value} {kV__law_part : Value} {od__law_part : Option Addr} {an__law_part : Option Addr} {sl__law_part : Array (Option Value)} {f_law : Addr} {oc_law : Value} {dc_law : Value} {pm_law : Value} {cd_law : Value} {ct_law : Value} {kV_law : Value} {od_law : Option Addr} {an_law : Option Addr} {sl_law : Array (Option Value)} {nmC4 : Str} {qnC4 : Str} {NC4 : Addr} {bsC4 : List Value} {bmC4 : List Value} {snC4 : List Str} {sbC4 : List Value} {abC4 : Bool} {coC4 : Option Bool} {ddC4 : Option Addr} {x0C4 : Option Value} {x1C4 : Option Value} {x2C4 : Option Value} {x3C4 : Option Value} {x5C4 : Option Value} {fiC4 : Addr} {oc_iniC4 : Value} {dc_iniC4 : Value} {pm_iniC4 : Value} {cd_iniC4 : Value} {ct_iniC4 : Value} {kV_iniC4 : Value} {od_iniC4 : Option Addr} {an_iniC4 : Option Addr} {sl_iniC4 : Array (Option Value)} {nmC5 : Str} {qnC5 : Str} {NC5 : Addr} {bsC5 : List Value} {bmC5 : List Value} {snC5 : List Str} {sbC5 : List Value} {abC5 : Bool} {coC5 : Option Bool} {ddC5 : Option Addr} {x0C5 : Option Value} {x1C5 : Option Value} {x2C5 : Option Value} {x3C5 : Option Value} {x5C5 : Option Value} {fiC5 : Addr} {oc_iniC5 : Value} {dc_iniC5 : Value} {pm_iniC5 : Value} {cd_iniC5 : Value} {ct_iniC5 : Value} {kV_iniC5 : Value} {od_iniC5 : Option Addr} {an_iniC5 : Option Addr} {sl_iniC5 : Array (Option Value)} {nmC6 : Str} {qnC6 : Str} {NC6 : Addr} {bsC6 : List Value} {bmC6 : List Value} {snC6 : List Str} {sbC6 : List Value} {abC6 : Bool} {coC6 : Option Bool} {ddC6 : Option Addr} {x0C6 : Option Value} {x1C6 : Option Value} {x2C6 : Option Value} {x3C6 : Option Value} {x5C6 : Option Value} {fiC6 : Addr} {oc_iniC6 : Value} {dc_iniC6 : Value} {pm_iniC6 : Value} {cd_iniC6 : Value} {ct_iniC6 : Value} {kV_iniC6 : Value} {od_iniC6 : Option Addr} {an_iniC6 : Option Addr} {sl_iniC6 : Array (Option Value)} {nmC7 : Str} {qnC7 : Str} {NC7 : Addr} {bsC7 : List Value} {bmC7 : List Value} {snC7 : List Str} {sbC7 : List Value} {abC7 : Bool} {coC7 : Option Bool} {ddC7 : Option Addr} {x0C7 : Option Value} {x1C7 : Option Value} {x2C7 : Option Value} {x3C7 : Option Value} {x5C7 : Option Value} {fiC7 : Addr} {oc_iniC7 : Value} {dc_iniC7 : Value} {pm_iniC7 : Value} {cd_iniC7 : Value} {ct_iniC7 : Value} {kV_iniC7 : Value} {od_iniC7 : Option Addr} {an_iniC7 : Option Addr} {sl_iniC7 : Array (Option Value)} {t_MOST_SERVERS : Tok} {t_MOST_JOBS : Tok}
    (gC0 : PySem.W.nsIn K mainGlobals "Ratio" = some (some (.ref C0)))
    (gC1 : PySem.W.nsIn K mainGlobals "Line" = some (some (.ref C1)))
    (gC2 : PySem.W.nsIn K mainGlobals "ByZero" = some (some (.ref C2)))
    (gC4 : PySem.W.nsIn K mainGlobals "BadNumber" = some (some (.ref C4)))
    (gC5 : PySem.W.nsIn K mainGlobals "BadLine" = some (some (.ref C5)))
    (gC6 : PySem.W.nsIn K mainGlobals "BadServer" = some (some (.ref C6)))
    (gC7 : PySem.W.nsIn K mainGlobals "BadJob" = some (some (.ref C7)))
    (g_is_int : PySem.W.nsIn K mainGlobals "is_int" = some (some (.ref f_is_int)))
    (l_is_int : K.lookup f_is_int = some ⟨oc_is_int, od_is_int, .func (PySem.W.fnOf "is_int" "is_int" (defArgs st_is_int) (defBody st_is_int) (defScope st_is_int) .none kV_is_int dc_is_int pm_is_int an_is_int cd_is_int ct_is_int), sl_is_int⟩)
    (c_is_int : PySem.W.codeIn K cd_is_int "is_int" = true)
    (k_is_int : PySem.W.keepIn K (.ref f_is_int) = true)
    (g_Ratiodd_initdd : PySem.W.findIn K (.ref C0) "__init__" = some (some (.ref f_Ratiodd_initdd)))
    (i_Ratiodd_initdd : PySem.W.isFn K (.ref f_Ratiodd_initdd) = true)
    (l_Ratiodd_initdd : K.lookup f_Ratiodd_initdd = some ⟨oc_Ratiodd_initdd, od_Ratiodd_initdd, .func (PySem.W.fnOf "__init__" "Ratio.__init__" (defArgs st_Ratiodd_initdd) (defBody st_Ratiodd_initdd) (defScope st_Ratiodd_initdd) (.ref tD_Ratiodd_initdd) kV_Ratiodd_initdd dc_Ratiodd_initdd pm_Ratiodd_initdd an_Ratiodd_initdd cd_Ratiodd_initdd ct_Ratiodd_initdd), sl_Ratiodd_initdd⟩)
    (c_Ratiodd_initdd : PySem.W.codeIn K cd_Ratiodd_initdd "Ratio.__init__" = true)
    (k_Ratiodd_initdd : PySem.W.keepIn K (.ref f_Ratiodd_initdd) = true)
    (z_Ratiodd_initdd : K.lookup tD_Ratiodd_initdd = some ⟨cs_Ratiodd_initdd, ds_Ratiodd_initdd, .seq #[.int 1 t_Ratiodd_initdd] n_Ratiodd_initdd, so_Ratiodd_initdd⟩)
    (g_is_number : PySem.W.nsIn K mainGlobals "is_number" = some (some (.ref f_is_number)))
    (l_is_number : K.lookup f_is_number = some ⟨oc_is_number, od_is_number, .func (PySem.W.fnOf "is_number" "is_number" (defArgs st_is_number) (defBody st_is_number) (defScope st_is_number) .none kV_is_number dc_is_number pm_is_number an_is_number cd_is_number ct_is_number), sl_is_number⟩)
    (c_is_number : PySem.W.codeIn K cd_is_number "is_number" = true)
    (k_is_number : PySem.W.keepIn K (.ref f_is_number) = true)
    (g_as_ratio : PySem.W.nsIn K mainGlobals "as_ratio" = some (some (.ref f_as_ratio)))
    (l_as_ratio : K.lookup f_as_ratio = some ⟨oc_as_ratio, od_as_ratio, .func (PySem.W.fnOf "as_ratio" "as_ratio" (defArgs st_as_ratio) (defBody st_as_ratio) (defScope st_as_ratio) .none kV_as_ratio dc_as_ratio pm_as_ratio an_as_ratio cd_as_ratio ct_as_ratio), sl_as_ratio⟩)
    (c_as_ratio : PySem.W.codeIn K cd_as_ratio "as_ratio" = true)
    (k_as_ratio : PySem.W.keepIn K (.ref f_as_ratio) = true)
    (g_Ratio_top : PySem.W.findIn K (.ref C0) "top" = some (some (.ref p_Ratio_top)))
    (pg_Ratio_top : PySem.W.specialIn K (.ref p_Ratio_top) "__get__" = some (some (.builtin "property.__get__")))
    (pt_Ratio_top : PySem.W.takesIn K (.ref p_Ratio_top) = some true)
    (pr_Ratio_top : PySem.W.recIn K p_Ratio_top "property" = some (.ref f_Ratio_top :: r_Ratio_top))
    (l_Ratio_top : K.lookup f_Ratio_top = some ⟨oc_Ratio_top, od_Ratio_top, .func (PySem.W.fnOf "top" "Ratio.top" (defArgs st_Ratio_top) (defBody st_Ratio_top) (defScope st_Ratio_top) .none kV_Ratio_top dc_Ratio_top pm_Ratio_top an_Ratio_top cd_Ratio_top ct_Ratio_top), sl_Ratio_top⟩)
    (c_Ratio_top : PySem.W.codeIn K cd_Ratio_top "Ratio.top" = true)
    (k_Ratio_top : PySem.W.keepIn K (.ref f_Ratio_top) = true)
    (g_Ratio_bottom : PySem.W.findIn K (.ref C0) "bottom" = some (some (.ref p_Ratio_bottom)))
    (pg_Ratio_bottom : PySem.W.specialIn K (.ref p_Ratio_bottom) "__get__" = some (some (.builtin "property.__get__")))
    (pt_Ratio_bottom : PySem.W.takesIn K (.ref p_Ratio_bottom) = some true)
    (pr_Ratio_bottom : PySem.W.recIn K p_Ratio_bottom "property" = some (.ref f_Ratio_bottom :: r_Ratio_bottom))
    (l_Ratio_bottom : K.lookup f_Ratio_bottom = some ⟨oc_Ratio_bottom, od_Ratio_bottom, .func (PySem.W.fnOf "bottom" "Ratio.bottom" (defArgs st_Ratio_bottom) (defBody st_Ratio_bottom) (defScope st_Ratio_bottom) .none kV_Ratio_bottom dc_Ratio_bottom pm_Ratio_bottom an_Ratio_bottom cd_Ratio_bottom ct_Ratio_bottom), sl_Ratio_bottom⟩)
    (c_Ratio_bottom : PySem.W.codeIn K cd_Ratio_bottom "Ratio.bottom" = true)
    (k_Ratio_bottom : PySem.W.keepIn K (.ref f_Ratio_bottom) = true)
    (g_Ratiodd_adddd : PySem.W.findIn K (.ref C0) "__add__" = some (some (.ref f_Ratiodd_adddd)))
    (i_Ratiodd_adddd : PySem.W.isFn K (.ref f_Ratiodd_adddd) = true)
    (l_Ratiodd_adddd : K.lookup f_Ratiodd_adddd = some ⟨oc_Ratiodd_adddd, od_Ratiodd_adddd, .func (PySem.W.fnOf "__add__" "Ratio.__add__" (defArgs st_Ratiodd_adddd) (defBody st_Ratiodd_adddd) (defScope st_Ratiodd_adddd) .none kV_Ratiodd_adddd dc_Ratiodd_adddd pm_Ratiodd_adddd an_Ratiodd_adddd cd_Ratiodd_adddd ct_Ratiodd_adddd), sl_Ratiodd_adddd⟩)
    (c_Ratiodd_adddd : PySem.W.codeIn K cd_Ratiodd_adddd "Ratio.__add__" = true)
    (k_Ratiodd_adddd : PySem.W.keepIn K (.ref f_Ratiodd_adddd) = true)
    (g_Ratiodd_negdd : PySem.W.findIn K (.ref C0) "__neg__" = some (some (.ref f_Ratiodd_negdd)))
    (i_Ratiodd_negdd : PySem.W.isFn K (.ref f_Ratiodd_negdd) = true)
    (l_Ratiodd_negdd : K.lookup f_Ratiodd_negdd = some ⟨oc_Ratiodd_negdd, od_Ratiodd_negdd, .func (PySem.W.fnOf "__neg__" "Ratio.__neg__" (defArgs st_Ratiodd_negdd) (defBody st_Ratiodd_negdd) (defScope st_Ratiodd_negdd) .none kV_Ratiodd_negdd dc_Ratiodd_negdd pm_Ratiodd_negdd an_Ratiodd_negdd cd_Ratiodd_negdd ct_Ratiodd_negdd), sl_Ratiodd_negdd⟩)
    (c_Ratiodd_negdd : PySem.W.codeIn K cd_Ratiodd_negdd "Ratio.__neg__" = true)
    (k_Ratiodd_negdd : PySem.W.keepIn K (.ref f_Ratiodd_negdd) = true)
    (g_Ratiodd_subdd : PySem.W.findIn K (.ref C0) "__sub__" = some (some (.ref f_Ratiodd_subdd)))
    (i_Ratiodd_subdd : PySem.W.isFn K (.ref f_Ratiodd_subdd) = true)
    (l_Ratiodd_subdd : K.lookup f_Ratiodd_subdd = some ⟨oc_Ratiodd_subdd, od_Ratiodd_subdd, .func (PySem.W.fnOf "__sub__" "Ratio.__sub__" (defArgs st_Ratiodd_subdd) (defBody st_Ratiodd_subdd) (defScope st_Ratiodd_subdd) .none kV_Ratiodd_subdd dc_Ratiodd_subdd pm_Ratiodd_subdd an_Ratiodd_subdd cd_Ratiodd_subdd ct_Ratiodd_subdd), sl_Ratiodd_subdd⟩)
    (c_Ratiodd_subdd : PySem.W.codeIn K cd_Ratiodd_subdd "Ratio.__sub__" = true)
    (k_Ratiodd_subdd : PySem.W.keepIn K (.ref f_Ratiodd_subdd) = true)
    (g_Ratiodd_muldd : PySem.W.findIn K (.ref C0) "__mul__" = some (some (.ref f_Ratiodd_muldd)))
    (i_Ratiodd_muldd : PySem.W.isFn K (.ref f_Ratiodd_muldd) = true)
    (l_Ratiodd_muldd : K.lookup f_Ratiodd_muldd = some ⟨oc_Ratiodd_muldd, od_Ratiodd_muldd, .func (PySem.W.fnOf "__mul__" "Ratio.__mul__" (defArgs st_Ratiodd_muldd) (defBody st_Ratiodd_muldd) (defScope st_Ratiodd_muldd) .none kV_Ratiodd_muldd dc_Ratiodd_muldd pm_Ratiodd_muldd an_Ratiodd_muldd cd_Ratiodd_muldd ct_Ratiodd_muldd), sl_Ratiodd_muldd⟩)
    (c_Ratiodd_muldd : PySem.W.codeIn K cd_Ratiodd_muldd "Ratio.__mul__" = true)
    (k_Ratiodd_muldd : PySem.W.keepIn K (.ref f_Ratiodd_muldd) = true)
    (g_Ratiodd_eqdd : PySem.W.findIn K (.ref C0) "__eq__" = some (some (.ref f_Ratiodd_eqdd)))
    (i_Ratiodd_eqdd : PySem.W.isFn K (.ref f_Ratiodd_eqdd) = true)
    (l_Ratiodd_eqdd : K.lookup f_Ratiodd_eqdd = some ⟨oc_Ratiodd_eqdd, od_Ratiodd_eqdd, .func (PySem.W.fnOf "__eq__" "Ratio.__eq__" (defArgs st_Ratiodd_eqdd) (defBody st_Ratiodd_eqdd) (defScope st_Ratiodd_eqdd) .none kV_Ratiodd_eqdd dc_Ratiodd_eqdd pm_Ratiodd_eqdd an_Ratiodd_eqdd cd_Ratiodd_eqdd ct_Ratiodd_eqdd), sl_Ratiodd_eqdd⟩)
    (c_Ratiodd_eqdd : PySem.W.codeIn K cd_Ratiodd_eqdd "Ratio.__eq__" = true)
    (k_Ratiodd_eqdd : PySem.W.keepIn K (.ref f_Ratiodd_eqdd) = true)
    (g_Ratiodd_ltdd : PySem.W.findIn K (.ref C0) "__lt__" = some (some (.ref f_Ratiodd_ltdd)))
    (i_Ratiodd_ltdd : PySem.W.isFn K (.ref f_Ratiodd_ltdd) = true)
    (l_Ratiodd_ltdd : K.lookup f_Ratiodd_ltdd = some ⟨oc_Ratiodd_ltdd, od_Ratiodd_ltdd, .func (PySem.W.fnOf "__lt__" "Ratio.__lt__" (defArgs st_Ratiodd_ltdd) (defBody st_Ratiodd_ltdd) (defScope st_Ratiodd_ltdd) .none kV_Ratiodd_ltdd dc_Ratiodd_ltdd pm_Ratiodd_ltdd an_Ratiodd_ltdd cd_Ratiodd_ltdd ct_Ratiodd_ltdd), sl_Ratiodd_ltdd⟩)
    (c_Ratiodd_ltdd : PySem.W.codeIn K cd_Ratiodd_ltdd "Ratio.__lt__" = true)
    (k_Ratiodd_ltdd : PySem.W.keepIn K (.ref f_Ratiodd_ltdd) = true)
    (g_Ratiodd_ledd : PySem.W.findIn K (.ref C0) "__le__" = some (some (.ref f_Ratiodd_ledd)))
    (i_Ratiodd_ledd : PySem.W.isFn K (.ref f_Ratiodd_ledd) = true)
    (l_Ratiodd_ledd : K.lookup f_Ratiodd_ledd = some ⟨oc_Ratiodd_ledd, od_Ratiodd_ledd, .func (PySem.W.fnOf "__le__" "Ratio.__le__" (defArgs st_Ratiodd_ledd) (defBody st_Ratiodd_ledd) (defScope st_Ratiodd_ledd) .none kV_Ratiodd_ledd dc_Ratiodd_ledd pm_Ratiodd_ledd an_Ratiodd_ledd cd_Ratiodd_ledd ct_Ratiodd_ledd), sl_Ratiodd_ledd⟩)
    (c_Ratiodd_ledd : PySem.W.codeIn K cd_Ratiodd_ledd "Ratio.__le__" = true)
    (k_Ratiodd_ledd : PySem.W.keepIn K (.ref f_Ratiodd_ledd) = true)
    (g_is_list : PySem.W.nsIn K mainGlobals "is_list" = some (some (.ref f_is_list)))
    (l_is_list : K.lookup f_is_list = some ⟨oc_is_list, od_is_list, .func (PySem.W.fnOf "is_list" "is_list" (defArgs st_is_list) (defBody st_is_list) (defScope st_is_list) .none kV_is_list dc_is_list pm_is_list an_is_list cd_is_list ct_is_list), sl_is_list⟩)
    (c_is_list : PySem.W.codeIn K cd_is_list "is_list" = true)
    (k_is_list : PySem.W.keepIn K (.ref f_is_list) = true)
    (g_is_time : PySem.W.nsIn K mainGlobals "is_time" = some (some (.ref f_is_time)))
    (l_is_time : K.lookup f_is_time = some ⟨oc_is_time, od_is_time, .func (PySem.W.fnOf "is_time" "is_time" (defArgs st_is_time) (defBody st_is_time) (defScope st_is_time) .none kV_is_time dc_is_time pm_is_time an_is_time cd_is_time ct_is_time), sl_is_time⟩)
    (c_is_time : PySem.W.codeIn K cd_is_time "is_time" = true)
    (k_is_time : PySem.W.keepIn K (.ref f_is_time) = true)
    (g_is_row : PySem.W.nsIn K mainGlobals "is_row" = some (some (.ref f_is_row)))
    (l_is_row : K.lookup f_is_row = some ⟨oc_is_row, od_is_row, .func (PySem.W.fnOf "is_row" "is_row" (defArgs st_is_row) (defBody st_is_row) (defScope st_is_row) .none kV_is_row dc_is_row pm_is_row an_is_row cd_is_row ct_is_row), sl_is_row⟩)
    (c_is_row : PySem.W.codeIn K cd_is_row "is_row" = true)
    (k_is_row : PySem.W.keepIn K (.ref f_is_row) = true)
    (g_is_table : PySem.W.nsIn K mainGlobals "is_table" = some (some (.ref f_is_table)))
    (l_is_table : K.lookup f_is_table = some ⟨oc_is_table, od_is_table, .func (PySem.W.fnOf "is_table" "is_table" (defArgs st_is_table) (defBody st_is_table) (defScope st_is_table) .none kV_is_table dc_is_table pm_is_table an_is_table cd_is_table ct_is_table), sl_is_table⟩)
    (c_is_table : PySem.W.codeIn K cd_is_table "is_table" = true)
    (k_is_table : PySem.W.keepIn K (.ref f_is_table) = true)
    (g_is_index : PySem.W.nsIn K mainGlobals "is_index" = some (some (.ref f_is_index)))
    (l_is_index : K.lookup f_is_index = some ⟨oc_is_index, od_is_index, .func (PySem.W.fnOf "is_index" "is_index" (defArgs st_is_index) (defBody st_is_index) (defScope st_is_index) .none kV_is_index dc_is_index pm_is_index an_is_index cd_is_index ct_is_index), sl_is_index⟩)
    (c_is_index : PySem.W.codeIn K cd_is_index "is_index" = true)
    (k_is_index : PySem.W.keepIn K (.ref f_is_index) = true)
    (g_Linedd_initdd : PySem.W.findIn K (.ref C1) "__init__" = some (some (.ref f_Linedd_initdd)))
    (i_Linedd_initdd : PySem.W.isFn K (.ref f_Linedd_initdd) = true)
    (l_Linedd_initdd : K.lookup f_Linedd_initdd = some ⟨oc_Linedd_initdd, od_Linedd_initdd, .func (PySem.W.fnOf "__init__" "Line.__init__" (defArgs st_Linedd_initdd) (defBody st_Linedd_initdd) (defScope st_Linedd_initdd) .none kV_Linedd_initdd dc_Linedd_initdd pm_Linedd_initdd an_Linedd_initdd cd_Linedd_initdd ct_Linedd_initdd), sl_Linedd_initdd⟩)
    (c_Linedd_initdd : PySem.W.codeIn K cd_Linedd_initdd "Line.__init__" = true)
    (k_Linedd_initdd : PySem.W.keepIn K (.ref f_Linedd_initdd) = true)
    (g_Linedd_eqdd : PySem.W.findIn K (.ref C1) "__eq__" = some (some (.ref f_Linedd_eqdd)))
    (i_Linedd_eqdd : PySem.W.isFn K (.ref f_Linedd_eqdd) = true)
    (l_Linedd_eqdd : K.lookup f_Linedd_eqdd = some ⟨oc_Linedd_eqdd, od_Linedd_eqdd, .func (PySem.W.fnOf "__eq__" "Line.__eq__" (defArgs st_Linedd_eqdd) (defBody st_Linedd_eqdd) (defScope st_Linedd_eqdd) .none kV_Linedd_eqdd dc_Linedd_eqdd pm_Linedd_eqdd an_Linedd_eqdd cd_Linedd_eqdd ct_Linedd_eqdd), sl_Linedd_eqdd⟩)
    (c_Linedd_eqdd : PySem.W.codeIn K cd_Linedd_eqdd "Line.__eq__" = true)
    (k_Linedd_eqdd : PySem.W.keepIn K (.ref f_Linedd_eqdd) = true)
    (g_Line_jobs : PySem.W.findIn K (.ref C1) "jobs" = some (some (.ref f_Line_jobs)))
    (i_Line_jobs : PySem.W.isFn K (.ref f_Line_jobs) = true)
    (l_Line_jobs : K.lookup f_Line_jobs = some ⟨oc_Line_jobs, od_Line_jobs, .func (PySem.W.fnOf "jobs" "Line.jobs" (defArgs st_Line_jobs) (defBody st_Line_jobs) (defScope st_Line_jobs) .none kV_Line_jobs dc_Line_jobs pm_Line_jobs an_Line_jobs cd_Line_jobs ct_Line_jobs), sl_Line_jobs⟩)
    (c_Line_jobs : PySem.W.codeIn K cd_Line_jobs "Line.jobs" = true)
    (k_Line_jobs : PySem.W.keepIn K (.ref f_Line_jobs) = true)
    (g_Line_rows : PySem.W.findIn K (.ref C1) "rows" = some (some (.ref f_Line_rows)))
    (i_Line_rows : PySem.W.isFn K (.ref f_Line_rows) = true)
    (l_Line_rows : K.lookup f_Line_rows = some ⟨oc_Line_rows, od_Line_rows, .func (PySem.W.fnOf "rows" "Line.rows" (defArgs st_Line_rows) (defBody st_Line_rows) (defScope st_Line_rows) .none kV_Line_rows dc_Line_rows pm_Line_rows an_Line_rows cd_Line_rows ct_Line_rows), sl_Line_rows⟩)
    (c_Line_rows : PySem.W.codeIn K cd_Line_rows "Line.rows" = true)
    (k_Line_rows : PySem.W.keepIn K (.ref f_Line_rows) = true)
    (g_check_job : PySem.W.nsIn K mainGlobals "check_job" = some (some (.ref f_check_job)))
    (l_check_job : K.lookup f_check_job = some ⟨oc_check_job, od_check_job, .func (PySem.W.fnOf "check_job" "check_job" (defArgs st_check_job) (defBody st_check_job) (defScope st_check_job) .none kV_check_job dc_check_job pm_check_job an_check_job cd_check_job ct_check_job), sl_check_job⟩)
    (c_check_job : PySem.W.codeIn K cd_check_job "check_job" = true)
    (k_check_job : PySem.W.keepIn K (.ref f_check_job) = true)
    (g_check_stretch : PySem.W.nsIn K mainGlobals "check_stretch" = some (some (.ref f_check_stretch)))
    (l_check_stretch : K.lookup f_check_stretch = some ⟨oc_check_stretch, od_check_stretch, .func (PySem.W.fnOf "check_stretch" "check_stretch" (defArgs st_check_stretch) (defBody st_check_stretch) (defScope st_check_stretch) .none kV_check_stretch dc_check_stretch pm_check_stretch an_check_stretch cd_check_stretch ct_check_stretch), sl_check_stretch⟩)
    (c_check_stretch : PySem.W.codeIn K cd_check_stretch "check_stretch" = true)
    (k_check_stretch : PySem.W.keepIn K (.ref f_check_stretch) = true)
    (g_Line_part : PySem.W.findIn K (.ref C1) "part" = some (some (.ref f_Line_part)))
    (i_Line_part : PySem.W.isFn K (.ref f_Line_part) = true)
    (l_Line_part : K.lookup f_Line_part = some ⟨oc_Line_part, od_Line_part, .func (PySem.W.fnOf "part" "Line.part" (defArgs st_Line_part) (defBody st_Line_part) (defScope st_Line_part) .none kV_Line_part dc_Line_part pm_Line_part an_Line_part cd_Line_part ct_Line_part), sl_Line_part⟩)
    (c_Line_part : PySem.W.codeIn K cd_Line_part "Line.part" = true)
    (k_Line_part : PySem.W.keepIn K (.ref f_Line_part) = true)
    (g_Line_backwards : PySem.W.findIn K (.ref C1) "backwards" = some (some (.ref f_Line_backwards)))
    (i_Line_backwards : PySem.W.isFn K (.ref f_Line_backwards) = true)
    (l_Line_backwards : K.lookup f_Line_backwards = some ⟨oc_Line_backwards, od_Line_backwards, .func (PySem.W.fnOf "backwards" "Line.backwards" (defArgs st_Line_backwards) (defBody st_Line_backwards) (defScope st_Line_backwards) .none kV_Line_backwards dc_Line_backwards pm_Line_backwards an_Line_backwards cd_Line_backwards ct_Line_backwards), sl_Line_backwards⟩)
    (c_Line_backwards : PySem.W.codeIn K cd_Line_backwards "Line.backwards" = true)
    (k_Line_backwards : PySem.W.keepIn K (.ref f_Line_backwards) = true)
    (g__law_tape : PySem.W.nsIn K mainGlobals "_law_tape" = some (some (.ref f__law_tape)))
    (l__law_tape : K.lookup f__law_tape = some ⟨oc__law_tape, od__law_tape, .func (PySem.W.fnOf "_law_tape" "_law_tape" (defArgs st__law_tape) (defBody st__law_tape) (defScope st__law_tape) .none kV__law_tape dc__law_tape pm__law_tape an__law_tape cd__law_tape ct__law_tape), sl__law_tape⟩)
    (c__law_tape : PySem.W.codeIn K cd__law_tape "_law_tape" = true)
    (k__law_tape : PySem.W.keepIn K (.ref f__law_tape) = true)
    (g__law_pick : PySem.W.nsIn K mainGlobals "_law_pick" = some (some (.ref f__law_pick)))
    (l__law_pick : K.lookup f__law_pick = some ⟨oc__law_pick, od__law_pick, .func (PySem.W.fnOf "_law_pick" "_law_pick" (defArgs st__law_pick) (defBody st__law_pick) (defScope st__law_pick) .none kV__law_pick dc__law_pick pm__law_pick an__law_pick cd__law_pick ct__law_pick), sl__law_pick⟩)
    (c__law_pick : PySem.W.codeIn K cd__law_pick "_law_pick" = true)
    (k__law_pick : PySem.W.keepIn K (.ref f__law_pick) = true)
    (g__law_size : PySem.W.nsIn K mainGlobals "_law_size" = some (some (.ref f__law_size)))
    (l__law_size : K.lookup f__law_size = some ⟨oc__law_size, od__law_size, .func (PySem.W.fnOf "_law_size" "_law_size" (defArgs st__law_size) (defBody st__law_size) (defScope st__law_size) .none kV__law_size dc__law_size pm__law_size an__law_size cd__law_size ct__law_size), sl__law_size⟩)
    (c__law_size : PySem.W.codeIn K cd__law_size "_law_size" = true)
    (k__law_size : PySem.W.keepIn K (.ref f__law_size) = true)
    (g__law_stretch : PySem.W.nsIn K mainGlobals "_law_stretch" = some (some (.ref f__law_stretch)))
    (l__law_stretch : K.lookup f__law_stretch = some ⟨oc__law_stretch, od__law_stretch, .func (PySem.W.fnOf "_law_stretch" "_law_stretch" (defArgs st__law_stretch) (defBody st__law_stretch) (defScope st__law_stretch) .none kV__law_stretch dc__law_stretch pm__law_stretch an__law_stretch cd__law_stretch ct__law_stretch), sl__law_stretch⟩)
    (c__law_stretch : PySem.W.codeIn K cd__law_stretch "_law_stretch" = true)
    (k__law_stretch : PySem.W.keepIn K (.ref f__law_stretch) = true)
    (g__law_grid : PySem.W.nsIn K mainGlobals "_law_grid" = some (some (.ref f__law_grid)))
    (l__law_grid : K.lookup f__law_grid = some ⟨oc__law_grid, od__law_grid, .func (PySem.W.fnOf "_law_grid" "_law_grid" (defArgs st__law_grid) (defBody st__law_grid) (defScope st__law_grid) .none kV__law_grid dc__law_grid pm__law_grid an__law_grid cd__law_grid ct__law_grid), sl__law_grid⟩)
    (c__law_grid : PySem.W.codeIn K cd__law_grid "_law_grid" = true)
    (k__law_grid : PySem.W.keepIn K (.ref f__law_grid) = true)
    (g__law_made : PySem.W.nsIn K mainGlobals "_law_made" = some (some (.ref f__law_made)))
    (l__law_made : K.lookup f__law_made = some ⟨oc__law_made, od__law_made, .func (PySem.W.fnOf "_law_made" "_law_made" (defArgs st__law_made) (defBody st__law_made) (defScope st__law_made) .none kV__law_made dc__law_made pm__law_made an__law_made cd__law_made ct__law_made), sl__law_made⟩)
    (c__law_made : PySem.W.codeIn K cd__law_made "_law_made" = true)
    (k__law_made : PySem.W.keepIn K (.ref f__law_made) = true)
    (g__law_shown : PySem.W.nsIn K mainGlobals "_law_shown" = some (some (.ref f__law_shown)))
    (l__law_shown : K.lookup f__law_shown = some ⟨oc__law_shown, od__law_shown, .func (PySem.W.fnOf "_law_shown" "_law_shown" (defArgs st__law_shown) (defBody st__law_shown) (defScope st__law_shown) .none kV__law_shown dc__law_shown pm__law_shown an__law_shown cd__law_shown ct__law_shown), sl__law_shown⟩)
    (c__law_shown : PySem.W.codeIn K cd__law_shown "_law_shown" = true)
    (k__law_shown : PySem.W.keepIn K (.ref f__law_shown) = true)
    (g__law_part : PySem.W.nsIn K mainGlobals "_law_part" = some (some (.ref f__law_part)))
    (l__law_part : K.lookup f__law_part = some ⟨oc__law_part, od__law_part, .func (PySem.W.fnOf "_law_part" "_law_part" (defArgs st__law_part) (defBody st__law_part) (defScope st__law_part) .none kV__law_part dc__law_part pm__law_part an__law_part cd__law_part ct__law_part), sl__law_part⟩)
    (c__law_part : PySem.W.codeIn K cd__law_part "_law_part" = true)
    (k__law_part : PySem.W.keepIn K (.ref f__law_part) = true)
    (g_law : PySem.W.nsIn K mainGlobals "law" = some (some (.ref f_law)))
    (l_law : K.lookup f_law = some ⟨oc_law, od_law, .func (PySem.W.fnOf "law" "law" (defArgs st_law) (defBody st_law) (defScope st_law) .none kV_law dc_law pm_law an_law cd_law ct_law), sl_law⟩)
    (c_law : PySem.W.codeIn K cd_law "law" = true)
    (k_law : PySem.W.keepIn K (.ref f_law) = true)
    (pgC0 : PySem.W.plainGet K C0 Str.empty = true)
    (hdC0 : PySem.W.hasDictIn K C0 = true)
    (poC0 : PySem.W.plainOver K C0 = true)
    (saC0 : PySem.W.findIn K (.ref C0) "__setattr__" = some (some (.builtin "object.__setattr__")))
    (noC0_top : PySem.W.findIn K (.ref C0) "_top" = some none)
    (noC0_bottom : PySem.W.findIn K (.ref C0) "_bottom" = some none)
    (caC0 : PySem.W.findIn K (.ref C0) "__class__" = some (some (.builtin "object.__class__")))
    (cmC0 : PySem.W.mroIn K C0 (.type "object") = some true)
    (mkC0 : PySem.W.makesIn K C0 = true)
    (kpC0 : PySem.W.keepIn K (.ref C0) = true)
    (neC0 : PySem.W.findIn K (.ref C0) "__ne__" = some (some (.builtin "object.__ne__")))
    (pgC1 : PySem.W.plainGet K C1 Str.empty = true)
    (hdC1 : PySem.W.hasDictIn K C1 = true)
    (poC1 : PySem.W.plainOver K C1 = true)
    (saC1 : PySem.W.findIn K (.ref C1) "__setattr__" = some (some (.builtin "object.__setattr__")))
    (noC1_rows : PySem.W.findIn K (.ref C1) "_rows" = some none)
    (caC1 : PySem.W.findIn K (.ref C1) "__class__" = some (some (.builtin "object.__class__")))
    (cmC1 : PySem.W.mroIn K C1 (.type "object") = some true)
    (mkC1 : PySem.W.makesIn K C1 = true)
    (kpC1 : PySem.W.keepIn K (.ref C1) = true)
    (neC1 : PySem.W.findIn K (.ref C1) "__ne__" = some (some (.builtin "object.__ne__")))
    (cn : PySem.W.specialIn K (.builtin "object.__class__") "__get__" = some (some (.builtin "getset_descriptor.__get__")))
    (ct : PySem.W.takesIn K (.builtin "object.__class__") = some true)
    (exC2 : PySem.W.subIn K (.ref C2) (.type "BaseException") = some true)
    (tyC2 : PySem.W.typeIn K (.ref C2) = some (.type "type"))
    (keC2 : PySem.W.keepIn K (.ref C2) = true)
    (xiC2 : PySem.W.excIn K C2 [.type "ValueError", .type "Exception", .type "BaseException", .type "object"] "ValueError.__new__" = true)
    (sxC4 : PySem.W.findIn K (.ref C4) "__setattr__" = some (some (.builtin "object.__setattr__")))
    (exC4 : PySem.W.subIn K (.ref C4) (.type "BaseException") = some true)
    (tyC4 : PySem.W.typeIn K (.ref C4) = some (.type "type"))
    (keC4 : PySem.W.keepIn K (.ref C4) = true)
    (xlC4 : K.lookup C4 = some (excClassObj nmC4 qnC4 C4 NC4 bsC4 bmC4 true snC4 sbC4 abC4 coC4 ddC4 x0C4 x1C4 x2C4 x3C4 x5C4 "ValueError.__new__"))
    (xbC4 : PySem.HandSPX.refsVE bmC4 = true)
    (giC4 : PySem.W.findIn K (.ref C4) "__init__" = some (some (.ref fiC4)))
    (tiC4 : PySem.W.typeIn K (.ref fiC4) = some (.type "function"))
    (nfC4 : PySem.W.findIn K (.ref C4) "given" = some none)
    (l_iniC4 : K.lookup fiC4 = some ⟨oc_iniC4, od_iniC4, .func (PySem.W.fnOf "__init__" "BadNumber.__init__" (defArgs st_BadNumber_init) (defBody st_BadNumber_init) (defScope st_BadNumber_init) .none kV_iniC4 dc_iniC4 pm_iniC4 an_iniC4 cd_iniC4 ct_iniC4), sl_iniC4⟩)
    (c_iniC4 : PySem.W.codeIn K cd_iniC4 "BadNumber.__init__" = true)
    (k_iniC4 : PySem.W.keepIn K (.ref fiC4) = true)
    (sxC5 : PySem.W.findIn K (.ref C5) "__setattr__" = some (some (.builtin "object.__setattr__")))
    (exC5 : PySem.W.subIn K (.ref C5) (.type "BaseException") = some true)
    (tyC5 : PySem.W.typeIn K (.ref C5) = some (.type "type"))
    (keC5 : PySem.W.keepIn K (.ref C5) = true)
    (xlC5 : K.lookup C5 = some (excClassObj nmC5 qnC5 C5 NC5 bsC5 bmC5 true snC5 sbC5 abC5 coC5 ddC5 x0C5 x1C5 x2C5 x3C5 x5C5 "ValueError.__new__"))
    (xbC5 : PySem.HandSPX.refsVE bmC5 = true)
    (giC5 : PySem.W.findIn K (.ref C5) "__init__" = some (some (.ref fiC5)))
    (tiC5 : PySem.W.typeIn K (.ref fiC5) = some (.type "function"))
    (nfC5 : PySem.W.findIn K (.ref C5) "given" = some none)
    (l_iniC5 : K.lookup fiC5 = some ⟨oc_iniC5, od_iniC5, .func (PySem.W.fnOf "__init__" "BadLine.__init__" (defArgs st_BadLine_init) (defBody st_BadLine_init) (defScope st_BadLine_init) .none kV_iniC5 dc_iniC5 pm_iniC5 an_iniC5 cd_iniC5 ct_iniC5), sl_iniC5⟩)
    (c_iniC5 : PySem.W.codeIn K cd_iniC5 "BadLine.__init__" = true)
    (k_iniC5 : PySem.W.keepIn K (.ref fiC5) = true)
    (sxC6 : PySem.W.findIn K (.ref C6) "__setattr__" = some (some (.builtin "object.__setattr__")))
    (exC6 : PySem.W.subIn K (.ref C6) (.type "BaseException") = some true)
    (tyC6 : PySem.W.typeIn K (.ref C6) = some (.type "type"))
    (keC6 : PySem.W.keepIn K (.ref C6) = true)
    (xlC6 : K.lookup C6 = some (excClassObj nmC6 qnC6 C6 NC6 bsC6 bmC6 true snC6 sbC6 abC6 coC6 ddC6 x0C6 x1C6 x2C6 x3C6 x5C6 "ValueError.__new__"))
    (xbC6 : PySem.HandSPX.refsVE bmC6 = true)
    (giC6 : PySem.W.findIn K (.ref C6) "__init__" = some (some (.ref fiC6)))
    (tiC6 : PySem.W.typeIn K (.ref fiC6) = some (.type "function"))
    (nfC6 : PySem.W.findIn K (.ref C6) "given" = some none)
    (l_iniC6 : K.lookup fiC6 = some ⟨oc_iniC6, od_iniC6, .func (PySem.W.fnOf "__init__" "BadServer.__init__" (defArgs st_BadServer_init) (defBody st_BadServer_init) (defScope st_BadServer_init) .none kV_iniC6 dc_iniC6 pm_iniC6 an_iniC6 cd_iniC6 ct_iniC6), sl_iniC6⟩)
    (c_iniC6 : PySem.W.codeIn K cd_iniC6 "BadServer.__init__" = true)
    (k_iniC6 : PySem.W.keepIn K (.ref fiC6) = true)
    (sxC7 : PySem.W.findIn K (.ref C7) "__setattr__" = some (some (.builtin "object.__setattr__")))
    (exC7 : PySem.W.subIn K (.ref C7) (.type "BaseException") = some true)
    (tyC7 : PySem.W.typeIn K (.ref C7) = some (.type "type"))
    (keC7 : PySem.W.keepIn K (.ref C7) = true)
    (xlC7 : K.lookup C7 = some (excClassObj nmC7 qnC7 C7 NC7 bsC7 bmC7 true snC7 sbC7 abC7 coC7 ddC7 x0C7 x1C7 x2C7 x3C7 x5C7 "ValueError.__new__"))
    (xbC7 : PySem.HandSPX.refsVE bmC7 = true)
    (giC7 : PySem.W.findIn K (.ref C7) "__init__" = some (some (.ref fiC7)))
    (tiC7 : PySem.W.typeIn K (.ref fiC7) = some (.type "function"))
    (nfC7 : PySem.W.findIn K (.ref C7) "given" = some none)
    (l_iniC7 : K.lookup fiC7 = some ⟨oc_iniC7, od_iniC7, .func (PySem.W.fnOf "__init__" "BadJob.__init__" (defArgs st_BadJob_init) (defBody st_BadJob_init) (defScope st_BadJob_init) .none kV_iniC7 dc_iniC7 pm_iniC7 an_iniC7 cd_iniC7 ct_iniC7), sl_iniC7⟩)
    (c_iniC7 : PySem.W.codeIn K cd_iniC7 "BadJob.__init__" = true)
    (k_iniC7 : PySem.W.keepIn K (.ref fiC7) = true)
    (gaC7 : PySem.W.findIn K (.ref C7) "__getattribute__" = some (some (.builtin "BaseException.__getattribute__")))
    (ggC7 : PySem.W.findIn K (.ref C7) "__getattr__" = some none)
    (hxC7 : PySem.W.hasDictIn K C7 = true)
    (xoC7 : PySem.W.exmOne K (.ref C7) (.ref C7) = some true)
    (z_range : PySem.W.nsIn K mainGlobals "range" = some none)
    (z_isinstance : PySem.W.nsIn K mainGlobals "isinstance" = some none)
    (z_len : PySem.W.nsIn K mainGlobals "len" = some none)
    (z_all : PySem.W.nsIn K mainGlobals "all" = some none)
    (z_list : PySem.W.nsIn K mainGlobals "list" = some none)
    (z_tuple : PySem.W.nsIn K mainGlobals "tuple" = some none)
    (z_int : PySem.W.nsIn K mainGlobals "int" = some none)
    (z_bool : PySem.W.nsIn K mainGlobals "bool" = some none)
    (z_abs : PySem.W.nsIn K mainGlobals "abs" = some none)
    (z_max : PySem.W.nsIn K mainGlobals "max" = some none)
    (z_min : PySem.W.nsIn K mainGlobals "min" = some none)
    (z_dict : PySem.W.nsIn K mainGlobals "dict" = some none)
    (z_repr : PySem.W.nsIn K mainGlobals "repr" = some none)
    (z_gcd : PySem.W.nsIn K mainGlobals "gcd" = some (some (.builtin "math.gcd")))
    (z_MOST_SERVERS : PySem.W.nsIn K mainGlobals "MOST_SERVERS" = some (some (.int 4 t_MOST_SERVERS)))
    (z_MOST_JOBS : PySem.W.nsIn K mainGlobals "MOST_JOBS" = some (some (.int 6 t_MOST_JOBS)))
    (kit_int_NoneType : PySem.W.kitOne K (.type "NoneType") (.type "int") = some false)
    (kit_int_bool : PySem.W.kitOne K (.type "bool") (.type "int") = some true)
    (kit_int_int : PySem.W.kitOne K (.type "int") (.type "int") = some true)
    (kit_int_str : PySem.W.kitOne K (.type "str") (.type "int") = some false)
    (kit_int_list : PySem.W.kitOne K (.type "list") (.type "int") = some false)
    (kit_int_tuple : PySem.W.kitOne K (.type "tuple") (.type "int") = some false)
    (kit_int_dict : PySem.W.kitOne K (.type "dict") (.type "int") = some false)
    (kit_int_C0 : PySem.W.kitOne K (.ref C0) (.type "int") = some false)
    (kit_int_C1 : PySem.W.kitOne K (.ref C1) (.type "int") = some false)
    (kit_bool_NoneType : PySem.W.kitOne K (.type "NoneType") (.type "bool") = some false)
    (kit_bool_bool : PySem.W.kitOne K (.type "bool") (.type "bool") = some true)
    (kit_bool_int : PySem.W.kitOne K (.type "int") (.type "bool") = some false)
    (kit_bool_str : PySem.W.kitOne K (.type "str") (.type "bool") = some false)
    (kit_bool_list : PySem.W.kitOne K (.type "list") (.type "bool") = some false)
    (kit_bool_tuple : PySem.W.kitOne K (.type "tuple") (.type "bool") = some false)
    (kit_bool_dict : PySem.W.kitOne K (.type "dict") (.type "bool") = some false)
    (kit_bool_C0 : PySem.W.kitOne K (.ref C0) (.type "bool") = some false)
    (kit_bool_C1 : PySem.W.kitOne K (.ref C1) (.type "bool") = some false)
    (kit_list_NoneType : PySem.W.kitOne K (.type "NoneType") (.type "list") = some false)
    (kit_list_bool : PySem.W.kitOne K (.type "bool") (.type "list") = some false)
    (kit_list_int : PySem.W.kitOne K (.type "int") (.type "list") = some false)
    (kit_list_str : PySem.W.kitOne K (.type "str") (.type "list") = some false)
    (kit_list_list : PySem.W.kitOne K (.type "list") (.type "list") = some true)
    (kit_list_tuple : PySem.W.kitOne K (.type "tuple") (.type "list") = some false)
    (kit_list_dict : PySem.W.kitOne K (.type "dict") (.type "list") = some false)
    (kit_list_C0 : PySem.W.kitOne K (.ref C0) (.type "list") = some false)
    (kit_list_C1 : PySem.W.kitOne K (.ref C1) (.type "list") = some false)
    (kit_tuple_NoneType : PySem.W.kitOne K (.type "NoneType") (.type "tuple") = some false)
    (kit_tuple_bool : PySem.W.kitOne K (.type "bool") (.type "tuple") = some false)
    (kit_tuple_int : PySem.W.kitOne K (.type "int") (.type "tuple") = some false)
    (kit_tuple_str : PySem.W.kitOne K (.type "str") (.type "tuple") = some false)
    (kit_tuple_list : PySem.W.kitOne K (.type "list") (.type "tuple") = some false)
    (kit_tuple_tuple : PySem.W.kitOne K (.type "tuple") (.type "tuple") = some true)
    (kit_tuple_dict : PySem.W.kitOne K (.type "dict") (.type "tuple") = some false)
    (kit_tuple_C0 : PySem.W.kitOne K (.ref C0) (.type "tuple") = some false)
    (kit_tuple_C1 : PySem.W.kitOne K (.ref C1) (.type "tuple") = some false)
    (kit_dict_NoneType : PySem.W.kitOne K (.type "NoneType") (.type "dict") = some false)
    (kit_dict_bool : PySem.W.kitOne K (.type "bool") (.type "dict") = some false)
    (kit_dict_int : PySem.W.kitOne K (.type "int") (.type "dict") = some false)
    (kit_dict_str : PySem.W.kitOne K (.type "str") (.type "dict") = some false)
    (kit_dict_list : PySem.W.kitOne K (.type "list") (.type "dict") = some false)
    (kit_dict_tuple : PySem.W.kitOne K (.type "tuple") (.type "dict") = some false)
    (kit_dict_dict : PySem.W.kitOne K (.type "dict") (.type "dict") = some true)
    (kit_dict_C0 : PySem.W.kitOne K (.ref C0) (.type "dict") = some false)
    (kit_dict_C1 : PySem.W.kitOne K (.ref C1) (.type "dict") = some false)
    (kit_Ratio_NoneType : PySem.W.kitOne K (.type "NoneType") (.ref C0) = some false)
    (kit_Ratio_bool : PySem.W.kitOne K (.type "bool") (.ref C0) = some false)
    (kit_Ratio_int : PySem.W.kitOne K (.type "int") (.ref C0) = some false)
    (kit_Ratio_str : PySem.W.kitOne K (.type "str") (.ref C0) = some false)
    (kit_Ratio_list : PySem.W.kitOne K (.type "list") (.ref C0) = some false)
    (kit_Ratio_tuple : PySem.W.kitOne K (.type "tuple") (.ref C0) = some false)
    (kit_Ratio_dict : PySem.W.kitOne K (.type "dict") (.ref C0) = some false)
    (kit_Ratio_C0 : PySem.W.kitOne K (.ref C0) (.ref C0) = some true)
    (kit_Ratio_C1 : PySem.W.kitOne K (.ref C1) (.ref C0) = some false)
    (kit_Line_NoneType : PySem.W.kitOne K (.type "NoneType") (.ref C1) = some false)
    (kit_Line_bool : PySem.W.kitOne K (.type "bool") (.ref C1) = some false)
    (kit_Line_int : PySem.W.kitOne K (.type "int") (.ref C1) = some false)
    (kit_Line_str : PySem.W.kitOne K (.type "str") (.ref C1) = some false)
    (kit_Line_list : PySem.W.kitOne K (.type "list") (.ref C1) = some false)
    (kit_Line_tuple : PySem.W.kitOne K (.type "tuple") (.ref C1) = some false)
    (kit_Line_dict : PySem.W.kitOne K (.type "dict") (.ref C1) = some false)
    (kit_Line_C0 : PySem.W.kitOne K (.ref C0) (.ref C1) = some false)
    (kit_Line_C1 : PySem.W.kitOne K (.ref C1) (.ref C1) = some true)
    (f_C0_C0 : PySem.W.notFirst K C0 (.ref C0) = true)
    (f_C0_int : PySem.W.notFirst K C0 (.type "int") = true)
    (f_C0_C1 : PySem.W.notFirst K C0 (.ref C1) = true)
    (f_C1_C1 : PySem.W.notFirst K C1 (.ref C1) = true)
    (f_C0_NoneType : PySem.W.notFirst K C0 (.type "NoneType") = true)
    (f_C0_bool : PySem.W.notFirst K C0 (.type "bool") = true)
    (f_C0_str : PySem.W.notFirst K C0 (.type "str") = true)
    (f_C0_list : PySem.W.notFirst K C0 (.type "list") = true)
    (f_C0_tuple : PySem.W.notFirst K C0 (.type "tuple") = true)
    (sfC0 : PySem.W.selfFirst K C0 = true)
    (neq_0_1 : C0 ≠ C1) : ∃ T : Tb, ∃ F : Fx K mg T, F.a_law = f_law ∧ F.d_law = PySem.W.fnOf "law" "law" (defArgs st_law) (defBody st_law) (defScope st_law) .none kV_law dc_law pm_law an_law cd_law ct_law := by
  have fd_Ratiodd_initdd : FunD K "__init__" "Ratio.__init__" (defArgs st_Ratiodd_initdd) (defBody st_Ratiodd_initdd) (defScope st_Ratiodd_initdd) [.int 1] [] f_Ratiodd_initdd _ := ⟨⟨_, _, _, _, _, _, _, _, _, _, rfl, l_Ratiodd_initdd, c_Ratiodd_initdd, .inr ⟨by decide, _, _, _, _, rfl, z_Ratiodd_initdd, rfl, .cons ⟨_, rfl⟩ .nil⟩, .inl rfl⟩, k_Ratiodd_initdd⟩
  have bd_Ratiodd_initdd : Binds K (PySem.W.fnOf "__init__" "Ratio.__init__" (defArgs st_Ratiodd_initdd) (defBody st_Ratiodd_initdd) (defScope st_Ratiodd_initdd) (.ref tD_Ratiodd_initdd) kV_Ratiodd_initdd dc_Ratiodd_initdd pm_Ratiodd_initdd an_Ratiodd_initdd cd_Ratiodd_initdd ct_Ratiodd_initdd) ["self", "top", "bottom"] [] := by
    obtain ⟨ds, z1, z2⟩ := fd_Ratiodd_initdd.binds1 (ps := ["self", "top", "bottom"]) 3 1 (by decide) rfl fun T kV doc pm an cdv ct us its h1 h2 => match us, its, h1, h2 with | [_, _, _], [_], _, _ => ⟨_, rfl, rfl⟩
    cases z1
    exact z2
  have X := X0
  have G := G0
  exact ⟨(tbOf K C0 C1 C2 C4 C5 C6 C7), {
    hK := rfl,
    m_range := PySem.W.mg_none_of X G z_range,
    cls0 := fun X e => by
          subst e
          exact ⟨⟨pgC0, hdC0, poC0, saC0⟩, by
            intro f hf
            simp only [tbOf, flOf, List.mem_cons, List.mem_nil_iff, or_false] at hf
            rcases hf with rfl | rfl
            · exact noC0_top
            · exact noC0_bottom, by show (flOf 0).Nodup; decide +kernel, by show (flOf 0).length < 1000; decide, caC0, cn, ct, cmC0⟩,
    fl0 := rfl,
    mc0 := PySem.W.mg_of X G gC0,
    cls1 := fun X e => by
          subst e
          exact ⟨⟨pgC1, hdC1, poC1, saC1⟩, by
            intro f hf
            simp only [tbOf, flOf, List.mem_cons, List.mem_nil_iff, or_false] at hf
            subst hf
            exact noC1_rows, by show (flOf 1).Nodup; decide +kernel, by show (flOf 1).length < 1000; decide, caC1, cn, ct, cmC1⟩,
    fl1 := rfl,
    mc1 := PySem.W.mg_of X G gC1,
    k_MOST_SERVERS := ⟨_, PySem.W.mg_of X G z_MOST_SERVERS⟩,
    k_MOST_JOBS := ⟨_, PySem.W.mg_of X G z_MOST_JOBS⟩,
    a_is_int := f_is_int,
    d_is_int := _,
    F_is_int := fun_mk (st := st_is_int) l_is_int c_is_int k_is_int,
    m_is_int := PySem.W.mg_of X G g_is_int,
    a_Ratiodd_initdd := f_Ratiodd_initdd,
    d_Ratiodd_initdd := _,
    F_Ratiodd_initdd := fd_Ratiodd_initdd,
    M_Ratiodd_initdd := ⟨mkC0, g_Ratiodd_initdd, i_Ratiodd_initdd, kpC0⟩,
    B_Ratiodd_initdd := fd_Ratiodd_initdd.binds1 (ps := ["self", "top", "bottom"]) 2 0 (by decide) rfl fun T kV doc pm an cdv ct us its h1 h2 => match us, its, h1, h2 with | [_, _], [_], _, _ => ⟨_, rfl, rfl⟩,
    b_Ratiodd_initdd := bd_Ratiodd_initdd,
    a_is_number := f_is_number,
    d_is_number := _,
    F_is_number := fun_mk (st := st_is_number) l_is_number c_is_number k_is_number,
    m_is_number := PySem.W.mg_of X G g_is_number,
    a_as_ratio := f_as_ratio,
    d_as_ratio := _,
    F_as_ratio := fun_mk (st := st_as_ratio) l_as_ratio c_as_ratio k_as_ratio,
    m_as_ratio := PySem.W.mg_of X G g_as_ratio,
    a_Ratio_top := f_Ratio_top,
    d_Ratio_top := _,
    F_Ratio_top := fun_mk (st := st_Ratio_top) l_Ratio_top c_Ratio_top k_Ratio_top,
    q_Ratio_top := p_Ratio_top,
    p_Ratio_top := ⟨g_Ratio_top, pg_Ratio_top, pt_Ratio_top, ⟨_, pr_Ratio_top⟩⟩,
    a_Ratio_bottom := f_Ratio_bottom,
    d_Ratio_bottom := _,
    F_Ratio_bottom := fun_mk (st := st_Ratio_bottom) l_Ratio_bottom c_Ratio_bottom k_Ratio_bottom,
    q_Ratio_bottom := p_Ratio_bottom,
    p_Ratio_bottom := ⟨g_Ratio_bottom, pg_Ratio_bottom, pt_Ratio_bottom, ⟨_, pr_Ratio_bottom⟩⟩,
    a_Ratiodd_adddd := f_Ratiodd_adddd,
    d_Ratiodd_adddd := _,
    F_Ratiodd_adddd := fun_mk (st := st_Ratiodd_adddd) l_Ratiodd_adddd c_Ratiodd_adddd k_Ratiodd_adddd,
    s_Ratiodd_adddd := g_Ratiodd_adddd,
    i_Ratiodd_adddd := i_Ratiodd_adddd,
    a_Ratiodd_negdd := f_Ratiodd_negdd,
    d_Ratiodd_negdd := _,
    F_Ratiodd_negdd := fun_mk (st := st_Ratiodd_negdd) l_Ratiodd_negdd c_Ratiodd_negdd k_Ratiodd_negdd,
    s_Ratiodd_negdd := g_Ratiodd_negdd,
    i_Ratiodd_negdd := i_Ratiodd_negdd,
    a_Ratiodd_subdd := f_Ratiodd_subdd,
    d_Ratiodd_subdd := _,
    F_Ratiodd_subdd := fun_mk (st := st_Ratiodd_subdd) l_Ratiodd_subdd c_Ratiodd_subdd k_Ratiodd_subdd,
    s_Ratiodd_subdd := g_Ratiodd_subdd,
    i_Ratiodd_subdd := i_Ratiodd_subdd,
    a_Ratiodd_muldd := f_Ratiodd_muldd,
    d_Ratiodd_muldd := _,
    F_Ratiodd_muldd := fun_mk (st := st_Ratiodd_muldd) l_Ratiodd_muldd c_Ratiodd_muldd k_Ratiodd_muldd,
    s_Ratiodd_muldd := g_Ratiodd_muldd,
    i_Ratiodd_muldd := i_Ratiodd_muldd,
    a_Ratiodd_eqdd := f_Ratiodd_eqdd,
    d_Ratiodd_eqdd := _,
    F_Ratiodd_eqdd := fun_mk (st := st_Ratiodd_eqdd) l_Ratiodd_eqdd c_Ratiodd_eqdd k_Ratiodd_eqdd,
    s_Ratiodd_eqdd := g_Ratiodd_eqdd,
    i_Ratiodd_eqdd := i_Ratiodd_eqdd,
    a_Ratiodd_ltdd := f_Ratiodd_ltdd,
    d_Ratiodd_ltdd := _,
    F_Ratiodd_ltdd := fun_mk (st := st_Ratiodd_ltdd) l_Ratiodd_ltdd c_Ratiodd_ltdd k_Ratiodd_ltdd,
    s_Ratiodd_ltdd := g_Ratiodd_ltdd,
    i_Ratiodd_ltdd := i_Ratiodd_ltdd,
    a_Ratiodd_ledd := f_Ratiodd_ledd,
    d_Ratiodd_ledd := _,
    F_Ratiodd_ledd := fun_mk (st := st_Ratiodd_ledd) l_Ratiodd_ledd c_Ratiodd_ledd k_Ratiodd_ledd,
    s_Ratiodd_ledd := g_Ratiodd_ledd,
    i_Ratiodd_ledd := i_Ratiodd_ledd,
    a_is_list := f_is_list,
    d_is_list := _,
    F_is_list := fun_mk (st := st_is_list) l_is_list c_is_list k_is_list,
    m_is_list := PySem.W.mg_of X G g_is_list,
    a_is_time := f_is_time,
    d_is_time := _,
    F_is_time := fun_mk (st := st_is_time) l_is_time c_is_time k_is_time,
    m_is_time := PySem.W.mg_of X G g_is_time,
    a_is_row := f_is_row,
    d_is_row := _,
    F_is_row := fun_mk (st := st_is_row) l_is_row c_is_row k_is_row,
    m_is_row := PySem.W.mg_of X G g_is_row,
    a_is_table := f_is_table,
    d_is_table := _,
    F_is_table := fun_mk (st := st_is_table) l_is_table c_is_table k_is_table,
    m_is_table := PySem.W.mg_of X G g_is_table,
    a_is_index := f_is_index,
    d_is_index := _,
    F_is_index := fun_mk (st := st_is_index) l_is_index c_is_index k_is_index,
    m_is_index := PySem.W.mg_of X G g_is_index,
    a_Linedd_initdd := f_Linedd_initdd,
    d_Linedd_initdd := _,
    F_Linedd_initdd := fun_mk (st := st_Linedd_initdd) l_Linedd_initdd c_Linedd_initdd k_Linedd_initdd,
    M_Linedd_initdd := ⟨mkC1, g_Linedd_initdd, i_Linedd_initdd, kpC1⟩,
    b_Linedd_initdd := (fun_mk (st := st_Linedd_initdd) l_Linedd_initdd c_Linedd_initdd k_Linedd_initdd).binds (ps := ["self", "rows"]) fun _ _ _ _ _ _ us hl => match us, hl with | [_, _], _ => rfl,
    a_Linedd_eqdd := f_Linedd_eqdd,
    d_Linedd_eqdd := _,
    F_Linedd_eqdd := fun_mk (st := st_Linedd_eqdd) l_Linedd_eqdd c_Linedd_eqdd k_Linedd_eqdd,
    s_Linedd_eqdd := g_Linedd_eqdd,
    i_Linedd_eqdd := i_Linedd_eqdd,
    a_Line_jobs := f_Line_jobs,
    d_Line_jobs := _,
    F_Line_jobs := fun_mk (st := st_Line_jobs) l_Line_jobs c_Line_jobs k_Line_jobs,
    t_Line_jobs := ⟨g_Line_jobs, i_Line_jobs, k_Line_jobs⟩,
    a_Line_rows := f_Line_rows,
    d_Line_rows := _,
    F_Line_rows := fun_mk (st := st_Line_rows) l_Line_rows c_Line_rows k_Line_rows,
    t_Line_rows := ⟨g_Line_rows, i_Line_rows, k_Line_rows⟩,
    a_check_job := f_check_job,
    d_check_job := _,
    F_check_job := fun_mk (st := st_check_job) l_check_job c_check_job k_check_job,
    m_check_job := PySem.W.mg_of X G g_check_job,
    a_check_stretch := f_check_stretch,
    d_check_stretch := _,
    F_check_stretch := fun_mk (st := st_check_stretch) l_check_stretch c_check_stretch k_check_stretch,
    m_check_stretch := PySem.W.mg_of X G g_check_stretch,
    a_Line_part := f_Line_part,
    d_Line_part := _,
    F_Line_part := fun_mk (st := st_Line_part) l_Line_part c_Line_part k_Line_part,
    t_Line_part := ⟨g_Line_part, i_Line_part, k_Line_part⟩,
    a_Line_backwards := f_Line_backwards,
    d_Line_backwards := _,
    F_Line_backwards := fun_mk (st := st_Line_backwards) l_Line_backwards c_Line_backwards k_Line_backwards,
    t_Line_backwards := ⟨g_Line_backwards, i_Line_backwards, k_Line_backwards⟩,
    a__law_tape := f__law_tape,
    d__law_tape := _,
    F__law_tape := fun_mk (st := st__law_tape) l__law_tape c__law_tape k__law_tape,
    m__law_tape := PySem.W.mg_of X G g__law_tape,
    a__law_pick := f__law_pick,
    d__law_pick := _,
    F__law_pick := fun_mk (st := st__law_pick) l__law_pick c__law_pick k__law_pick,
    m__law_pick := PySem.W.mg_of X G g__law_pick,
    a__law_size := f__law_size,
    d__law_size := _,
    F__law_size := fun_mk (st := st__law_size) l__law_size c__law_size k__law_size,
    m__law_size := PySem.W.mg_of X G g__law_size,
    a__law_stretch := f__law_stretch,
    d__law_stretch := _,
    F__law_stretch := fun_mk (st := st__law_stretch) l__law_stretch c__law_stretch k__law_stretch,
    m__law_stretch := PySem.W.mg_of X G g__law_stretch,
    a__law_grid := f__law_grid,
    d__law_grid := _,
    F__law_grid := fun_mk (st := st__law_grid) l__law_grid c__law_grid k__law_grid,
    m__law_grid := PySem.W.mg_of X G g__law_grid,
    a__law_made := f__law_made,
    d__law_made := _,
    F__law_made := fun_mk (st := st__law_made) l__law_made c__law_made k__law_made,
    m__law_made := PySem.W.mg_of X G g__law_made,
    a__law_shown := f__law_shown,
    d__law_shown := _,
    F__law_shown := fun_mk (st := st__law_shown) l__law_shown c__law_shown k__law_shown,
    m__law_shown := PySem.W.mg_of X G g__law_shown,
    a__law_part := f__law_part,
    d__law_part := _,
    F__law_part := fun_mk (st := st__law_part) l__law_part c__law_part k__law_part,
    m__law_part := PySem.W.mg_of X G g__law_part,
    a_law := f_law,
    d_law := _,
    F_law := fun_mk (st := st_law) l_law c_law k_law,
    m_law := PySem.W.mg_of X G g_law,
    m_isi := PySem.W.mg_none_of X G z_isinstance,
    m_len := PySem.W.mg_none_of X G z_len,
    m_all := PySem.W.mg_none_of X G z_all,
    m_list := PySem.W.mg_none_of X G z_list,
    m_tuple := PySem.W.mg_none_of X G z_tuple,
    m_int := PySem.W.mg_none_of X G z_int,
    m_bool := PySem.W.mg_none_of X G z_bool,
    m_abs := PySem.W.mg_none_of X G z_abs,
    m_max := PySem.W.mg_none_of X G z_max,
    m_min := PySem.W.mg_none_of X G z_min,
    m_dict := PySem.W.mg_none_of X G z_dict,
    m_repr := PySem.W.mg_none_of X G z_repr,
    m_gcd := PySem.W.mg_of X G z_gcd,
    k_int := fun X e d t b ty hb => by
          subst e
          cases ty with
          | non => cases hb; exact (kit1 kit_int_NoneType)
          | bl b => cases hb; exact (kit1 kit_int_bool)
          | int i => cases hb; exact (kit1 kit_int_int)
          | str z => cases hb; exact (kit1 kit_int_str)
          | lst ds => cases hb; exact (kit1 kit_int_list)
          | tup ds => cases hb; exact (kit1 kit_int_tuple)
          | dic ks ds => cases hb; exact (kit1 kit_int_dict)
          | obj c fs => exact (match c, hb with
            | 0, hb => by cases hb; exact (kit1 kit_int_C0)
            | 1, hb => by cases hb; exact (kit1 kit_int_C1)
            | n + 2, hb => by cases hb),
    k_bool := fun X e d t b ty hb => by
          subst e
          cases ty with
          | non => cases hb; exact (kit1 kit_bool_NoneType)
          | bl b => cases hb; exact (kit1 kit_bool_bool)
          | int i => cases hb; exact (kit1 kit_bool_int)
          | str z => cases hb; exact (kit1 kit_bool_str)
          | lst ds => cases hb; exact (kit1 kit_bool_list)
          | tup ds => cases hb; exact (kit1 kit_bool_tuple)
          | dic ks ds => cases hb; exact (kit1 kit_bool_dict)
          | obj c fs => exact (match c, hb with
            | 0, hb => by cases hb; exact (kit1 kit_bool_C0)
            | 1, hb => by cases hb; exact (kit1 kit_bool_C1)
            | n + 2, hb => by cases hb),
    k_seq := fun X e d t b ty hb => by
          subst e
          cases ty with
          | non => cases hb; exact (kit2 kit_list_NoneType kit_tuple_NoneType)
          | bl b => cases hb; exact (kit2 kit_list_bool kit_tuple_bool)
          | int i => cases hb; exact (kit2 kit_list_int kit_tuple_int)
          | str z => cases hb; exact (kit2 kit_list_str kit_tuple_str)
          | lst ds => cases hb; exact (kit2 kit_list_list kit_tuple_list)
          | tup ds => cases hb; exact (kit2 kit_list_tuple kit_tuple_tuple)
          | dic ks ds => cases hb; exact (kit2 kit_list_dict kit_tuple_dict)
          | obj c fs => exact (match c, hb with
            | 0, hb => by cases hb; exact (kit2 kit_list_C0 kit_tuple_C0)
            | 1, hb => by cases hb; exact (kit2 kit_list_C1 kit_tuple_C1)
            | n + 2, hb => by cases hb),
    k_Ratio := fun X e d t b ty hb => by
          subst e
          cases ty with
          | non => cases hb; exact (kit1 kit_Ratio_NoneType)
          | bl b => cases hb; exact (kit1 kit_Ratio_bool)
          | int i => cases hb; exact (kit1 kit_Ratio_int)
          | str z => cases hb; exact (kit1 kit_Ratio_str)
          | lst ds => cases hb; exact (kit1 kit_Ratio_list)
          | tup ds => cases hb; exact (kit1 kit_Ratio_tuple)
          | dic ks ds => cases hb; exact (kit1 kit_Ratio_dict)
          | obj c fs => exact (match c, hb with
            | 0, hb => by cases hb; exact (kit1 kit_Ratio_C0)
            | 1, hb => by cases hb; exact (kit1 kit_Ratio_C1)
            | n + 2, hb => by cases hb),
    k_Line := fun X e d t b ty hb => by
          subst e
          cases ty with
          | non => cases hb; exact (kit1 kit_Line_NoneType)
          | bl b => cases hb; exact (kit1 kit_Line_bool)
          | int i => cases hb; exact (kit1 kit_Line_int)
          | str z => cases hb; exact (kit1 kit_Line_str)
          | lst ds => cases hb; exact (kit1 kit_Line_list)
          | tup ds => cases hb; exact (kit1 kit_Line_tuple)
          | dic ks ds => cases hb; exact (kit1 kit_Line_dict)
          | obj c fs => exact (match c, hb with
            | 0, hb => by cases hb; exact (kit1 kit_Line_C0)
            | 1, hb => by cases hb; exact (kit1 kit_Line_C1)
            | n + 2, hb => by cases hb),
    k_dict := fun X e d t b ty hb => by
          subst e
          cases ty with
          | non => cases hb; exact (kit1 kit_dict_NoneType)
          | bl b => cases hb; exact (kit1 kit_dict_bool)
          | int i => cases hb; exact (kit1 kit_dict_int)
          | str z => cases hb; exact (kit1 kit_dict_str)
          | lst ds => cases hb; exact (kit1 kit_dict_list)
          | tup ds => cases hb; exact (kit1 kit_dict_tuple)
          | dic ks ds => cases hb; exact (kit1 kit_dict_dict)
          | obj c fs => exact (match c, hb with
            | 0, hb => by cases hb; exact (kit1 kit_dict_C0)
            | 1, hb => by cases hb; exact (kit1 kit_dict_C1)
            | n + 2, hb => by cases hb),
    k_list := fun X e d t b ty hb => by
          subst e
          cases ty with
          | non => cases hb; exact (kit1 kit_list_NoneType)
          | bl b => cases hb; exact (kit1 kit_list_bool)
          | int i => cases hb; exact (kit1 kit_list_int)
          | str z => cases hb; exact (kit1 kit_list_str)
          | lst ds => cases hb; exact (kit1 kit_list_list)
          | tup ds => cases hb; exact (kit1 kit_list_tuple)
          | dic ks ds => cases hb; exact (kit1 kit_list_dict)
          | obj c fs => exact (match c, hb with
            | 0, hb => by cases hb; exact (kit1 kit_list_C0)
            | 1, hb => by cases hb; exact (kit1 kit_list_C1)
            | n + 2, hb => by cases hb),
    z_ByZero := fun e3 e4 => by
          subst e3 e4
          exact ⟨_, _, _, _, F.excBase_ValueError, xiC2, PySem.W.mg_of X0 G0 gC2, keC2, raises_own exC2 tyC2⟩,
    r_BadNumber := fun e1 e2 e3 e4 e5 => by
          subst e1 e2 e3 e4 e5
          exact ⟨fiC4, _, _, ⟨⟨_, _, _, _, _, _, _, _, _, _, _, _, _, _, _, xlC4, xbC4⟩, sxC4, exC4, tyC4, keC4⟩, giC4, tiC4, nfC4, oex_init (lv := 0) (fun_mk (st := st_BadNumber_init) l_iniC4 c_iniC4 k_iniC4) sc_BadNumber_init rfl (Or.inl rfl) (Or.inl rfl), (fun_mk (st := st_BadNumber_init) l_iniC4 c_iniC4 k_iniC4).binds (ps := ["self", "given"]) (fun _ _ _ _ _ _ us hl => match us, hl with | [_, _], _ => rfl), PySem.W.mg_of X0 G0 gC4⟩,
    r_BadLine := fun e1 e2 e3 e4 e5 => by
          subst e1 e2 e3 e4 e5
          exact ⟨fiC5, _, _, ⟨⟨_, _, _, _, _, _, _, _, _, _, _, _, _, _, _, xlC5, xbC5⟩, sxC5, exC5, tyC5, keC5⟩, giC5, tiC5, nfC5, oex_init (lv := 0) (fun_mk (st := st_BadLine_init) l_iniC5 c_iniC5 k_iniC5) sc_BadLine_init rfl (Or.inl rfl) (Or.inl rfl), (fun_mk (st := st_BadLine_init) l_iniC5 c_iniC5 k_iniC5).binds (ps := ["self", "given"]) (fun _ _ _ _ _ _ us hl => match us, hl with | [_, _], _ => rfl), PySem.W.mg_of X0 G0 gC5⟩,
    r_BadServer := fun e1 e2 e3 e4 e5 => by
          subst e1 e2 e3 e4 e5
          exact ⟨fiC6, _, _, ⟨⟨_, _, _, _, _, _, _, _, _, _, _, _, _, _, _, xlC6, xbC6⟩, sxC6, exC6, tyC6, keC6⟩, giC6, tiC6, nfC6, oex_init (lv := 0) (fun_mk (st := st_BadServer_init) l_iniC6 c_iniC6 k_iniC6) sc_BadServer_init rfl (Or.inl rfl) (Or.inl rfl), (fun_mk (st := st_BadServer_init) l_iniC6 c_iniC6 k_iniC6).binds (ps := ["self", "given"]) (fun _ _ _ _ _ _ us hl => match us, hl with | [_, _], _ => rfl), PySem.W.mg_of X0 G0 gC6⟩,
    r_BadJob := fun e1 e2 e3 e4 e5 => by
          subst e1 e2 e3 e4 e5
          exact ⟨fiC7, _, _, ⟨⟨_, _, _, _, _, _, _, _, _, _, _, _, _, _, _, xlC7, xbC7⟩, sxC7, exC7, tyC7, keC7⟩, giC7, tiC7, nfC7, oex_init (lv := 0) (fun_mk (st := st_BadJob_init) l_iniC7 c_iniC7 k_iniC7) sc_BadJob_init rfl (Or.inl rfl) (Or.inl rfl), (fun_mk (st := st_BadJob_init) l_iniC7 c_iniC7 k_iniC7).binds (ps := ["self", "given"]) (fun _ _ _ _ _ _ us hl => match us, hl with | [_, _], _ => rfl), PySem.W.mg_of X0 G0 gC7⟩,
    sf0 := sfC0,
    nf00 := f_C0_C0,
    nf0i := f_C0_int,
    h01 := neq_0_1,
    ne0 := neC0,
    nf01 := f_C0_C1,
    nf11 := f_C1_C1,
    ne1 := neC1,
    mc7 := PySem.W.mg_of X G gC7,
    xf7 := ⟨gaC7, ggC7, exC7, hxC7⟩,
    xn7 := nfC7,
    x7 := xoC7,
    nf0_NoneType := f_C0_NoneType,
    nf0_bool := f_C0_bool,
    nf0_str := f_C0_str,
    nf0_list := f_C0_list,
    nf0_tuple := f_C0_tuple }, rfl, rfl⟩
/-- the law's promise, whatever the tables -/
def spLaw (K : PySem.W.Frag) : Sp := fun vs H Q E => ∀ T : Tb, T.K = K → spS T [] 1 G_law vs H Q E
theorem law_sp {K : PySem.W.Frag} {H : Hp} {a : Addr} {ns : List Int} (m : ∃ env, G_law [some (.part 63 (ns.map .int))] = .ok env (.bl true)) (hS : SqL K H a (ns.map V.int)) : spLaw K [.ref a] H (fun v _ => v = .bl true) (fun _ _ _ => False) := fun T hT => by
  have r : RepL T H [.part 63 (ns.map .int)] [.ref a] := RepL.one (by
    unfold Rep
    refine ⟨a, ns.map V.int, rfl, by rw [hT]; exact hS, ?_⟩
    clear m hS
    induction ns with
    | nil => exact RepL.nil
    | cons z t ih => exact RepL.cons (by unfold Rep; rfl) ih)
  obtain ⟨env, e⟩ := m
  refine ⟨rfl, H, [some (.part 63 (ns.map .int))], NoAd, good_args (Same.refl _) r, ?_⟩
  rw [e]
  intro H' F' fp' v _ _ rv
  unfold Rep at rv
  exact rv
theorem cx_nil {P : Program} {w : World} {H : Hp} {s s' : Shared} {e : Value} (h : L2N.CX P w [] H s (fun _ _ _ => False) e s') : False := by
  obtain ⟨_, _, _, _, _, _, _, _, _, _, _, _, z⟩ := h
  exact z
theorem all_mk {P : Program} {w : World} {K : PySem.W.Frag} {h : Heap} {mg : Str → Option Value} {fa : Addr} (X0 : K.In h) (G0 : h.Ns mainGlobals mg) (hfa : mg "law" = some (.ref fa)) {C0 : Addr} {C1 : Addr} {C2 : Addr} {C4 : Addr} {C5 : Addr} {C6 : Addr} {C7 : Addr} {f_is_int : Addr} {oc_is_int : Value} {dc_is_int : Value} {pm_is_int : Value} {cd_is_int : Value} {ct_is_int : Value} {kV_is_int : Value} {od_is_int : Option Addr} {an_is_int : Option Addr} {sl_is_int : Array (Option Value)} {f_Ratiodd_initdd : Addr} {oc_Ratiodd_initdd : Value} {dc_Ratiodd_initdd : Value} {pm_Ratiodd_initdd : Value} {cd_Ratiodd_initdd : Value} {ct_Ratiodd_initdd : Value} {kV_Ratiodd_initdd : Value} {od_Ratiodd_initdd : Option Addr} {an_Ratiodd_initdd : Option Addr} {sl_Ratiodd_initdd : Array (Option Value)} {tD_Ratiodd_initdd : Addr} {n_Ratiodd_initdd : Nat} {cs_Ratiodd_initdd : Value} {ds_Ratiodd_initdd : Option Addr} {t_Ratiodd_initdd : Tok} {so_Ratiodd_initdd : Array (Option Value)} {f_is_number : Addr} {oc_is_number : Value} {dc_is_number : Value} {pm_is_number : Value} {cd_is_number : Value} {ct_is_number : Value} {kV_is_number : Value} {od_is_number : Option Addr} {an_is_number : Option Addr} {sl_is_number : Array (Option Value)} {f_as_ratio : Addr} {oc_as_ratio : Value} {dc_as_ratio : Value} {pm_as_ratio : Value} {cd_as_ratio : Value} {ct_as_ratio : Value} {kV_as_ratio : Value} {od_as_ratio : Option Addr} {an_as_ratio : Option Addr} {sl_as_ratio : Array (Option Value)} {f_Ratio_top : Addr} {p_Ratio_top : Addr} {r_Ratio_top : List Value} {oc_Ratio_top : Value} {dc_Ratio_top : Value} {pm_Ratio_top : Value} {cd_Ratio_top : Value} {ct_Ratio_top : Value} {kV_Ratio_top : Value} {od_Ratio_top : Option Addr} {an_Ratio_top : Option Addr} {sl_Ratio_top : Array (Option Value)} {f_Ratio_bottom : Addr} {p_Ratio_bottom : Addr} {r_Ratio_bottom : List Value} {oc_Ratio_bottom : Value} {dc_Ratio_bottom : Value} {pm_Ratio_bottom : Value} {cd_Ratio_bottom : Value} {ct_Ratio_bottom : Value} {kV_Ratio_bottom : Value} {od_Ratio_bottom : Option Addr} {an_Ratio_bottom : Option Addr} {sl_Ratio_bottom : Array (Option Value)} {f_Ratiodd_adddd : Addr} {oc_Ratiodd_adddd : Value} {dc_Ratiodd_adddd : Value} {pm_Ratiodd_adddd : Value} {cd_Ratiodd_adddd : Value} {ct_Ratiodd_adddd : Value} {kV_Ratiodd_adddd : Value} {od_Ratiodd_adddd : Option Addr} {an_Ratiodd_adddd : Option Addr} {sl_Ratiodd_adddd : Array (Option Value)} {f_Ratiodd_negdd : Addr} {oc_Ratiodd_negdd : Value} {dc_Ratiodd_negdd : Value} {pm_Ratiodd_negdd : Value} {cd_Ratiodd_negdd : Value} {ct_Ratiodd_negdd : Value} {kV_Ratiodd_negdd : Value} {od_Ratiodd_negdd : Option Addr} {an_Ratiodd_negdd : Option Addr} {sl_Ratiodd_negdd : Array (Option Value)} {f_Ratiodd_subdd : Addr} {oc_Ratiodd_subdd : Value} {dc_Ratiodd_subdd : Value} {pm_Ratiodd_subdd : Value} {cd_Ratiodd_subdd : Value} {ct_Ratiodd_subdd : Value} {kV_Ratiodd_subdd : Value} {od_Ratiodd_subdd : Option Addr} {an_Ratiodd_subdd : Option Addr} {sl_Ratiodd_subdd : Array (Option Value)} {f_Ratiodd_muldd : Addr} {oc_Ratiodd_muldd : Value} {dc_Ratiodd_muldd : Value} {pm_Ratiodd_muldd : Value} {cd_Ratiodd_muldd : Value} {ct_Ratiodd_muldd : Value} {kV_Ratiodd_muldd : Value} {od_Ratiodd_muldd : Option Addr} {an_Ratiodd_muldd : Option Addr} {sl_Ratiodd_muldd : Array (Option Value)} {f_Ratiodd_eqdd : Addr} {oc_Ratiodd_eqdd : Value} {dc_Ratiodd_eqdd : Value} {pm_Ratiodd_eqdd : Value} {cd_Ratiodd_eqdd : Value} {ct_Ratiodd_eqdd : Value} {kV_Ratiodd_eqdd : Value} {od_Ratiodd_eqdd : Option Addr} {an_Ratiodd_eqdd : Option Addr} {sl_Ratiodd_eqdd : Array (Option Value)} {f_Ratiodd_ltdd : Addr} {oc_Ratiodd_ltdd : Value} {dc_Ratiodd_ltdd : Value} {pm_Ratiodd_ltdd : Value} {cd_Ratiodd_ltdd : Value} {ct_Ratiodd_ltdd : Value} {kV_Ratiodd_ltdd : Value} {od_Ratiodd_ltdd : Option Addr} {an_Ratiodd_ltdd : Option Addr} {sl_Ratiodd_ltdd : Array (Option Value)} {f_Ratiodd_ledd : Addr} {oc_Ratiodd_ledd : Value} {dc_Ratiodd_ledd : Value} {pm_Ratiodd_ledd : Value} {cd_Ratiodd_ledd : Value} {ct_Ratiodd_ledd : Value} {kV_Ratiodd_ledd : Value} {od_Ratiodd_ledd : Option Addr} {an_Ratiodd_ledd : Option Addr} {sl_Ratiodd_ledd : Array (Option Value)} {f_is_list : Addr} {oc_is_list : Value} {dc_is_list : Value} {pm_is_list : Value} {cd_is_list : Value} {ct_is_list : Value} {kV_is_list : Value} {od_is_list : Option Addr} {an_is_list : Option Addr} {sl_is_list : Array (Option Value)} {f_is_time : Addr} {oc_is_time : Value} {dc_is_time : Value} {pm_is_time : Value} {cd_is_time : Value} {ct_is_time : Value} {kV_is_time : Value} {od_is_time : Option Addr} {an_is_time : Option Addr} {sl_is_time : Array (Option Value)} {f_is_row : Addr} {oc_is_row : Value} {dc_is_row : Value} {pm_is_row : Value} {cd_is_row : Value} {ct_is_row : Value} {kV_is_row : Value} {od_is_row : Option Addr} {an_is_row : Option Addr} {sl_is_row : Array (Option Value)} {f_is_table : Addr} {oc_is_table : Value} {dc_is_table : Value} {pm_is_table : Value} {cd_is_table : Value} {ct_is_table : Value} {kV_is_table : Value} {od_is_table : Option Addr} {an_is_table : Option Addr} {sl_is_table : Array (Option Value)} {f_is_index : Addr} {oc_is_index : Value} {dc_is_index : Value} {pm_is_index : Value} {cd_is_index : Value} {ct_is_index : Value} {kV_is_index : Value} {od_is_index : Option Addr} {an_is_index : Option Addr} {sl_is_index : Array (Option Value)} {f_Linedd_initdd : Addr} {oc_Linedd_initdd : Value} {dc_Linedd_initdd : Value} {pm_Linedd_initdd : Value} {cd_Linedd_initdd : Value} {ct_Linedd_initdd : Value} {kV_Linedd_initdd : Value} {od_Linedd_initdd : Option Addr} {an_Linedd_initdd : Option Addr} {sl_Linedd_initdd : Array (Option Value)} {f_Linedd_eqdd : Addr} {oc_Linedd_eqdd : Value} {dc_Linedd_eqdd : Value} {pm_Linedd_eqdd : Value} {cd_Linedd_eqdd : Value} {ct_Linedd_eqdd : Value} {kV_Linedd_eqdd : Value} {od_Linedd_eqdd : Option Addr} {an_Linedd_eqdd : Option Addr} {sl_Linedd_eqdd : Array (Option Value)} {f_Line_jobs : Addr} {oc_Line_jobs : Value} {dc_Line_jobs : Value} {pm_Line_jobs : Value} {cd_Line_jobs : Value} {ct_Line_jobs : Value} {kV_Line_jobs : Value} {od_Line_jobs : Option Addr} {an_Line_jobs : Option Addr} {sl_Line_jobs : Array (Option Value)} {f_Line_rows : Addr} {oc_Line_rows : Value} {dc_Line_rows : Value} {pm_Line_rows : Value} {cd_Line_rows : Value} {ct_Line_rows : Value} {kV_Line_rows : Value} {od_Line_rows : Option Addr} {an_Line_rows : Option Addr} {sl_Line_rows : Array (Option Value)} {f_check_job : Addr} {oc_check_job : Value} {dc_check_job : Value} {pm_check_job : Value} {cd_check_job : Value} {ct_check_job : Value} {kV_check_job : Value} {od_check_job : Option Addr} {an_check_job : Option Addr} {sl_check_job : Array (Option Value)} {f_check_stretch : Addr} {oc_check_stretch : Value} {dc_check_stretch : Value} {pm_check_stretch : Value} {cd_check_stretch : Value} {ct_check_stretch : Value} {kV_check_stretch : Value} {od_check_stretch : Option Addr} {an_check_stretch : Option Addr} {sl_check_stretch : Array (Option Value)} {f_Line_part : Addr} {oc_Line_part : Value} {dc_Line_part : Value} {pm_Line_part : Value} {cd_Line_part : Value} {ct_Line_part : Value} {kV_Line_part : Value} {od_Line_part : Option Addr} {an_Line_part : Option Addr} {sl_Line_part : Array (Option Value)} {f_Line_backwards : Addr} {oc_Line_backwards : Value} {dc_Line_backwards : Value} {pm_Line_backwards : Value} {cd_Line_backwards : Value} {ct_Line_backwards : Value} {kV_Line_backwards : Value} {od_Line_backwards : Option Addr} {an_Line_backwards : Option Addr} {sl_Line_backwards : Array (Option Value)} {f__law_tape : Addr} {oc__law_tape : Value} {dc__law_tape : Value} {pm__law_tape : Value} {cd__law_tape : Value} {ct__law_tape : Value} {kV__law_tape : Value} {od__law_tape : Option Addr} {an__law_tape : Option Addr} {sl__law_tape : Array (Option Value)} {f__law_pick : Addr} {oc__law_pick : Value} {dc__law_pick : Value} {pm__law_pick : Value} {cd__law_pick : Value} {ct__law_pick : Value} {kV__law_pick : Value} {od__law_pick : Option Addr} {an__law_pick : Option Addr} {sl__law_pick : Array (Option Value)} {f__law_size : Addr} {oc__law_size : Value} {dc__law_size : Value} {pm__law_size : Value} {cd__law_size : Value} {ct__law_size : Value} {kV__law_size : Value} {od__law_size : Option Addr} {an__law_size : Option Addr} {sl__law_size : Array (Option Value)} {f__law_stretch : Addr} {oc__law_stretch : Value} {dc__law_stretch : Value} {pm__law_stretch : Value} {cd__law_stretch : Value} {ct__law_stretch : Value} {kV__law_stretch : Value} {od__law_stretch : Option Addr} {an__law_stretch : Option Addr} {sl__law_stretch : Array (Option Value)} {f__law_grid : Addr} {oc__law_grid : Value} {dc__law_grid : Value} {pm__law_grid : Value} {cd__law_grid : Value} {ct__law_grid : Value} {kV__law_grid : Value} {od__law_grid : Option Addr} {an__law_grid : Option Addr} {sl__law_grid : Array (Option Value)} {f__law_made : Addr} {oc__law_made : Value} {dc__law_made : Value} {pm__law_made : Value} {cd__law_made : Value} {ct__law_made : Value} {kV__law_made : Value} {od__law_made : Option Addr} {an__law_made : Option Addr} {sl__law_made : Array (Option Value)} {f__law_shown : Addr} {oc__law_shown : Value} {dc__law_shown : Value} {pm__law_shown : Value} {cd__law_shown : Value} {ct__law_shown : Value} {kV__law_shown : Value} {od__law_shown : Option Addr} {an__law_shown : Option Addr} {sl__law_shown : Array (Option Value)} {f__law_part : Addr} {oc__law_part : Value} {dc__law_part : Value} {pm__law_part : Value} {cd__law_part : Value} {ct__law_part : Value} {kV__law_part : Value} {od__law_part : Option Addr} {an__law_part : Option Addr} {sl__law_part : Array (Option Value)} {f_law : Addr} {oc_law : Value} {dc_law : Value} {pm_law : Value} {cd_law : Value} {ct_law : Value} {kV_law : Value} {od_law : Option Addr} {an_law : Option Addr} {sl_law : Array (Option Value)} {nmC4 : Str} {qnC4 : Str} {NC4 : Addr} {bsC4 : List Value} {bmC4 : List Value} {snC4 : List Str} {sbC4 : List Value} {abC4 : Bool} {coC4 : Option Bool} {ddC4 : Option Addr} {x0C4 : Option Value} {x1C4 : Option Value} {x2C4 : Option Value} {x3C4 : Option Value} {x5C4 : Option Value} {fiC4 : Addr} {oc_iniC4 : Value} {dc_iniC4 : Value} {pm_iniC4 : Value} {cd_iniC4 : Value} {ct_iniC4 : Value} {kV_iniC4 : Value} {od_iniC4 : Option Addr} {an_iniC4 : Option Addr} {sl_iniC4 : Array (Option Value)} {nmC5 : Str} {qnC5 : Str} {NC5 : Addr} {bsC5 : List Value} {bmC5 : List Value} {snC5 : List Str} {sbC5 : List Value} {abC5 : Bool} {coC5 : Option Bool} {ddC5 : Option Addr} {x0C5 : Option Value} {x1C5 : Option Value} {x2C5 : Option Value} {x3C5 : Option Value} {x5C5 : Option Value} {fiC5 : Addr} {oc_iniC5 : Value} {dc_iniC5 : Value} {pm_iniC5 : Value} {cd_iniC5 : Value} {ct_iniC5 : Value} {kV_iniC5 : Value} {od_iniC5 : Option Addr} {an_iniC5 : Option Addr} {sl_iniC5 : Array (Option Value)} {nmC6 : Str} {qnC6 : Str} {NC6 : Addr} {bsC6 : List Value} {bmC6 : List Value} {snC6 : List Str} {sbC6 : List Value} {abC6 : Bool} {coC6 : Option Bool} {ddC6 : Option Addr} {x0C6 : Option Value} {x1C6 : Option Value} {x2C6 : Option Value} {x3C6 : Option Value} {x5C6 : Option Value} {fiC6 : Addr} {oc_iniC6 : Value} {dc_iniC6 : Value} {pm_iniC6 : Value} {cd_iniC6 : Value} {ct_iniC6 : Value} {kV_iniC6 : Value} {od_iniC6 : Option Addr} {an_iniC6 : Option Addr} {sl_iniC6 : Array (Option Value)} {nmC7 : Str} {qnC7 : Str} {NC7 : Addr} {bsC7 : List Value} {bmC7 : List Value} {snC7 : List Str} {sbC7 : List Value} {abC7 : Bool} {coC7 : Option Bool} {ddC7 : Option Addr} {x0C7 : Option Value} {x1C7 : Option Value} {x2C7 : Option Value} {x3C7 : Option Value} {x5C7 : Option Value} {fiC7 : Addr} {oc_iniC7 : Value} {dc_iniC7 : Value} {pm_iniC7 : Value} {cd_iniC7 : Value} {ct_iniC7 : Value} {kV_iniC7 : Value} {od_iniC7 : Option Addr} {an_iniC7 : Option Addr} {sl_iniC7 : Array (Option Value)} {t_MOST_SERVERS : Tok} {t_MOST_JOBS : Tok}
    (gC0 : PySem.W.nsIn K mainGlobals "Ratio" = some (some (.ref C0)))
    (gC1 : PySem.W.nsIn K mainGlobals "Line" = some (some (.ref C1)))
    (gC2 : PySem.W.nsIn K mainGlobals "ByZero" = some (some (.ref C2)))
    (gC4 : PySem.W.nsIn K mainGlobals "BadNumber" = some (some (.ref C4)))
    (gC5 : PySem.W.nsIn K mainGlobals "BadLine" = some (some (.ref C5)))
    (gC6 : PySem.W.nsIn K mainGlobals "BadServer" = some (some (.ref C6)))
    (gC7 : PySem.W.nsIn K mainGlobals "BadJob" = some (some (.ref C7)))
    (g_is_int : PySem.W.nsIn K mainGlobals "is_int" = some (some (.ref f_is_int)))
    (l_is_int : K.lookup f_is_int = some ⟨oc_is_int, od_is_int, .func (PySem.W.fnOf "is_int" "is_int" (defArgs st_is_int) (defBody st_is_int) (defScope st_is_int) .none kV_is_int dc_is_int pm_is_int an_is_int cd_is_int ct_is_int), sl_is_int⟩)
    (c_is_int : PySem.W.codeIn K cd_is_int "is_int" = true)
    (k_is_int : PySem.W.keepIn K (.ref f_is_int) = true)
    (g_Ratiodd_initdd : PySem.W.findIn K (.ref C0) "__init__" = some (some (.ref f_Ratiodd_initdd)))
    (i_Ratiodd_initdd : PySem.W.isFn K (.ref f_Ratiodd_initdd) = true)
    (l_Ratiodd_initdd : K.lookup f_Ratiodd_initdd = some ⟨oc_Ratiodd_initdd, od_Ratiodd_initdd, .func (PySem.W.fnOf "__init__" "Ratio.__init__" (defArgs st_Ratiodd_initdd) (defBody st_Ratiodd_initdd) (defScope st_Ratiodd_initdd) (.ref tD_Ratiodd_initdd) kV_Ratiodd_initdd dc_Ratiodd_initdd pm_Ratiodd_initdd an_Ratiodd_initdd cd_Ratiodd_initdd ct_Ratiodd_initdd), sl_Ratiodd_initdd⟩)
    (c_Ratiodd_initdd : PySem.W.codeIn K cd_Ratiodd_initdd "Ratio.__init__" = true)
    (k_Ratiodd_initdd : PySem.W.keepIn K (.ref f_Ratiodd_initdd) = true)
    (z_Ratiodd_initdd : K.lookup tD_Ratiodd_initdd = some ⟨cs_Ratiodd_initdd, ds_Ratiodd_initdd, .seq #[.int 1 t_Ratiodd_initdd] n_Ratiodd_initdd, so_Ratiodd_initdd⟩)
    (g_is_number : PySem.W.nsIn K mainGlobals "is_number" = some (some (.ref f_is_number)))
    (l_is_number : K.lookup f_is_number = some ⟨oc_is_number, od_is_number, .func (PySem.W.fnOf "is_number" "is_number" (defArgs st_is_number) (defBody st_is_number) (defScope st_is_number) .none kV_is_number dc_is_number pm_is_number an_is_number cd_is_number ct_is_number), sl_is_number⟩)
    (c_is_number : PySem.W.codeIn K cd_is_number "is_number" = true)
    (k_is_number : PySem.W.keepIn K (.ref f_is_number) = true)
    (g_as_ratio : PySem.W.nsIn K mainGlobals "as_ratio" = some (some (.ref f_as_ratio)))
    (l_as_ratio : K.lookup f_as_ratio = some ⟨oc_as_ratio, od_as_ratio, .func (PySem.W.fnOf "as_ratio" "as_ratio" (defArgs st_as_ratio) (defBody st_as_ratio) (defScope st_as_ratio) .none kV_as_ratio dc_as_ratio pm_as_ratio an_as_ratio cd_as_ratio ct_as_ratio), sl_as_ratio⟩)
    (c_as_ratio : PySem.W.codeIn K cd_as_ratio "as_ratio" = true)
    (k_as_ratio : PySem.W.keepIn K (.ref f_as_ratio) = true)
    (g_Ratio_top : PySem.W.findIn K (.ref C0) "top" = some (some (.ref p_Ratio_top)))
    (pg_Ratio_top : PySem.W.specialIn K (.ref p_Ratio_top) "__get__" = some (some (.builtin "property.__get__")))
    (pt_Ratio_top : PySem.W.takesIn K (.ref p_Ratio_top) = some true)
    (pr_Ratio_top : PySem.W.recIn K p_Ratio_top "property" = some (.ref f_Ratio_top :: r_Ratio_top))
    (l_Ratio_top : K.lookup f_Ratio_top = some ⟨oc_Ratio_top, od_Ratio_top, .func (PySem.W.fnOf "top" "Ratio.top" (defArgs st_Ratio_top) (defBody st_Ratio_top) (defScope st_Ratio_top) .none kV_Ratio_top dc_Ratio_top pm_Ratio_top an_Ratio_top cd_Ratio_top ct_Ratio_top), sl_Ratio_top⟩)
    (c_Ratio_top : PySem.W.codeIn K cd_Ratio_top "Ratio.top" = true)
    (k_Ratio_top : PySem.W.keepIn K (.ref f_Ratio_top) = true)
    (g_Ratio_bottom : PySem.W.findIn K (.ref C0) "bottom" = some (some (.ref p_Ratio_bottom)))
    (pg_Ratio_bottom : PySem.W.specialIn K (.ref p_Ratio_bottom) "__get__" = some (some (.builtin "property.__get__")))
    (pt_Ratio_bottom : PySem.W.takesIn K (.ref p_Ratio_bottom) = some true)
    (pr_Ratio_bottom : PySem.W.recIn K p_Ratio_bottom "property" = some (.ref f_Ratio_bottom :: r_Ratio_bottom))
    (l_Ratio_bottom : K.lookup f_Ratio_bottom = some ⟨oc_Ratio_bottom, od_Ratio_bottom, .func (PySem.W.fnOf "bottom" "Ratio.bottom" (defArgs st_Ratio_bottom) (defBody st_Ratio_bottom) (defScope st_Ratio_bottom) .none kV_Ratio_bottom dc_Ratio_bottom pm_Ratio_bottom an_Ratio_bottom cd_Ratio_bottom ct_Ratio_bottom), sl_Ratio_bottom⟩)
    (c_Ratio_bottom : PySem.W.codeIn K cd_Ratio_bottom "Ratio.bottom" = true)
    (k_Ratio_bottom : PySem.W.keepIn K (.ref f_Ratio_bottom) = true)
    (g_Ratiodd_adddd : PySem.W.findIn K (.ref C0) "__add__" = some (some (.ref f_Ratiodd_adddd)))
    (i_Ratiodd_adddd : PySem.W.isFn K (.ref f_Ratiodd_adddd) = true)
    (l_Ratiodd_adddd : K.lookup f_Ratiodd_adddd = some ⟨oc_Ratiodd_adddd, od_Ratiodd_adddd, .func (PySem.W.fnOf "__add__" "Ratio.__add__" (defArgs st_Ratiodd_adddd) (defBody st_Ratiodd_adddd) (defScope st_Ratiodd_adddd) .none kV_Ratiodd_adddd dc_Ratiodd_adddd pm_Ratiodd_adddd an_Ratiodd_adddd cd_Ratiodd_adddd ct_Ratiodd_adddd), sl_Ratiodd_adddd⟩)
    (c_Ratiodd_adddd : PySem.W.codeIn K cd_Ratiodd_adddd "Ratio.__add__" = true)
    (k_Ratiodd_adddd : PySem.W.keepIn K (.ref f_Ratiodd_adddd) = true)
    (g_Ratiodd_negdd : PySem.W.findIn K (.ref C0) "__neg__" = some (some (.ref f_Ratiodd_negdd)))
    (i_Ratiodd_negdd : PySem.W.isFn K (.ref f_Ratiodd_negdd) = true)
    (l_Ratiodd_negdd : K.lookup f_Ratiodd_negdd = some ⟨oc_Ratiodd_negdd, od_Ratiodd_negdd, .func (PySem.W.fnOf "__neg__" "Ratio.__neg__" (defArgs st_Ratiodd_negdd) (defBody st_Ratiodd_negdd) (defScope st_Ratiodd_negdd) .none kV_Ratiodd_negdd dc_Ratiodd_negdd pm_Ratiodd_negdd an_Ratiodd_negdd cd_Ratiodd_negdd ct_Ratiodd_negdd), sl_Ratiodd_negdd⟩)
    (c_Ratiodd_negdd : PySem.W.codeIn K cd_Ratiodd_negdd "Ratio.__neg__" = true)
    (k_Ratiodd_negdd : PySem.W.keepIn K (.ref f_Ratiodd_negdd) = true)
    (g_Ratiodd_subdd : PySem.W.findIn K (.ref C0) "__sub__" = some (some (.ref f_Ratiodd_subdd)))
    (i_Ratiodd_subdd : PySem.W.isFn K (.ref f_Ratiodd_subdd) = true)
    (l_Ratiodd_subdd : K.lookup f_Ratiodd_subdd = some ⟨oc_Ratiodd_subdd, od_Ratiodd_subdd, .func (PySem.W.fnOf "__sub__" "Ratio.__sub__" (defArgs st_Ratiodd_subdd) (defBody st_Ratiodd_subdd) (defScope st_Ratiodd_subdd) .none kV_Ratiodd_subdd dc_Ratiodd_subdd pm_Ratiodd_subdd an_Ratiodd_subdd cd_Ratiodd_subdd ct_Ratiodd_subdd), sl_Ratiodd_subdd⟩)
    (c_Ratiodd_subdd : PySem.W.codeIn K cd_Ratiodd_subdd "Ratio.__sub__" = true)
    (k_Ratiodd_subdd : PySem.W.keepIn K (.ref f_Ratiodd_subdd) = true)
    (g_Ratiodd_muldd : PySem.W.findIn K (.ref C0) "__mul__" = some (some (.ref f_Ratiodd_muldd)))
    (i_Ratiodd_muldd : PySem.W.isFn K (.ref f_Ratiodd_muldd) = true)
    (l_Ratiodd_muldd : K.lookup f_Ratiodd_muldd = some ⟨oc_Ratiodd_muldd, od_Ratiodd_muldd, .func (PySem.W.fnOf "__mul__" "Ratio.__mul__" (defArgs st_Ratiodd_muldd) (defBody st_Ratiodd_muldd) (defScope st_Ratiodd_muldd) .none kV_Ratiodd_muldd dc_Ratiodd_muldd pm_Ratiodd_muldd an_Ratiodd_muldd cd_Ratiodd_muldd ct_Ratiodd_muldd), sl_Ratiodd_muldd⟩)
    (c_Ratiodd_muldd : PySem.W.codeIn K cd_Ratiodd_muldd "Ratio.__mul__" = true)
    (k_Ratiodd_muldd : PySem.W.keepIn K (.ref f_Ratiodd_muldd) = true)
    (g_Ratiodd_eqdd : PySem.W.findIn K (.ref C0) "__eq__" = some (some (.ref f_Ratiodd_eqdd)))
    (i_Ratiodd_eqdd : PySem.W.isFn K (.ref f_Ratiodd_eqdd) = true)
    (l_Ratiodd_eqdd : K.lookup f_Ratiodd_eqdd = some ⟨oc_Ratiodd_eqdd, od_Ratiodd_eqdd, .func (PySem.W.fnOf "__eq__" "Ratio.__eq__" (defArgs st_Ratiodd_eqdd) (defBody st_Ratiodd_eqdd) (defScope st_Ratiodd_eqdd) .none kV_Ratiodd_eqdd dc_Ratiodd_eqdd pm_Ratiodd_eqdd an_Ratiodd_eqdd cd_Ratiodd_eqdd ct_Ratiodd_eqdd), sl_Ratiodd_eqdd⟩)
    (c_Ratiodd_eqdd : PySem.W.codeIn K cd_Ratiodd_eqdd "Ratio.__eq__" = true)
    (k_Ratiodd_eqdd : PySem.W.keepIn K (.ref f_Ratiodd_eqdd) = true)
    (g_Ratiodd_ltdd : PySem.W.findIn K (.ref C0) "__lt__" = some (some (.ref f_Ratiodd_ltdd)))
    (i_Ratiodd_ltdd : PySem.W.isFn K (.ref f_Ratiodd_ltdd) = true)
    (l_Ratiodd_ltdd : K.lookup f_Ratiodd_ltdd = some ⟨oc_Ratiodd_ltdd, od_Ratiodd_ltdd, .func (PySem.W.fnOf "__lt__" "Ratio.__lt__" (defArgs st_Ratiodd_ltdd) (defBody st_Ratiodd_ltdd) (defScope st_Ratiodd_ltdd) .none kV_Ratiodd_ltdd dc_Ratiodd_ltdd pm_Ratiodd_ltdd an_Ratiodd_ltdd cd_Ratiodd_ltdd ct_Ratiodd_ltdd), sl_Ratiodd_ltdd⟩)
    (c_Ratiodd_ltdd : PySem.W.codeIn K cd_Ratiodd_ltdd "Ratio.__lt__" = true)
    (k_Ratiodd_ltdd : PySem.W.keepIn K (.ref f_Ratiodd_ltdd) = true)
    (g_Ratiodd_ledd : PySem.W.findIn K (.ref C0) "__le__" = some (some (.ref f_Ratiodd_ledd)))
    (i_Ratiodd_ledd : PySem.W.isFn K (.ref f_Ratiodd_ledd) = true)
    (l_Ratiodd_ledd : K.lookup f_Ratiodd_ledd = some ⟨oc_Ratiodd_ledd, od_Ratiodd_ledd, .func (PySem.W.fnOf "__le__" "Ratio.__le__" (defArgs st_Ratiodd_ledd) (defBody st_Ratiodd_ledd) (defScope st_Ratiodd_ledd) .none kV_Ratiodd_ledd dc_Ratiodd_ledd pm_Ratiodd_ledd an_Ratiodd_ledd cd_Ratiodd_ledd ct_Ratiodd_ledd), sl_Ratiodd_ledd⟩)
    (c_Ratiodd_ledd : PySem.W.codeIn K cd_Ratiodd_ledd "Ratio.__le__" = true)
    (k_Ratiodd_ledd : PySem.W.keepIn K (.ref f_Ratiodd_ledd) = true)
    (g_is_list : PySem.W.nsIn K mainGlobals "is_list" = some (some (.ref f_is_list)))
    (l_is_list : K.lookup f_is_list = some ⟨oc_is_list, od_is_list, .func (PySem.W.fnOf "is_list" "is_list" (defArgs st_is_list) (defBody st_is_list) (defScope st_is_list) .none kV_is_list dc_is_list pm_is_list an_is_list cd_is_list ct_is_list), sl_is_list⟩)
    (c_is_list : PySem.W.codeIn K cd_is_list "is_list" = true)
    (k_is_list : PySem.W.keepIn K (.ref f_is_list) = true)
    (g_is_time : PySem.W.nsIn K mainGlobals "is_time" = some (some (.ref f_is_time)))
    (l_is_time : K.lookup f_is_time = some ⟨oc_is_time, od_is_time, .func (PySem.W.fnOf "is_time" "is_time" (defArgs st_is_time) (defBody st_is_time) (defScope st_is_time) .none kV_is_time dc_is_time pm_is_time an_is_time cd_is_time ct_is_time), sl_is_time⟩)
    (c_is_time : PySem.W.codeIn K cd_is_time "is_time" = true)
    (k_is_time : PySem.W.keepIn K (.ref f_is_time) = true)
    (g_is_row : PySem.W.nsIn K mainGlobals "is_row" = some (some (.ref f_is_row)))
    (l_is_row : K.lookup f_is_row = some ⟨oc_is_row, od_is_row, .func (PySem.W.fnOf "is_row" "is_row" (defArgs st_is_row) (defBody st_is_row) (defScope st_is_row) .none kV_is_row dc_is_row pm_is_row an_is_row cd_is_row ct_is_row), sl_is_row⟩)
    (c_is_row : PySem.W.codeIn K cd_is_row "is_row" = true)
    (k_is_row : PySem.W.keepIn K (.ref f_is_row) = true)
    (g_is_table : PySem.W.nsIn K mainGlobals "is_table" = some (some (.ref f_is_table)))
    (l_is_table : K.lookup f_is_table = some ⟨oc_is_table, od_is_table, .func (PySem.W.fnOf "is_table" "is_table" (defArgs st_is_table) (defBody st_is_table) (defScope st_is_table) .none kV_is_table dc_is_table pm_is_table an_is_table cd_is_table ct_is_table), sl_is_table⟩)
    (c_is_table : PySem.W.codeIn K cd_is_table "is_table" = true)
    (k_is_table : PySem.W.keepIn K (.ref f_is_table) = true)
    (g_is_index : PySem.W.nsIn K mainGlobals "is_index" = some (some (.ref f_is_index)))
    (l_is_index : K.lookup f_is_index = some ⟨oc_is_index, od_is_index, .func (PySem.W.fnOf "is_index" "is_index" (defArgs st_is_index) (defBody st_is_index) (defScope st_is_index) .none kV_is_index dc_is_index pm_is_index an_is_index cd_is_index ct_is_index), sl_is_index⟩)
    (c_is_index : PySem.W.codeIn K cd_is_index "is_index" = true)
    (k_is_index : PySem.W.keepIn K (.ref f_is_index) = true)
    (g_Linedd_initdd : PySem.W.findIn K (.ref C1) "__init__" = some (some (.ref f_Linedd_initdd)))
    (i_Linedd_initdd : PySem.W.isFn K (.ref f_Linedd_initdd) = true)
    (l_Linedd_initdd : K.lookup f_Linedd_initdd = some ⟨oc_Linedd_initdd, od_Linedd_initdd, .func (PySem.W.fnOf "__init__" "Line.__init__" (defArgs st_Linedd_initdd) (defBody st_Linedd_initdd) (defScope st_Linedd_initdd) .none kV_Linedd_initdd dc_Linedd_initdd pm_Linedd_initdd an_Linedd_initdd cd_Linedd_initdd ct_Linedd_initdd), sl_Linedd_initdd⟩)
    (c_Linedd_initdd : PySem.W.codeIn K cd_Linedd_initdd "Line.__init__" = true)
    (k_Linedd_initdd : PySem.W.keepIn K (.ref f_Linedd_initdd) = true)
    (g_Linedd_eqdd : PySem.W.findIn K (.ref C1) "__eq__" = some (some (.ref f_Linedd_eqdd)))
    (i_Linedd_eqdd : PySem.W.isFn K (.ref f_Linedd_eqdd) = true)
    (l_Linedd_eqdd : K.lookup f_Linedd_eqdd = some ⟨oc_Linedd_eqdd, od_Linedd_eqdd, .func (PySem.W.fnOf "__eq__" "Line.__eq__" (defArgs st_Linedd_eqdd) (defBody st_Linedd_eqdd) (defScope st_Linedd_eqdd) .none kV_Linedd_eqdd dc_Linedd_eqdd pm_Linedd_eqdd an_Linedd_eqdd cd_Linedd_eqdd ct_Linedd_eqdd), sl_Linedd_eqdd⟩)
    (c_Linedd_eqdd : PySem.W.codeIn K cd_Linedd_eqdd "Line.__eq__" = true)
    (k_Linedd_eqdd : PySem.W.keepIn K (.ref f_Linedd_eqdd) = true)
    (g_Line_jobs : PySem.W.findIn K (.ref C1) "jobs" = some (some (.ref f_Line_jobs)))
    (i_Line_jobs : PySem.W.isFn K (.ref f_Line_jobs) = true)
    (l_Line_jobs : K.lookup f_Line_jobs = some ⟨oc_Line_jobs, od_Line_jobs, .func (PySem.W.fnOf "jobs" "Line.jobs" (defArgs st_Line_jobs) (defBody st_Line_jobs) (defScope st_Line_jobs) .none kV_Line_jobs dc_Line_jobs pm_Line_jobs an_Line_jobs cd_Line_jobs ct_Line_jobs), sl_Line_jobs⟩)
    (c_Line_jobs : PySem.W.codeIn K cd_Line_jobs "Line.jobs" = true)
    (k_Line_jobs : PySem.W.keepIn K (.ref f_Line_jobs) = true)
    (g_Line_rows : PySem.W.findIn K (.ref C1) "rows" = some (some (.ref f_Line_rows)))
    (i_Line_rows : PySem.W.isFn K (.ref f_Line_rows) = true)
    (l_Line_rows : K.lookup f_Line_rows = some ⟨oc_Line_rows, od_Line_rows, .func (PySem.W.fnOf "rows" "Line.rows" (defArgs st_Line_rows) (defBody st_Line_rows) (defScope st_Line_rows) .none kV_Line_rows dc_Line_rows pm_Line_rows an_Line_rows cd_Line_rows ct_Line_rows), sl_Line_rows⟩)
    (c_Line_rows : PySem.W.codeIn K cd_Line_rows "Line.rows" = true)
    (k_Line_rows : PySem.W.keepIn K (.ref f_Line_rows) = true)
    (g_check_job : PySem.W.nsIn K mainGlobals "check_job" = some (some (.ref f_check_job)))
    (l_check_job : K.lookup f_check_job = some ⟨oc_check_job, od_check_job, .func (PySem.W.fnOf "check_job" "check_job" (defArgs st_check_job) (defBody st_check_job) (defScope st_check_job) .none kV_check_job dc_check_job pm_check_job an_check_job cd_check_job ct_check_job), sl_check_job⟩)
    (c_check_job : PySem.W.codeIn K cd_check_job "check_job" = true)
    (k_check_job : PySem.W.keepIn K (.ref f_check_job) = true)
    (g_check_stretch : PySem.W.nsIn K mainGlobals "check_stretch" = some (some (.ref f_check_stretch)))
    (l_check_stretch : K.lookup f_check_stretch = some ⟨oc_check_stretch, od_check_stretch, .func (PySem.W.fnOf "check_stretch" "check_stretch" (defArgs st_check_stretch) (defBody st_check_stretch) (defScope st_check_stretch) .none kV_check_stretch dc_check_stretch pm_check_stretch an_check_stretch cd_check_stretch ct_check_stretch), sl_check_stretch⟩)
    (c_check_stretch : PySem.W.codeIn K cd_check_stretch "check_stretch" = true)
    (k_check_stretch : PySem.W.keepIn K (.ref f_check_stretch) = true)
    (g_Line_part : PySem.W.findIn K (.ref C1) "part" = some (some (.ref f_Line_part)))
    (i_Line_part : PySem.W.isFn K (.ref f_Line_part) = true)
    (l_Line_part : K.lookup f_Line_part = some ⟨oc_Line_part, od_Line_part, .func (PySem.W.fnOf "part" "Line.part" (defArgs st_Line_part) (defBody st_Line_part) (defScope st_Line_part) .none kV_Line_part dc_Line_part pm_Line_part an_Line_part cd_Line_part ct_Line_part), sl_Line_part⟩)
    (c_Line_part : PySem.W.codeIn K cd_Line_part "Line.part" = true)
    (k_Line_part : PySem.W.keepIn K (.ref f_Line_part) = true)
    (g_Line_backwards : PySem.W.findIn K (.ref C1) "backwards" = some (some (.ref f_Line_backwards)))
    (i_Line_backwards : PySem.W.isFn K (.ref f_Line_backwards) = true)
    (l_Line_backwards : K.lookup f_Line_backwards = some ⟨oc_Line_backwards, od_Line_backwards, .func (PySem.W.fnOf "backwards" "Line.backwards" (defArgs st_Line_backwards) (defBody st_Line_backwards) (defScope st_Line_backwards) .none kV_Line_backwards dc_Line_backwards pm_Line_backwards an_Line_backwards cd_Line_backwards ct_Line_backwards), sl_Line_backwards⟩)
    (c_Line_backwards : PySem.W.codeIn K cd_Line_backwards "Line.backwards" = true)
    (k_Line_backwards : PySem.W.keepIn K (.ref f_Line_backwards) = true)
    (g__law_tape : PySem.W.nsIn K mainGlobals "_law_tape" = some (some (.ref f__law_tape)))
    (l__law_tape : K.lookup f__law_tape = some ⟨oc__law_tape, od__law_tape, .func (PySem.W.fnOf "_law_tape" "_law_tape" (defArgs st__law_tape) (defBody st__law_tape) (defScope st__law_tape) .none kV__law_tape dc__law_tape pm__law_tape an__law_tape cd__law_tape ct__law_tape), sl__law_tape⟩)
    (c__law_tape : PySem.W.codeIn K cd__law_tape "_law_tape" = true)
    (k__law_tape : PySem.W.keepIn K (.ref f__law_tape) = true)
    (g__law_pick : PySem.W.nsIn K mainGlobals "_law_pick" = some (some (.ref f__law_pick)))
    (l__law_pick : K.lookup f__law_pick = some ⟨oc__law_pick, od__law_pick, .func (PySem.W.fnOf "_law_pick" "_law_pick" (defArgs st__law_pick) (defBody st__law_pick) (defScope st__law_pick) .none kV__law_pick dc__law_pick pm__law_pick an__law_pick cd__law_pick ct__law_pick), sl__law_pick⟩)
    (c__law_pick : PySem.W.codeIn K cd__law_pick "_law_pick" = true)
    (k__law_pick : PySem.W.keepIn K (.ref f__law_pick) = true)
    (g__law_size : PySem.W.nsIn K mainGlobals "_law_size" = some (some (.ref f__law_size)))
    (l__law_size : K.lookup f__law_size = some ⟨oc__law_size, od__law_size, .func (PySem.W.fnOf "_law_size" "_law_size" (defArgs st__law_size) (defBody st__law_size) (defScope st__law_size) .none kV__law_size dc__law_size pm__law_size an__law_size cd__law_size ct__law_size), sl__law_size⟩)
    (c__law_size : PySem.W.codeIn K cd__law_size "_law_size" = true)
    (k__law_size : PySem.W.keepIn K (.ref f__law_size) = true)
    (g__law_stretch : PySem.W.nsIn K mainGlobals "_law_stretch" = some (some (.ref f__law_stretch)))
    (l__law_stretch : K.lookup f__law_stretch = some ⟨oc__law_stretch, od__law_stretch, .func (PySem.W.fnOf "_law_stretch" "_law_stretch" (defArgs st__law_stretch) (defBody st__law_stretch) (defScope st__law_stretch) .none kV__law_stretch dc__law_stretch pm__law_stretch an__law_stretch cd__law_stretch ct__law_stretch), sl__law_stretch⟩)
    (c__law_stretch : PySem.W.codeIn K cd__law_stretch "_law_stretch" = true)
    (k__law_stretch : PySem.W.keepIn K (.ref f__law_stretch) = true)
    (g__law_grid : PySem.W.nsIn K mainGlobals "_law_grid" = some (some (.ref f__law_grid)))
    (l__law_grid : K.lookup f__law_grid = some ⟨oc__law_grid, od__law_grid, .func (PySem.W.fnOf "_law_grid" "_law_grid" (defArgs st__law_grid) (defBody st__law_grid) (defScope st__law_grid) .none kV__law_grid dc__law_grid pm__law_grid an__law_grid cd__law_grid ct__law_grid), sl__law_grid⟩)
    (c__law_grid : PySem.W.codeIn K cd__law_grid "_law_grid" = true)
    (k__law_grid : PySem.W.keepIn K (.ref f__law_grid) = true)
    (g__law_made : PySem.W.nsIn K mainGlobals "_law_made" = some (some (.ref f__law_made)))
    (l__law_made : K.lookup f__law_made = some ⟨oc__law_made, od__law_made, .func (PySem.W.fnOf "_law_made" "_law_made" (defArgs st__law_made) (defBody st__law_made) (defScope st__law_made) .none kV__law_made dc__law_made pm__law_made an__law_made cd__law_made ct__law_made), sl__law_made⟩)
    (c__law_made : PySem.W.codeIn K cd__law_made "_law_made" = true)
    (k__law_made : PySem.W.keepIn K (.ref f__law_made) = true)
    (g__law_shown : PySem.W.nsIn K mainGlobals "_law_shown" = some (some (.ref f__law_shown)))
    (l__law_shown : K.lookup f__law_shown = some ⟨oc__law_shown, od__law_shown, .func (PySem.W.fnOf "_law_shown" "_law_shown" (defArgs st__law_shown) (defBody st__law_shown) (defScope st__law_shown) .none kV__law_shown dc__law_shown pm__law_shown an__law_shown cd__law_shown ct__law_shown), sl__law_shown⟩)
    (c__law_shown : PySem.W.codeIn K cd__law_shown "_law_shown" = true)
    (k__law_shown : PySem.W.keepIn K (.ref f__law_shown) = true)
    (g__law_part : PySem.W.nsIn K mainGlobals "_law_part" = some (some (.ref f__law_part)))
    (l__law_part : K.lookup f__law_part = some ⟨oc__law_part, od__law_part, .func (PySem.W.fnOf "_law_part" "_law_part" (defArgs st__law_part) (defBody st__law_part) (defScope st__law_part) .none kV__law_part dc__law_part pm__law_part an__law_part cd__law_part ct__law_part), sl__law_part⟩)
    (c__law_part : PySem.W.codeIn K cd__law_part "_law_part" = true)
    (k__law_part : PySem.W.keepIn K (.ref f__law_part) = true)
    (g_law : PySem.W.nsIn K mainGlobals "law" = some (some (.ref f_law)))
    (l_law : K.lookup f_law = some ⟨oc_law, od_law, .func (PySem.W.fnOf "law" "law" (defArgs st_law) (defBody st_law) (defScope st_law) .none kV_law dc_law pm_law an_law cd_law ct_law), sl_law⟩)
    (c_law : PySem.W.codeIn K cd_law "law" = true)
    (k_law : PySem.W.keepIn K (.ref f_law) = true)
    (pgC0 : PySem.W.plainGet K C0 Str.empty = true)
    (hdC0 : PySem.W.hasDictIn K C0 = true)
    (poC0 : PySem.W.plainOver K C0 = true)
    (saC0 : PySem.W.findIn K (.ref C0) "__setattr__" = some (some (.builtin "object.__setattr__")))
    (noC0_top : PySem.W.findIn K (.ref C0) "_top" = some none)
    (noC0_bottom : PySem.W.findIn K (.ref C0) "_bottom" = some none)
    (caC0 : PySem.W.findIn K (.ref C0) "__class__" = some (some (.builtin "object.__class__")))
    (cmC0 : PySem.W.mroIn K C0 (.type "object") = some true)
    (mkC0 : PySem.W.makesIn K C0 = true)
    (kpC0 : PySem.W.keepIn K (.ref C0) = true)
    (neC0 : PySem.W.findIn K (.ref C0) "__ne__" = some (some (.builtin "object.__ne__")))
    (pgC1 : PySem.W.plainGet K C1 Str.empty = true)
    (hdC1 : PySem.W.hasDictIn K C1 = true)
    (poC1 : PySem.W.plainOver K C1 = true)
    (saC1 : PySem.W.findIn K (.ref C1) "__setattr__" = some (some (.builtin "object.__setattr__")))
    (noC1_rows : PySem.W.findIn K (.ref C1) "_rows" = some none)
    (caC1 : PySem.W.findIn K (.ref C1) "__class__" = some (some (.builtin "object.__class__")))
    (cmC1 : PySem.W.mroIn K C1 (.type "object") = some true)
    (mkC1 : PySem.W.makesIn K C1 = true)
    (kpC1 : PySem.W.keepIn K (.ref C1) = true)
    (neC1 : PySem.W.findIn K (.ref C1) "__ne__" = some (some (.builtin "object.__ne__")))
    (cn : PySem.W.specialIn K (.builtin "object.__class__") "__get__" = some (some (.builtin "getset_descriptor.__get__")))
    (ct : PySem.W.takesIn K (.builtin "object.__class__") = some true)
    (exC2 : PySem.W.subIn K (.ref C2) (.type "BaseException") = some true)
    (tyC2 : PySem.W.typeIn K (.ref C2) = some (.type "type"))
    (keC2 : PySem.W.keepIn K (.ref C2) = true)
    (xiC2 : PySem.W.excIn K C2 [.type "ValueError", .type "Exception", .type "BaseException", .type "object"] "ValueError.__new__" = true)
    (sxC4 : PySem.W.findIn K (.ref C4) "__setattr__" = some (some (.builtin "object.__setattr__")))
    (exC4 : PySem.W.subIn K (.ref C4) (.type "BaseException") = some true)
    (tyC4 : PySem.W.typeIn K (.ref C4) = some (.type "type"))
    (keC4 : PySem.W.keepIn K (.ref C4) = true)
    (xlC4 : K.lookup C4 = some (excClassObj nmC4 qnC4 C4 NC4 bsC4 bmC4 true snC4 sbC4 abC4 coC4 ddC4 x0C4 x1C4 x2C4 x3C4 x5C4 "ValueError.__new__"))
    (xbC4 : PySem.HandSPX.refsVE bmC4 = true)
    (giC4 : PySem.W.findIn K (.ref C4) "__init__" = some (some (.ref fiC4)))
    (tiC4 : PySem.W.typeIn K (.ref fiC4) = some (.type "function"))
    (nfC4 : PySem.W.findIn K (.ref C4) "given" = some none)
    (l_iniC4 : K.lookup fiC4 = some ⟨oc_iniC4, od_iniC4, .func (PySem.W.fnOf "__init__" "BadNumber.__init__" (defArgs st_BadNumber_init) (defBody st_BadNumber_init) (defScope st_BadNumber_init) .none kV_iniC4 dc_iniC4 pm_iniC4 an_iniC4 cd_iniC4 ct_iniC4), sl_iniC4⟩)
    (c_iniC4 : PySem.W.codeIn K cd_iniC4 "BadNumber.__init__" = true)
    (k_iniC4 : PySem.W.keepIn K (.ref fiC4) = true)
    (sxC5 : PySem.W.findIn K (.ref C5) "__setattr__" = some (some (.builtin "object.__setattr__")))
    (exC5 : PySem.W.subIn K (.ref C5) (.type "BaseException") = some true)
    (tyC5 : PySem.W.typeIn K (.ref C5) = some (.type "type"))
    (keC5 : PySem.W.keepIn K (.ref C5) = true)
    (xlC5 : K.lookup C5 = some (excClassObj nmC5 qnC5 C5 NC5 bsC5 bmC5 true snC5 sbC5 abC5 coC5 ddC5 x0C5 x1C5 x2C5 x3C5 x5C5 "ValueError.__new__"))
    (xbC5 : PySem.HandSPX.refsVE bmC5 = true)
    (giC5 : PySem.W.findIn K (.ref C5) "__init__" = some (some (.ref fiC5)))
    (tiC5 : PySem.W.typeIn K (.ref fiC5) = some (.type "function"))
    (nfC5 : PySem.W.findIn K (.ref C5) "given" = some none)
    (l_iniC5 : K.lookup fiC5 = some ⟨oc_iniC5, od_iniC5, .func (PySem.W.fnOf "__init__" "BadLine.__init__" (defArgs st_BadLine_init) (defBody st_BadLine_init) (defScope st_BadLine_init) .none kV_iniC5 dc_iniC5 pm_iniC5 an_iniC5 cd_iniC5 ct_iniC5), sl_iniC5⟩)
    (c_iniC5 : PySem.W.codeIn K cd_iniC5 "BadLine.__init__" = true)
    (k_iniC5 : PySem.W.keepIn K (.ref fiC5) = true)
    (sxC6 : PySem.W.findIn K (.ref C6) "__setattr__" = some (some (.builtin "object.__setattr__")))
    (exC6 : PySem.W.subIn K (.ref C6) (.type "BaseException") = some true)
    (tyC6 : PySem.W.typeIn K (.ref C6) = some (.type "type"))
    (keC6 : PySem.W.keepIn K (.ref C6) = true)
    (xlC6 : K.lookup C6 = some (excClassObj nmC6 qnC6 C6 NC6 bsC6 bmC6 true snC6 sbC6 abC6 coC6 ddC6 x0C6 x1C6 x2C6 x3C6 x5C6 "ValueError.__new__"))
    (xbC6 : PySem.HandSPX.refsVE bmC6 = true)
    (giC6 : PySem.W.findIn K (.ref C6) "__init__" = some (some (.ref fiC6)))
    (tiC6 : PySem.W.typeIn K (.ref fiC6) = some (.type "function"))
    (nfC6 : PySem.W.findIn K (.ref C6) "given" = some none)
    (l_iniC6 : K.lookup fiC6 = some ⟨oc_iniC6, od_iniC6, .func (PySem.W.fnOf "__init__" "BadServer.__init__" (defArgs st_BadServer_init) (defBody st_BadServer_init) (defScope st_BadServer_init) .none kV_iniC6 dc_iniC6 pm_iniC6 an_iniC6 cd_iniC6 ct_iniC6), sl_iniC6⟩)
    (c_iniC6 : PySem.W.codeIn K cd_iniC6 "BadServer.__init__" = true)
    (k_iniC6 : PySem.W.keepIn K (.ref fiC6) = true)
    (sxC7 : PySem.W.findIn K (.ref C7) "__setattr__" = some (some (.builtin "object.__setattr__")))
    (exC7 : PySem.W.subIn K (.ref C7) (.type "BaseException") = some true)
    (tyC7 : PySem.W.typeIn K (.ref C7) = some (.type "type"))
    (keC7 : PySem.W.keepIn K (.ref C7) = true)
    (xlC7 : K.lookup C7 = some (excClassObj nmC7 qnC7 C7 NC7 bsC7 bmC7 true snC7 sbC7 abC7 coC7 ddC7 x0C7 x1C7 x2C7 x3C7 x5C7 "ValueError.__new__"))
    (xbC7 : PySem.HandSPX.refsVE bmC7 = true)
    (giC7 : PySem.W.findIn K (.ref C7) "__init__" = some (some (.ref fiC7)))
    (tiC7 : PySem.W.typeIn K (.ref fiC7) = some (.type "function"))
    (nfC7 : PySem.W.findIn K (.ref C7) "given" = some none)
    (l_iniC7 : K.lookup fiC7 = some ⟨oc_iniC7, od_iniC7, .func (PySem.W.fnOf "__init__" "BadJob.__init__" (defArgs st_BadJob_init) (defBody st_BadJob_init) (defScope st_BadJob_init) .none kV_iniC7 dc_iniC7 pm_iniC7 an_iniC7 cd_iniC7 ct_iniC7), sl_iniC7⟩)
    (c_iniC7 : PySem.W.codeIn K cd_iniC7 "BadJob.__init__" = true)
    (k_iniC7 : PySem.W.keepIn K (.ref fiC7) = true)
    (gaC7 : PySem.W.findIn K (.ref C7) "__getattribute__" = some (some (.builtin "BaseException.__getattribute__")))
    (ggC7 : PySem.W.findIn K (.ref C7) "__getattr__" = some none)
    (hxC7 : PySem.W.hasDictIn K C7 = true)
    (xoC7 : PySem.W.exmOne K (.ref C7) (.ref C7) = some true)
    (z_range : PySem.W.nsIn K mainGlobals "range" = some none)
    (z_isinstance : PySem.W.nsIn K mainGlobals "isinstance" = some none)
    (z_len : PySem.W.nsIn K mainGlobals "len" = some none)
    (z_all : PySem.W.nsIn K mainGlobals "all" = some none)
    (z_list : PySem.W.nsIn K mainGlobals "list" = some none)
    (z_tuple : PySem.W.nsIn K mainGlobals "tuple" = some none)
    (z_int : PySem.W.nsIn K mainGlobals "int" = some none)
    (z_bool : PySem.W.nsIn K mainGlobals "bool" = some none)
    (z_abs : PySem.W.nsIn K mainGlobals "abs" = some none)
    (z_max : PySem.W.nsIn K mainGlobals "max" = some none)
    (z_min : PySem.W.nsIn K mainGlobals "min" = some none)
    (z_dict : PySem.W.nsIn K mainGlobals "dict" = some none)
    (z_repr : PySem.W.nsIn K mainGlobals "repr" = some none)
    (z_gcd : PySem.W.nsIn K mainGlobals "gcd" = some (some (.builtin "math.gcd")))
    (z_MOST_SERVERS : PySem.W.nsIn K mainGlobals "MOST_SERVERS" = some (some (.int 4 t_MOST_SERVERS)))
    (z_MOST_JOBS : PySem.W.nsIn K mainGlobals "MOST_JOBS" = some (some (.int 6 t_MOST_JOBS)))
    (kit_int_NoneType : PySem.W.kitOne K (.type "NoneType") (.type "int") = some false)
    (kit_int_bool : PySem.W.kitOne K (.type "bool") (.type "int") = some true)
    (kit_int_int : PySem.W.kitOne K (.type "int") (.type "int") = some true)
    (kit_int_str : PySem.W.kitOne K (.type "str") (.type "int") = some false)
    (kit_int_list : PySem.W.kitOne K (.type "list") (.type "int") = some false)
    (kit_int_tuple : PySem.W.kitOne K (.type "tuple") (.type "int") = some false)
    (kit_int_dict : PySem.W.kitOne K (.type "dict") (.type "int") = some false)
    (kit_int_C0 : PySem.W.kitOne K (.ref C0) (.type "int") = some false)
    (kit_int_C1 : PySem.W.kitOne K (.ref C1) (.type "int") = some false)
    (kit_bool_NoneType : PySem.W.kitOne K (.type "NoneType") (.type "bool") = some false)
    (kit_bool_bool : PySem.W.kitOne K (.type "bool") (.type "bool") = some true)
    (kit_bool_int : PySem.W.kitOne K (.type "int") (.type "bool") = some false)
    (kit_bool_str : PySem.W.kitOne K (.type "str") (.type "bool") = some false)
    (kit_bool_list : PySem.W.kitOne K (.type "list") (.type "bool") = some false)
    (kit_bool_tuple : PySem.W.kitOne K (.type "tuple") (.type "bool") = some false)
    (kit_bool_dict : PySem.W.kitOne K (.type "dict") (.type "bool") = some false)
    (kit_bool_C0 : PySem.W.kitOne K (.ref C0) (.type "bool") = some false)
    (kit_bool_C1 : PySem.W.kitOne K (.ref C1) (.type "bool") = some false)
    (kit_list_NoneType : PySem.W.kitOne K (.type "NoneType") (.type "list") = some false)
    (kit_list_bool : PySem.W.kitOne K (.type "bool") (.type "list") = some false)
    (kit_list_int : PySem.W.kitOne K (.type "int") (.type "list") = some false)
    (kit_list_str : PySem.W.kitOne K (.type "str") (.type "list") = some false)
    (kit_list_list : PySem.W.kitOne K (.type "list") (.type "list") = some true)
    (kit_list_tuple : PySem.W.kitOne K (.type "tuple") (.type "list") = some false)
    (kit_list_dict : PySem.W.kitOne K (.type "dict") (.type "list") = some false)
    (kit_list_C0 : PySem.W.kitOne K (.ref C0) (.type "list") = some false)
    (kit_list_C1 : PySem.W.kitOne K (.ref C1) (.type "list") = some false)
    (kit_tuple_NoneType : PySem.W.kitOne K (.type "NoneType") (.type "tuple") = some false)
    (kit_tuple_bool : PySem.W.kitOne K (.type "bool") (.type "tuple") = some false)
    (kit_tuple_int : PySem.W.kitOne K (.type "int") (.type "tuple") = some false)
    (kit_tuple_str : PySem.W.kitOne K (.type "str") (.type "tuple") = some false)
    (kit_tuple_list : PySem.W.kitOne K (.type "list") (.type "tuple") = some false)
    (kit_tuple_tuple : PySem.W.kitOne K (.type "tuple") (.type "tuple") = some true)
    (kit_tuple_dict : PySem.W.kitOne K (.type "dict") (.type "tuple") = some false)
    (kit_tuple_C0 : PySem.W.kitOne K (.ref C0) (.type "tuple") = some false)
    (kit_tuple_C1 : PySem.W.kitOne K (.ref C1) (.type "tuple") = some false)
    (kit_dict_NoneType : PySem.W.kitOne K (.type "NoneType") (.type "dict") = some false)
    (kit_dict_bool : PySem.W.kitOne K (.type "bool") (.type "dict") = some false)
    (kit_dict_int : PySem.W.kitOne K (.type "int") (.type "dict") = some false)
    (kit_dict_str : PySem.W.kitOne K (.type "str") (.type "dict") = some false)
    (kit_dict_list : PySem.W.kitOne K (.type "list") (.type "dict") = some false)
    (kit_dict_tuple : PySem.W.kitOne K (.type "tuple") (.type "dict") = some false)
    (kit_dict_dict : PySem.W.kitOne K (.type "dict") (.type "dict") = some true)
    (kit_dict_C0 : PySem.W.kitOne K (.ref C0) (.type "dict") = some false)
    (kit_dict_C1 : PySem.W.kitOne K (.ref C1) (.type "dict") = some false)
    (kit_Ratio_NoneType : PySem.W.kitOne K (.type "NoneType") (.ref C0) = some false)
    (kit_Ratio_bool : PySem.W.kitOne K (.type "bool") (.ref C0) = some false)
    (kit_Ratio_int : PySem.W.kitOne K (.type "int") (.ref C0) = some false)
    (kit_Ratio_str : PySem.W.kitOne K (.type "str") (.ref C0) = some false)
    (kit_Ratio_list : PySem.W.kitOne K (.type "list") (.ref C0) = some false)
    (kit_Ratio_tuple : PySem.W.kitOne K (.type "tuple") (.ref C0) = some false)
    (kit_Ratio_dict : PySem.W.kitOne K (.type "dict") (.ref C0) = some false)
    (kit_Ratio_C0 : PySem.W.kitOne K (.ref C0) (.ref C0) = some true)
    (kit_Ratio_C1 : PySem.W.kitOne K (.ref C1) (.ref C0) = some false)
    (kit_Line_NoneType : PySem.W.kitOne K (.type "NoneType") (.ref C1) = some false)
    (kit_Line_bool : PySem.W.kitOne K (.type "bool") (.ref C1) = some false)
    (kit_Line_int : PySem.W.kitOne K (.type "int") (.ref C1) = some false)
    (kit_Line_str : PySem.W.kitOne K (.type "str") (.ref C1) = some false)
    (kit_Line_list : PySem.W.kitOne K (.type "list") (.ref C1) = some false)
    (kit_Line_tuple : PySem.W.kitOne K (.type "tuple") (.ref C1) = some false)
    (kit_Line_dict : PySem.W.kitOne K (.type "dict") (.ref C1) = some false)
    (kit_Line_C0 : PySem.W.kitOne K (.ref C0) (.ref C1) = some false)
    (kit_Line_C1 : PySem.W.kitOne K (.ref C1) (.ref C1) = some true)
    (f_C0_C0 : PySem.W.notFirst K C0 (.ref C0) = true)
    (f_C0_int : PySem.W.notFirst K C0 (.type "int") = true)
    (f_C0_C1 : PySem.W.notFirst K C0 (.ref C1) = true)
    (f_C1_C1 : PySem.W.notFirst K C1 (.ref C1) = true)
    (f_C0_NoneType : PySem.W.notFirst K C0 (.type "NoneType") = true)
    (f_C0_bool : PySem.W.notFirst K C0 (.type "bool") = true)
    (f_C0_str : PySem.W.notFirst K C0 (.type "str") = true)
    (f_C0_list : PySem.W.notFirst K C0 (.type "list") = true)
    (f_C0_tuple : PySem.W.notFirst K C0 (.type "tuple") = true)
    (sfC0 : PySem.W.selfFirst K C0 = true)
    (neq_0_1 : C0 ≠ C1) :
    ∃ fd : FuncData, (∀ (s : Shared) (u : Value), BindsTo s fd ⟨[u], []⟩ [("_law_script", u)]) ∧ ∀ base : Heap, K.In base → base.Ns mainGlobals mg → FnOk P w K mg base (L2N.CX P w) 12 fa fd ["_law_script"] (spLaw K) := by
  obtain ⟨T, F, ha, hd⟩ := fx_mk X0 G0 gC0 gC1 gC2 gC4 gC5 gC6 gC7 g_is_int l_is_int c_is_int k_is_int g_Ratiodd_initdd i_Ratiodd_initdd l_Ratiodd_initdd c_Ratiodd_initdd k_Ratiodd_initdd z_Ratiodd_initdd g_is_number l_is_number c_is_number k_is_number g_as_ratio l_as_ratio c_as_ratio k_as_ratio g_Ratio_top pg_Ratio_top pt_Ratio_top pr_Ratio_top l_Ratio_top c_Ratio_top k_Ratio_top g_Ratio_bottom pg_Ratio_bottom pt_Ratio_bottom pr_Ratio_bottom l_Ratio_bottom c_Ratio_bottom k_Ratio_bottom g_Ratiodd_adddd i_Ratiodd_adddd l_Ratiodd_adddd c_Ratiodd_adddd k_Ratiodd_adddd g_Ratiodd_negdd i_Ratiodd_negdd l_Ratiodd_negdd c_Ratiodd_negdd k_Ratiodd_negdd g_Ratiodd_subdd i_Ratiodd_subdd l_Ratiodd_subdd c_Ratiodd_subdd k_Ratiodd_subdd g_Ratiodd_muldd i_Ratiodd_muldd l_Ratiodd_muldd c_Ratiodd_muldd k_Ratiodd_muldd g_Ratiodd_eqdd i_Ratiodd_eqdd l_Ratiodd_eqdd c_Ratiodd_eqdd k_Ratiodd_eqdd g_Ratiodd_ltdd i_Ratiodd_ltdd l_Ratiodd_ltdd c_Ratiodd_ltdd k_Ratiodd_ltdd g_Ratiodd_ledd i_Ratiodd_ledd l_Ratiodd_ledd c_Ratiodd_ledd k_Ratiodd_ledd g_is_list l_is_list c_is_list k_is_list g_is_time l_is_time c_is_time k_is_time g_is_row l_is_row c_is_row k_is_row g_is_table l_is_table c_is_table k_is_table g_is_index l_is_index c_is_index k_is_index g_Linedd_initdd i_Linedd_initdd l_Linedd_initdd c_Linedd_initdd k_Linedd_initdd g_Linedd_eqdd i_Linedd_eqdd l_Linedd_eqdd c_Linedd_eqdd k_Linedd_eqdd g_Line_jobs i_Line_jobs l_Line_jobs c_Line_jobs k_Line_jobs g_Line_rows i_Line_rows l_Line_rows c_Line_rows k_Line_rows g_check_job l_check_job c_check_job k_check_job g_check_stretch l_check_stretch c_check_stretch k_check_stretch g_Line_part i_Line_part l_Line_part c_Line_part k_Line_part g_Line_backwards i_Line_backwards l_Line_backwards c_Line_backwards k_Line_backwards g__law_tape l__law_tape c__law_tape k__law_tape g__law_pick l__law_pick c__law_pick k__law_pick g__law_size l__law_size c__law_size k__law_size g__law_stretch l__law_stretch c__law_stretch k__law_stretch g__law_grid l__law_grid c__law_grid k__law_grid g__law_made l__law_made c__law_made k__law_made g__law_shown l__law_shown c__law_shown k__law_shown g__law_part l__law_part c__law_part k__law_part g_law l_law c_law k_law pgC0 hdC0 poC0 saC0 noC0_top noC0_bottom caC0 cmC0 mkC0 kpC0 neC0 pgC1 hdC1 poC1 saC1 noC1_rows caC1 cmC1 mkC1 kpC1 neC1 cn ct exC2 tyC2 keC2 xiC2 sxC4 exC4 tyC4 keC4 xlC4 xbC4 giC4 tiC4 nfC4 l_iniC4 c_iniC4 k_iniC4 sxC5 exC5 tyC5 keC5 xlC5 xbC5 giC5 tiC5 nfC5 l_iniC5 c_iniC5 k_iniC5 sxC6 exC6 tyC6 keC6 xlC6 xbC6 giC6 tiC6 nfC6 l_iniC6 c_iniC6 k_iniC6 sxC7 exC7 tyC7 keC7 xlC7 xbC7 giC7 tiC7 nfC7 l_iniC7 c_iniC7 k_iniC7 gaC7 ggC7 hxC7 xoC7 z_range z_isinstance z_len z_all z_list z_tuple z_int z_bool z_abs z_max z_min z_dict z_repr z_gcd z_MOST_SERVERS z_MOST_JOBS kit_int_NoneType kit_int_bool kit_int_int kit_int_str kit_int_list kit_int_tuple kit_int_dict kit_int_C0 kit_int_C1 kit_bool_NoneType kit_bool_bool kit_bool_int kit_bool_str kit_bool_list kit_bool_tuple kit_bool_dict kit_bool_C0 kit_bool_C1 kit_list_NoneType kit_list_bool kit_list_int kit_list_str kit_list_list kit_list_tuple kit_list_dict kit_list_C0 kit_list_C1 kit_tuple_NoneType kit_tuple_bool kit_tuple_int kit_tuple_str kit_tuple_list kit_tuple_tuple kit_tuple_dict kit_tuple_C0 kit_tuple_C1 kit_dict_NoneType kit_dict_bool kit_dict_int kit_dict_str kit_dict_list kit_dict_tuple kit_dict_dict kit_dict_C0 kit_dict_C1 kit_Ratio_NoneType kit_Ratio_bool kit_Ratio_int kit_Ratio_str kit_Ratio_list kit_Ratio_tuple kit_Ratio_dict kit_Ratio_C0 kit_Ratio_C1 kit_Line_NoneType kit_Line_bool kit_Line_int kit_Line_str kit_Line_list kit_Line_tuple kit_Line_dict kit_Line_C0 kit_Line_C1 f_C0_C0 f_C0_int f_C0_C1 f_C1_C1 f_C0_NoneType f_C0_bool f_C0_str f_C0_list f_C0_tuple sfC0 neq_0_1
  have e := hfa.symm.trans (PySem.W.mg_of X0 G0 g_law)
  cases e
  refine ⟨PySem.W.fnOf "law" "law" (defArgs st_law) (defBody st_law) (defScope st_law) .none kV_law dc_law pm_law an_law cd_law ct_law, fun s u => .of_eq rfl, fun base _ _ => ?_⟩
  have o := ok_law (P := P) (w := w) (base := base) F
  rw [ha, hd] at o
  exact o.imp fun vs H Q E z => z T F.hK
end P04

set_option Elab.async false
set_option linter.all false
set_option maxRecDepth 100000
set_option maxHeartbeats 1000000
namespace P04
open PySem PySem.Spec PyProof.Rows L2 TL
abbrev rat (t b : Int) : D := .obj 0 [.int t, .int b]
theorem is_int_int (i : Int) : G_is_int [some (.int i)] = .ok [some (.int i)] (.bl true) := rfl
theorem is_int_rat (t b : Int) : G_is_int [some (rat t b)] = .ok [some (rat t b)] (.bl false) := rfl
theorem is_number_rat (t b : Int) : G_is_number [some (rat t b)] = .ok [some (rat t b)] (.bl true) := rfl
theorem is_number_int (t : Int) : G_is_number [some (.int t)] = .ok [some (.int t)] (.bl true) := rfl
theorem as_ratio_rat (t b : Int) : G_as_ratio [some (rat t b)] = .ok [some (rat t b)] (rat t b) := rfl
theorem small_fdiv {a b : Int} (h : 0 < b) (hs : b.natAbs.log2 < 9000) : hFdiv_i (.int a) (.int b) = some (.int (a / b)) := by
  simp [hFdiv_i, iC, h, hs]
theorem log2_lt {n k : Nat} (h : n < 2 ^ k) (hk : 0 < k) : n.log2 < k := by
  by_cases hn : n = 0
  · subst hn; simpa using hk
  · exact (Nat.log2_lt hn).mpr h
theorem log2_le {n k : Nat} (h : n < 2 ^ k) : n.log2 ≤ k := by
  rcases Nat.eq_zero_or_pos k with z | z
  · subst z
    have : n = 0 := by simpa using h
    subst this; simp
  · exact Nat.le_of_lt (log2_lt h z)
theorem mul_ok {a b : Int} (ha : a.natAbs < 2 ^ 200) (hb : b.natAbs < 2 ^ 200) : hMul_i (.int a) (.int b) = some (.int (a * b)) := by
  have h1 := log2_le ha
  have h2 := log2_le hb
  have : a.natAbs.log2 + b.natAbs.log2 < 1000000 := by omega
  simp [hMul_i, iC, this]
theorem fdiv_ok {a b : Int} (h : 0 < b) (hs : b.natAbs < 2 ^ 200) : hFdiv_i (.int a) (.int b) = some (.int (a / b)) := by
  have h1 := log2_le hs
  exact small_fdiv h (by omega)
theorem mod_ok {a b : Int} (h : 0 < b) : hMod_i (.int a) (.int b) = some (.int (a % b)) := by simp [hMod_i, iC, h]
theorem eq_ok {a b : Int} : hEq_i (.int a) (.int b) = some (.bl (a == b)) := hEq_int a b
theorem lt_ok {a b : Int} : hLt_i (.int a) (.int b) = some (.bl (decide (a < b))) := rfl
theorem le_ok {a b : Int} : hLe_i (.int a) (.int b) = some (.bl (decide (a ≤ b))) := rfl
theorem ge_ok {a b : Int} : hGe_i (.int a) (.int b) = some (.bl (decide (b ≤ a))) := rfl
theorem gt_ok {a b : Int} : hGt_i (.int a) (.int b) = some (.bl (decide (b < a))) := rfl
theorem add_ok {a b : Int} : hAdd_i (.int a) (.int b) = some (.int (a + b)) := rfl
theorem sub_ok {a b : Int} : hSub_i (.int a) (.int b) = some (.int (a - b)) := rfl
theorem pow18 : hPow_i (.int 10) (.int 18) = some (.int 1000000000000000000) := rfl
theorem pow9 : hPow_i (.int 10) (.int 9) = some (.int 1000000000) := rfl
theorem ratio_init (t b : Int) (hb : 0 < b) (hs : b.natAbs < 2 ^ 200) : G_Ratiodd_initdd [some (.part 0 []), some (.int t), some (.int b)] =
    .ok [some (.part 0 [.int (t / (Nat.gcd t.natAbs b.natAbs : Nat)), .int (b / (Nat.gcd t.natAbs b.natAbs : Nat))]), some (.int t), some (.int b)] .non := by
  have hg : 0 < Nat.gcd t.natAbs b.natAbs := Nat.gcd_pos_of_pos_right _ (by omega)
  have hg2 : Nat.gcd t.natAbs b.natAbs ≤ b.natAbs := Nat.le_of_dvd (by omega) (Nat.gcd_dvd_right _ _)
  have hb0 : (b == 0) = false := by simp; omega
  have hb1 : ¬ b < 0 := by omega
  have f1 : hFdiv_i (.int t) (.int (Nat.gcd t.natAbs b.natAbs : Nat)) = some (.int (t / (Nat.gcd t.natAbs b.natAbs : Nat))) := fdiv_ok (by omega) (by
    have : ((Nat.gcd t.natAbs b.natAbs : Nat) : Int).natAbs = Nat.gcd t.natAbs b.natAbs := by simp
    rw [this]
    exact Nat.lt_of_le_of_lt hg2 hs)
  have f2 : hFdiv_i (.int b) (.int (Nat.gcd t.natAbs b.natAbs : Nat)) = some (.int (b / (Nat.gcd t.natAbs b.natAbs : Nat))) := fdiv_ok (by omega) (by
    have : ((Nat.gcd t.natAbs b.natAbs : Nat) : Int).natAbs = Nat.gcd t.natAbs b.natAbs := by simp
    rw [this]
    exact Nat.lt_of_le_of_lt hg2 hs)
  generalize hgg : (Nat.gcd t.natAbs b.natAbs : Nat) = g at *
  have f0 : dGcd [.int t, .int b] = some (.int g) := by rw [← hgg]; rfl
  simp [G_Ratiodd_initdd, g_Ratiodd_initdd, gSeq, gIf, gTest, g1, g2, gVar, gC, gRet, gNext, gSet, gF, gFP, TL.gCons, TL.gNil, gNot, gAnd, gOr, gAndV, gOrV, gNotV, gIsi, gCall, gMeth, gFld, gExp, gChain, gIfE, TL.gTup, TL.gLst, gSo, gSl, gRevL, gSeqI, Res.ofO, ret0, back, bigN, isPlainD, gFun, eq_ok, lt_ok, hb0, hb1, gFldSet, f0, f1, f2]
/-- a quotient in lowest terms -/
abbrev nrm (t b : Int) : D := rat (t / (Nat.gcd t.natAbs b.natAbs : Nat)) (b / (Nat.gcd t.natAbs b.natAbs : Nat))
theorem make1 {gs : GA} {env : TL.Env} {t : Int} (h : gs env = .ok env [.int t]) : gMake 0 2 G_Ratiodd_initdd [.int 1] gs env = .ok env (rat t 1) := by
  have e := ratio_init t 1 (by decide) (by decide)
  simp only [show Nat.gcd t.natAbs (1 : Int).natAbs = 1 from Nat.gcd_one_right _] at e
  unfold gMake
  rw [h]
  simp only [Res.bind_ok, List.cons_append, List.nil_append, List.map_cons, List.map_nil, e, retM]
  simp
theorem make2 {gs : GA} {env : TL.Env} {t b : Int} (hb : 0 < b) (hs : b.natAbs < 2 ^ 200) (h : gs env = .ok env [.int t, .int b]) : gMake 0 2 G_Ratiodd_initdd [] gs env = .ok env (nrm t b) := by
  have e := ratio_init t b hb hs
  unfold gMake
  rw [h]
  simp only [Res.bind_ok, List.cons_append, List.nil_append, List.map_cons, List.map_nil, e, retM]
  simp
theorem as_ratio_int (i : Int) : G_as_ratio [some (.int i)] = .ok [some (.int i)] (rat i 1) := by
  simp only [G_as_ratio, g_as_ratio, gFun, gSeq, gIf]
  simp [gSeq, gIf, gTest, g1, g2, gVar, gC, gRet, gNext, gSet, gF, gFP, TL.gCons, TL.gNil, gNot, gAnd, gOr, gAndV, gOrV, gNotV, gIsi, gCall, gMeth, gFld, gExp, gChain, gIfE, TL.gTup, TL.gLst, gSo, gSl, gRevL, gSeqI, Res.ofO, ret0, back, bigN, isPlainD, gFun, hI_Ratio, is_int_int, make1]
theorem make1' {env : TL.Env} {g : G} {t : Int} (h : g env = .ok env (.int t)) : gMake 0 2 G_Ratiodd_initdd [.int 1] (TL.gCons g TL.gNil) env = .ok env (rat t 1) := make1 (by simp [TL.gCons, TL.gNil, h])
theorem as_ratio_int' (i : Int) : G_as_ratio [some (.int i)] = .ok [some (.int i)] (rat i 1) := by
  simp [G_as_ratio, g_as_ratio, gSeq, gIf, gTest, g1, g2, gVar, gC, gRet, gNext, gSet, gF, gFP, TL.gCons, TL.gNil, gNot, gAnd, gOr, gAndV, gOrV, gNotV, gIsi, gCall, gMeth, gFld, gExp, gChain, gIfE, TL.gTup, TL.gLst, gSo, gSl, gRevL, gSeqI, Res.ofO, ret0, back, bigN, isPlainD, gFun, hI_Ratio, is_int_int, make1', gRaise1]
/-- 0 <= a number -/
theorem le_rat (t b : Int) (ht : 0 ≤ t) (hb : b.natAbs < 2 ^ 200) (hs : t.natAbs < 2 ^ 200) : hLe_o (rat 0 1) (rat t b) = some (.bl true) := by
  have e : G_Ratiodd_ledd [some (rat 0 1), some (rat t b)] = .ok [some (rat 0 1), some (rat t b)] (.bl true) := by
    simp [G_Ratiodd_ledd, g_Ratiodd_ledd, gSeq, gIf, gTest, g1, g2, gVar, gC, gRet, gNext, gSet, gF, gFP, TL.gCons, TL.gNil, gNot, gAnd, gOr, gAndV, gOrV, gNotV, gIsi, gCall, gMeth, gFld, gExp, gChain, gIfE, TL.gTup, TL.gLst, gSo, gSl, gRevL, gSeqI, Res.ofO, ret0, back, bigN, isPlainD, gFun, as_ratio_rat, mul_ok, le_ok, hb, hs, ht]
  unfold hLe_o alt dOwn
  simp [e, ans]

/-! ### comprehensions whose elements leave the slots as they are -/
theorem set_none_getD {env : TL.Env} {i : Nat} : (env.set i none).set i (env.getD i none) = env := by
  rw [List.set_set]
  apply List.ext_getElem?
  intro j
  rw [List.getElem?_set]
  split
  · rename_i e
    subst e
    split
    · rename_i h
      simp [List.getD, List.getElem?_eq_getElem h]
    · rename_i h
      simp at h
      simp [h]
  · rfl
theorem lcG_map {i : Nat} {ge : G} {f : D → D} {env : TL.Env} : ∀ (ds acc : List D), (∀ d ∈ ds, ge (env.set i (some d)) = .ok (env.set i (some d)) (f d)) → acc.length + ds.length ≤ bigN →
    lcG [i] (.nm i) gYes ge ds (env.set i none) acc = .ok (env.set i none) (acc ++ ds.map f)
  | [], acc, _, _ => by simp [lcG]
  | d :: ds, acc, h, hl => by
    have hd := h d List.mem_cons_self
    have h1 : acc.length < bigN := by simp at hl; omega
    have ih := lcG_map ds (acc ++ [f d]) (fun x hx => h x (List.mem_cons_of_mem _ hx)) (by simp at hl ⊢; omega)
    unfold lcG
    simp only [Tg.put, List.set_set, gYes, hd, if_pos h1, wipeE, ih, List.append_assoc, List.map_cons, List.singleton_append]
theorem gLc_map {i : Nat} {gi : GI} {ge : G} {env : TL.Env} {ds : List D} (f : D → D) (hi : gi env = .ok env ds) (h : ∀ d ∈ ds, ge (env.set i (some d)) = .ok (env.set i (some d)) (f d)) (hl : ds.length ≤ bigN) :
    gLc [i] (.nm i) gi gYes ge env = .ok env (.lst (ds.map f)) := by
  unfold gLc
  rw [hi]
  simp only [Res.bind_ok, wipeE, lcG_map ds [] h (by simpa using hl), unw, set_none_getD, List.nil_append]
/-! ### what a tree is, and what it is worth -/
/-- a time as it may be handed in -/
inductive Num : D → Prop where
  | int (i : Int) (h0 : 0 ≤ i) (h1 : i < 2 ^ 100) : Num (.int i)
  | rat (t b : Int) (h0 : 0 ≤ t) (h1 : t < 2 ^ 100) (h2 : 0 < b) (h3 : b < 2 ^ 100) : Num (rat t b)
def asR : D → D
  | .int i => rat i 1
  | d => d
theorem Num.as {d : D} (h : Num d) : G_as_ratio [some d] = .ok [some d] (asR d) := by
  cases h with
  | int i => exact as_ratio_int i
  | rat t b => exact as_ratio_rat t b
theorem le_int (i : Int) (h : 0 ≤ i) (hs : i.natAbs < 2 ^ 200) : hLe_o (rat 0 1) (.int i) = some (.bl true) := by
  have e : G_Ratiodd_ledd [some (rat 0 1), some (.int i)] = .ok [some (rat 0 1), some (.int i)] (.bl true) := by
    simp [G_Ratiodd_ledd, g_Ratiodd_ledd, gSeq, gIf, gTest, g1, g2, gVar, gC, gRet, gNext, gSet, gF, gFP, TL.gCons, TL.gNil, gNot, gAnd, gOr, gAndV, gOrV, gNotV, gIsi, gCall, gMeth, gFld, gExp, gChain, gIfE, TL.gTup, TL.gLst, gSo, gSl, gRevL, gSeqI, Res.ofO, ret0, back, bigN, isPlainD, gFun, as_ratio_int, mul_ok, le_ok, hs, h]
  unfold hLe_o alt dOwn dOwnI
  simp [e, ans]
theorem Num.time {d : D} (h : Num d) : G_is_time [some d] = .ok [some d] (.bl true) := by
  cases h with
  | int i h0 h1 => simp [G_is_time, g_is_time, gSeq, gIf, gTest, g1, g2, gVar, gC, gRet, gNext, gSet, gF, gFP, TL.gCons, TL.gNil, gNot, gAnd, gOr, gAndV, gOrV, gNotV, gIsi, gCall, gMeth, gFld, gExp, gChain, gIfE, TL.gTup, TL.gLst, gSo, gSl, gRevL, gSeqI, Res.ofO, ret0, back, bigN, isPlainD, gFun, is_number_int, make1', le_int i h0 (by omega)]
  | rat t b h0 h1 h2 h3 => simp [G_is_time, g_is_time, gSeq, gIf, gTest, g1, g2, gVar, gC, gRet, gNext, gSet, gF, gFP, TL.gCons, TL.gNil, gNot, gAnd, gOr, gAndV, gOrV, gNotV, gIsi, gCall, gMeth, gFld, gExp, gChain, gIfE, TL.gTup, TL.gLst, gSo, gSl, gRevL, gSeqI, Res.ofO, ret0, back, bigN, isPlainD, gFun, is_number_rat, make1', le_rat t b h0 (by omega) (by omega)]
theorem blsOf_all {n : Nat} : ∀ {ds : List D}, (∀ d ∈ ds, d = .bl true) → dAll [.lst ds] = some (.bl true) := by
  intro ds h
  have : ∀ ds : List D, (∀ d ∈ ds, d = .bl true) → ∃ bs, blsOf ds = some bs ∧ bs.all _root_.id = true := by
    intro ds
    induction ds with
    | nil => intro _; exact ⟨[], rfl, rfl⟩
    | cons d t ih =>
      intro h
      obtain ⟨bs, e1, e2⟩ := ih fun x hx => h x (List.mem_cons_of_mem _ hx)
      have := h d List.mem_cons_self
      subst this
      exact ⟨true :: bs, by simp [blsOf, e1], by simpa using e2⟩
  obtain ⟨bs, e1, e2⟩ := this ds h
  simp [dAll, e1, e2]
/-- a list or a tuple of these -/
inductive Sq (xs : List D) : D → Prop where
  | lst : Sq xs (.lst xs)
  | tup : Sq xs (.tup xs)
theorem Sq.seqI {xs : List D} {d : D} (h : Sq xs d) {g : G} {env : TL.Env} (e : g env = .ok env d) : gSeqI g env = .ok env xs := by
  unfold gSeqI
  rw [e]
  cases h <;> rfl
theorem Sq.list {xs : List D} {d : D} (h : Sq xs d) : G_is_list [some d] = .ok [some d] (.bl true) := by cases h <;> rfl
theorem Sq.len {xs : List D} {d : D} (h : Sq xs d) : dLen [d] = some (.int xs.length) := by cases h <;> rfl
theorem is_row_ok {xs : List D} {d : D} (h : Sq xs d) (h1 : 1 ≤ xs.length) (h6 : xs.length ≤ 6) (hn : ∀ x ∈ xs, Num x) : G_is_row [some d] = .ok [some d] (.bl true) := by
  have lc : gLc [1] (.nm 1) (gSeqI (gVar 0)) gYes (gCall G_is_time [] (TL.gCons (gVar 1) TL.gNil)) [some d, none] = .ok [some d, none] (.lst (xs.map fun _ => .bl true)) :=
    gLc_map (fun _ => .bl true) (h.seqI (by simp [gVar])) (fun x hx => by simp [gSeq, gIf, gTest, g1, g2, gVar, gC, gRet, gNext, gSet, gF, gFP, TL.gCons, TL.gNil, gNot, gAnd, gOr, gAndV, gOrV, gNotV, gIsi, gCall, gMeth, gFld, gExp, gChain, gIfE, TL.gTup, TL.gLst, gSo, gSl, gRevL, gSeqI, Res.ofO, ret0, back, bigN, isPlainD, gFun, (hn x hx).time]) (by unfold bigN; omega)
  have al : dAll [.lst (xs.map fun _ => .bl true)] = some (.bl true) := blsOf_all (n := 0) (by simp)
  have k1 : (1 : Int) ≤ xs.length := by omega
  have k6 : (xs.length : Int) ≤ 6 := by omega
  simp [G_is_row, g_is_row, gSeq, gIf, gTest, g1, g2, gVar, gC, gRet, gNext, gSet, gF, gFP, TL.gCons, TL.gNil, gNot, gAnd, gOr, gAndV, gOrV, gNotV, gIsi, gCall, gMeth, gFld, gExp, gChain, gIfE, TL.gTup, TL.gLst, gSo, gSl, gRevL, gSeqI, Res.ofO, ret0, back, bigN, isPlainD, gFun, h.list, h.len, lc, al, le_ok, k1, k6]
/-- item by item -/
inductive All2 {α β : Type} (R : α → β → Prop) : List α → List β → Prop where
  | nil : All2 R [] []
  | cons {a : α} {b : β} {l1 : List α} {l2 : List β} (h : R a b) (t : All2 R l1 l2) : All2 R (a :: l1) (b :: l2)
/-- a table of times, as it may be handed in; its rows -/
structure Tab (rows : List (List D)) (d : D) : Prop where
  ex : ∃ ds : List D, Sq ds d ∧ All2 Sq rows ds
  n1 : 1 ≤ rows.length
  n4 : rows.length ≤ 4
  m : ∃ m, 1 ≤ m ∧ m ≤ 6 ∧ ∀ r ∈ rows, r.length = m
  nums : ∀ r ∈ rows, ∀ x ∈ r, Num x
theorem forall2_mem {α β : Type} {R : α → β → Prop} {xs : List α} {ys : List β} (h : All2 R xs ys) : ∀ y ∈ ys, ∃ x ∈ xs, R x y := by
  induction h with
  | nil => intro y hy; cases hy
  | @cons a b l1 l2 r t ih =>
    intro y hy
    rcases List.mem_cons.mp hy with e | e
    · subst e; exact ⟨a, List.mem_cons_self, r⟩
    · obtain ⟨x, hx, q⟩ := ih y e
      exact ⟨x, List.mem_cons_of_mem _ hx, q⟩
theorem All2.length {α β : Type} {R : α → β → Prop} {xs : List α} {ys : List β} (h : All2 R xs ys) : xs.length = ys.length := by
  induction h with
  | nil => rfl
  | cons _ _ ih => simp [ih]
theorem ix0 {x : D} {xs : List D} {d : D} (h : Sq (x :: xs) d) : dIx d (.int 0) = some x := by
  have e : atI (x :: xs) 0 = some x := by simp [atI, ixN]
  cases h <;> exact e
theorem is_table_ok {rows : List (List D)} {d : D} (h : Tab rows d) : G_is_table [some d] = .ok [some d] (.bl true) := by
  obtain ⟨ds, hs, hr⟩ := h.ex
  obtain ⟨m, m1, m6, hm⟩ := h.m
  have hlen := All2.length hr
  have n1 := h.n1
  have n4 := h.n4
  have lc : gLc [1] (.nm 1) (gSeqI (gVar 0)) gYes (gCall G_is_row [] (TL.gCons (gVar 1) TL.gNil)) [some d, none] = .ok [some d, none] (.lst (ds.map fun _ => .bl true)) :=
    gLc_map (fun _ => .bl true) (hs.seqI (by simp [gVar])) (fun x hx => by
      obtain ⟨r, hr1, hr2⟩ := forall2_mem hr x hx
      have e := hm r hr1
      simp [gSeq, gIf, gTest, g1, g2, gVar, gC, gRet, gNext, gSet, gF, gFP, TL.gCons, TL.gNil, gNot, gAnd, gOr, gAndV, gOrV, gNotV, gIsi, gCall, gMeth, gFld, gExp, gChain, gIfE, TL.gTup, TL.gLst, gSo, gSl, gRevL, gSeqI, Res.ofO, ret0, back, bigN, isPlainD, gFun, is_row_ok hr2 (by omega) (by omega) (h.nums r hr1)]) (by unfold bigN; omega)
  obtain ⟨x0, ds', rfl⟩ : ∃ x0 ds', ds = x0 :: ds' := by
    cases ds with
    | nil => simp only [List.length_nil] at hlen; omega
    | cons a b => exact ⟨a, b, rfl⟩
  have l0 : dLen [x0] = some (.int m) := by
    obtain ⟨r, hr1, hr2⟩ := forall2_mem hr x0 List.mem_cons_self
    rw [hr2.len, hm r hr1]
  have lc2 : gLc [1] (.nm 1) (gSeqI (gVar 0)) gYes (g2 hEq_i (gF dLen (TL.gCons (gVar 1) TL.gNil)) (gF dLen (TL.gCons (g2 dIx (gVar 0) (gC (.int 0))) TL.gNil))) [some d, none] = .ok [some d, none] (.lst ((x0 :: ds').map fun _ => .bl true)) :=
    gLc_map (fun _ => .bl true) (hs.seqI (by simp [gVar])) (fun x hx => by
      obtain ⟨r, hr1, hr2⟩ := forall2_mem hr x hx
      have lx : dLen [x] = some (.int m) := by rw [hr2.len, hm r hr1]
      simp [gSeq, gIf, gTest, g1, g2, gVar, gC, gRet, gNext, gSet, gF, gFP, TL.gCons, TL.gNil, gNot, gAnd, gOr, gAndV, gOrV, gNotV, gIsi, gCall, gMeth, gFld, gExp, gChain, gIfE, TL.gTup, TL.gLst, gSo, gSl, gRevL, gSeqI, Res.ofO, ret0, back, bigN, isPlainD, gFun, ix0 hs, l0, lx, eq_ok]) (by unfold bigN; omega)
  have al : dAll [.lst ((x0 :: ds').map fun _ => .bl true)] = some (.bl true) := blsOf_all (n := 0) (by simp)
  generalize (List.map (fun _ => D.bl true) (x0 :: ds')) = ys at lc lc2 al
  have k1 : (1 : Int) ≤ (ds'.length : Int) + 1 := by omega
  have k4 : (ds'.length : Int) + 1 ≤ 4 := by simp at hlen; omega
  simp only [G_is_table, g_is_table, gFun, gSeq, gIf, gOr, gNot, gTest, gCall, gChain, gRet, gAndV, gF, TL.gCons, TL.gNil]
  simp only [List.length_cons, List.length_nil, List.cons_append, List.nil_append, List.replicate, Nat.reduceAdd, Nat.reduceSub]
  simp [gSeq, gIf, gTest, g1, g2, gVar, gC, gRet, gNext, gSet, gF, gFP, TL.gCons, TL.gNil, gNot, gAnd, gOr, gAndV, gOrV, gNotV, gIsi, gCall, gMeth, gFld, gExp, gChain, gIfE, TL.gTup, TL.gLst, gSo, gSl, gRevL, gSeqI, Res.ofO, ret0, back, bigN, isPlainD, gFun, hs.list, hs.len, le_ok, k1, k4, lc, lc2, al]

/-! ### lines -/
def rowsD (rows : List (List D)) : D := .lst (rows.map .lst)
def lineD (rows : List (List D)) : D := .obj 1 [rowsD rows]
theorem line_init {rows : List (List D)} {d : D} (h : Tab rows d) : G_Linedd_initdd [some (.part 1 []), some d] = .ok [some (.part 1 [rowsD (rows.map (·.map asR))]), some d] .non := by
  obtain ⟨ds, hs, hr⟩ := h.ex
  obtain ⟨m, m1, m6, hm⟩ := h.m
  have hlen := All2.length hr
  have n4 := h.n4
  have key : ∀ x ∈ ds, ∃ r ∈ rows, Sq r x := forall2_mem hr
  have lc : ∃ f : D → D, gLc [2] (.nm 2) (gSeqI (gVar 1)) gYes (gLc [3] (.nm 3) (gSeqI (gVar 2)) gYes (gCall G_as_ratio [] (TL.gCons (gVar 3) TL.gNil))) [some (.part 1 []), some d, none, none] = .ok [some (.part 1 []), some d, none, none] (.lst (ds.map f)) ∧ ∀ r x, r ∈ rows → Sq r x → f x = .lst (r.map asR) := by
    refine ⟨fun x => match x with
      | .lst r => .lst (r.map asR)
      | .tup r => .lst (r.map asR)
      | x => x, gLc_map _ (hs.seqI (by simp [gVar])) (fun x hx => ?_) (by unfold bigN; omega), fun r x _ hx => by cases hx <;> rfl⟩
    obtain ⟨r, hr1, hr2⟩ := key x hx
    have e := hm r hr1
    have i1 : gLc [3] (.nm 3) (gSeqI (gVar 2)) gYes (gCall G_as_ratio [] (TL.gCons (gVar 3) TL.gNil)) [some (.part 1 []), some d, some x, none] = .ok [some (.part 1 []), some d, some x, none] (.lst (r.map asR)) :=
      gLc_map asR (hr2.seqI (by simp [gVar])) (fun y hy => by simp [gSeq, gIf, gTest, g1, g2, gVar, gC, gRet, gNext, gSet, gF, gFP, TL.gCons, TL.gNil, gNot, gAnd, gOr, gAndV, gOrV, gNotV, gIsi, gCall, gMeth, gFld, gExp, gChain, gIfE, TL.gTup, TL.gLst, gSo, gSl, gRevL, gSeqI, Res.ofO, ret0, back, bigN, isPlainD, gFun, (h.nums r hr1 y hy).as]) (by unfold bigN; omega)
    have i2 : List.set [some (D.part 1 []), some d, none, none] 2 (some x) = [some (.part 1 []), some d, some x, none] := rfl
    rw [i2, i1]
    cases hr2 <;> rfl
  obtain ⟨f, lc, hf⟩ := lc
  have e : D.lst (ds.map f) = rowsD (rows.map (·.map asR)) := by
    unfold rowsD
    congr 1
    clear lc key hs hlen n4 m1 m6
    have : ∀ {a : List (List D)} {b : List D}, All2 Sq a b → (∀ r ∈ a, r ∈ rows) → b.map f = (a.map (·.map asR)).map .lst := by
      intro a b q
      induction q with
      | nil => intro _; rfl
      | cons h t ih =>
        intro hm
        simp only [List.map_cons]
        rw [hf _ _ (hm _ List.mem_cons_self) h, ih fun r hr => hm r (List.mem_cons_of_mem _ hr)]
    exact this hr fun r hr => hr
  rw [e] at lc
  simp [G_Linedd_initdd, g_Linedd_initdd, gSeq, gIf, gTest, g1, g2, gVar, gC, gRet, gNext, gSet, gF, gFP, TL.gCons, TL.gNil, gNot, gAnd, gOr, gAndV, gOrV, gNotV, gIsi, gCall, gMeth, gFld, gExp, gChain, gIfE, TL.gTup, TL.gLst, gSo, gSl, gRevL, gSeqI, Res.ofO, ret0, back, bigN, isPlainD, gFun, is_table_ok h, gFldSet, lc]

/-- the times of a line -/
structure Grid (rows : List (List D)) (n m : Nat) : Prop where
  len : rows.length = n
  n1 : 1 ≤ n
  n4 : n ≤ 4
  m1 : 1 ≤ m
  m6 : m ≤ 6
  row : ∀ r ∈ rows, r.length = m
  nums : ∀ r ∈ rows, ∀ x ∈ r, Num x
  rats : ∀ r ∈ rows, ∀ x ∈ r, asR x = x
section
variable {rows : List (List D)} {n m : Nat}
theorem all2_lst : ∀ {rows : List (List D)}, All2 Sq rows (rows.map .lst)
  | [] => .nil
  | r :: rs => .cons .lst all2_lst
theorem Grid.tab (g : Grid rows n m) : Tab rows (rowsD rows) := ⟨⟨_, .lst, all2_lst⟩, by rw [g.len]; exact g.n1, by rw [g.len]; exact g.n4, ⟨m, g.m1, g.m6, g.row⟩, g.nums⟩
theorem map_asR : ∀ {r : List D}, (∀ x ∈ r, asR x = x) → r.map asR = r
  | [], _ => rfl
  | x :: xs, h => by rw [List.map_cons, h x List.mem_cons_self, map_asR fun y hy => h y (List.mem_cons_of_mem _ hy)]
theorem maps_asR : ∀ {rows : List (List D)}, (∀ r ∈ rows, ∀ x ∈ r, asR x = x) → rows.map (·.map asR) = rows
  | [], _ => rfl
  | r :: rs, h => by rw [List.map_cons, map_asR (h r List.mem_cons_self), maps_asR fun y hy => h y (List.mem_cons_of_mem _ hy)]
theorem line_make {d : D} (h : Tab rows d) {g : TL.G} {env : TL.Env} (e : g env = .ok env d) : gMake 1 1 G_Linedd_initdd [] (TL.gCons g TL.gNil) env = .ok env (lineD (rows.map (·.map asR))) := by
  have l := line_init h
  simp only [gMake, TL.gCons, TL.gNil, e, Res.bind_ok, List.append_nil, List.map_cons, List.map_nil, l, retM]
  simp [lineD]
theorem Grid.make (g : Grid rows n m) {ge : TL.G} {env : TL.Env} (e : ge env = .ok env (rowsD rows)) : gMake 1 1 G_Linedd_initdd [] (TL.gCons ge TL.gNil) env = .ok env (lineD rows) := by
  rw [line_make g.tab e, maps_asR g.rats]
theorem fld_rows {env : TL.Env} {g : TL.G} (e : g env = .ok env (lineD rows)) : gFld 1 0 g env = .ok env (rowsD rows) := by
  simp [gFld, e, lineD, Res.ofO]
theorem Grid.ne (g : Grid rows n m) : ∃ r rs, rows = r :: rs ∧ r.length = m := by
  cases rows with
  | nil => have := g.len; have := g.n1; simp at *; omega
  | cons r rs => exact ⟨r, rs, rfl, g.row r List.mem_cons_self⟩
theorem Grid.jobs (g : Grid rows n m) : G_Line_jobs [some (lineD rows)] = .ok [some (lineD rows)] (.int m) := by
  obtain ⟨r, rs, e, hl⟩ := g.ne
  have e0 : dIx (rowsD rows) (.int 0) = some (.lst r) := by
    rw [e]
    exact ix0 (x := .lst r) (xs := rs.map .lst) .lst
  have f := fld_rows (rows := rows) (env := [some (lineD rows)]) (g := gVar 0) (by simp [gVar])
  have l : dLen [.lst r] = some (.int m) := by rw [← hl]; rfl
  simp only [G_Line_jobs, g_Line_jobs, gFun, gRet, gF, TL.gCons, TL.gNil, g2, List.length_cons, List.length_nil, List.replicate, Nat.reduceAdd, Nat.sub_self, List.append_nil, f, Res.bind_ok, gC, e0, Res.ofO, l, Res.to_ok]
  simp [back]
theorem Grid.rows_ok (g : Grid rows n m) : G_Line_rows [some (lineD rows)] = .ok [some (lineD rows)] (rowsD rows) := by
  have n4 := g.n4
  have hl := g.len
  have f := fld_rows (rows := rows) (env := [some (lineD rows), none]) (g := gVar 0) (by simp [gVar])
  have lc : gLc [1] (.nm 1) (gSeqI (gFld 1 0 (gVar 0))) gYes (gFP dList (TL.gCons (gVar 1) TL.gNil)) [some (lineD rows), none] = .ok [some (lineD rows), none] (.lst ((rows.map D.lst).map fun x => x)) :=
    gLc_map (fun x => x) (by unfold gSeqI; rw [f]; rfl) (fun x hx => by
      obtain ⟨r, _, rfl⟩ := List.mem_map.mp hx
      simp [gSeq, gIf, gTest, g1, g2, gVar, gC, gRet, gNext, gSet, gF, gFP, TL.gCons, TL.gNil, gNot, gAnd, gOr, gAndV, gOrV, gNotV, gIsi, gCall, gMeth, gFld, gExp, gChain, gIfE, TL.gTup, TL.gLst, gSo, gSl, gRevL, gSeqI, Res.ofO, ret0, back, bigN, isPlainD, gFun, dList]) (by simp only [List.length_map]; unfold bigN; omega)
  rw [List.map_id'] at lc
  simp only [G_Line_rows, g_Line_rows, gFun, gRet, List.length_cons, List.length_nil, List.replicate, Nat.reduceAdd, Nat.reduceSub, List.cons_append, List.nil_append, lc, Res.to_ok]
  simp [back, rowsD]
/-- what may be asked for as a job -/
def isIx (m : Nat) : D → Bool
  | .int i => decide (0 ≤ i) && decide (i < m)
  | _ => false
inductive Plain : D → Prop where
  | non : Plain .non
  | bl (b : Bool) : Plain (.bl b)
  | int (i : Int) : Plain (.int i)
  | str (x : Str) : Plain (.str x)
  | rat (t b : Int) : Plain (rat t b)
  | lst (xs : List D) : Plain (.lst xs)
  | dic (ks : List Key) (vs : List D) : Plain (.dic ks vs)
theorem is_index_ok {d : D} (h : Plain d) : G_is_index [some d, some (.int m)] = .ok [some d, some (.int m)] (.bl (isIx m d)) := by
  cases h with
  | int i =>
    by_cases h0 : 0 ≤ i
    · simp [G_is_index, g_is_index, gSeq, gIf, gTest, g1, g2, gVar, gC, gRet, gNext, gSet, gF, gFP, TL.gCons, TL.gNil, gNot, gAnd, gOr, gAndV, gOrV, gNotV, gIsi, gCall, gMeth, gFld, gExp, gChain, gIfE, TL.gTup, TL.gLst, gSo, gSl, gRevL, gSeqI, Res.ofO, ret0, back, bigN, isPlainD, gFun, is_int_int, le_ok, lt_ok, h0, isIx]
    · simp [G_is_index, g_is_index, gSeq, gIf, gTest, g1, g2, gVar, gC, gRet, gNext, gSet, gF, gFP, TL.gCons, TL.gNil, gNot, gAnd, gOr, gAndV, gOrV, gNotV, gIsi, gCall, gMeth, gFld, gExp, gChain, gIfE, TL.gTup, TL.gLst, gSo, gSl, gRevL, gSeqI, Res.ofO, ret0, back, bigN, isPlainD, gFun, is_int_int, le_ok, lt_ok, h0, isIx]
  | _ => rfl
theorem Grid.jobs_m (g : Grid rows n m) {env : TL.Env} {ge : TL.G} (e : ge env = .ok env (lineD rows)) : gMeth 1 G_Line_jobs [] ge TL.gNil env = .ok env (.int m) := by
  have j := g.jobs
  simp only [lineD] at j
  simp [gMeth, e, lineD, TL.gNil, j, ret0]
theorem Grid.cj (g : Grid rows n m) {w : D} (hw : Plain w) : G_check_job [some (lineD rows), some w] = if isIx m w then .ok [some (lineD rows), some w] .non else .err [some (lineD rows), some w] ⟨7, some ("given", w)⟩ := by
  have j := g.jobs_m (env := [some (lineD rows), some w]) (ge := gVar 0) (by simp [gVar])
  cases hx : isIx m w with
  | false =>
    simp [G_check_job, g_check_job, gFun, gSeq, gIf, gNot, gTest, gCall, TL.gCons, TL.gNil, gRaise1, back]
    simp [gVar, j, is_index_ok hw, hx, ret0, gNext]
  | true =>
    simp [G_check_job, g_check_job, gFun, gSeq, gIf, gNot, gTest, gCall, TL.gCons, TL.gNil, gRaise1, back]
    simp [gVar, j, is_index_ok hw, hx, ret0, gNext]
theorem Grid.cj_run (g : Grid rows n m) {env : TL.Env} {i k : Nat} {w : D} (hw : Plain w) (h0 : env[i]? = some (some (lineD rows))) (h1 : env[k]? = some (some w)) : gExp (gCall G_check_job [] (TL.gCons (gVar i) (TL.gCons (gVar k) TL.gNil))) env = if isIx m w then .next env else .err env ⟨7, some ("given", w)⟩ := by
  have c := g.cj hw
  cases hx : isIx m w with
  | false => rw [hx] at c; simp at c; simp [gExp, gCall, TL.gCons, TL.gNil, gVar, h0, h1, c, ret0]
  | true => rw [hx] at c; simp at c; simp [gExp, gCall, TL.gCons, TL.gNil, gVar, h0, h1, c, ret0]
def cE2 : GS := (gIf (gOr (gNot (gTest (gCall G_is_index [] (TL.gCons (gVar 2) (TL.gCons (gMeth 1 G_Line_jobs [] (gVar 0) TL.gNil) TL.gNil))))) (gTest (g2 hLt_i (gVar 2) (gVar 1)))) (gRaise1 7 "given" (gVar 2)) gNext)
theorem g_stretch : g_check_stretch = gSeq (gExp (gCall G_check_job [] (TL.gCons (gVar 0) (TL.gCons (gVar 1) TL.gNil)))) cE2 := rfl
theorem st_err {env env' : TL.Env} {x : Ex} (h : g_check_stretch env = .err env' x) (hl : env.length = 3) : G_check_stretch env = .err (back [] 0 env env') x := by
  unfold G_check_stretch gFun
  rw [hl, show List.replicate (3 - 3) (none : Option D) = [] from rfl, List.append_nil, h]
theorem st_ok {env env' : TL.Env} (h : g_check_stretch env = .next env') (hl : env.length = 3) : G_check_stretch env = .ok (back [] 0 env env') .non := by
  unfold G_check_stretch gFun
  rw [hl, show List.replicate (3 - 3) (none : Option D) = [] from rfl, List.append_nil, h]
theorem Grid.check_first (g : Grid rows n m) {v w : D} (hv : Plain v) (hi : isIx m v = false) : G_check_stretch [some (lineD rows), some v, some w] = .err [some (lineD rows), some v, some w] ⟨7, some ("given", v)⟩ := by
  have c := g.cj_run (env := [some (lineD rows), some v, some w]) (i := 0) (k := 1) hv rfl rfl
  rw [hi] at c
  refine st_err (env' := [some (lineD rows), some v, some w]) ?_ rfl
  rw [g_stretch]
  simp only [gSeq, c]
  rfl
theorem Grid.check_last (g : Grid rows n m) {i : Int} {w : D} (hi : isIx m (.int i) = true) (hw : Plain w) (hj : isIx m w = false ∨ ∃ j, w = .int j ∧ j < i) : G_check_stretch [some (lineD rows), some (.int i), some w] = .err [some (lineD rows), some (.int i), some w] ⟨7, some ("given", w)⟩ := by
  have j := g.jobs_m (env := [some (lineD rows), some (.int i), some w]) (ge := gVar 0) (by simp [gVar])
  have c := g.cj_run (env := [some (lineD rows), some (.int i), some w]) (i := 0) (k := 1) (.int i) rfl rfl
  rw [hi, if_pos rfl] at c
  refine st_err (env' := [some (lineD rows), some (.int i), some w]) ?_ rfl
  rw [g_stretch]
  simp only [gSeq, c, SRes.bind_next]
  cases hx : isIx m w with
  | false =>
    simp [cE2, gSeq, gIf, gNot, gOr, gTest, gCall, TL.gCons, TL.gNil, gRaise1, gNext, g2, gVar, j, is_index_ok hw, hx, ret0]
  | true =>
    obtain ⟨j', rfl, hlt⟩ := hj.resolve_left (by rw [hx]; exact fun z => Bool.noConfusion z)
    simp [cE2, gSeq, gIf, gNot, gOr, gTest, gCall, TL.gCons, TL.gNil, gRaise1, gNext, g2, gVar, j, is_index_ok hw, hx, ret0, lt_ok, hlt, Res.ofO]
theorem Grid.check_ok (g : Grid rows n m) {i j : Int} (h0 : 0 ≤ i) (h1 : i ≤ j) (h2 : j < m) : G_check_stretch [some (lineD rows), some (.int i), some (.int j)] = .ok [some (lineD rows), some (.int i), some (.int j)] .non := by
  have jj := g.jobs_m (env := [some (lineD rows), some (.int i), some (.int j)]) (ge := gVar 0) (by simp [gVar])
  have a1 : isIx m (.int i) = true := by simp [isIx]; omega
  have a2 : isIx m (.int j) = true := by simp [isIx]; omega
  have a3 : ¬ j < i := by omega
  have c := g.cj_run (env := [some (lineD rows), some (.int i), some (.int j)]) (i := 0) (k := 1) (.int i) rfl rfl
  rw [a1, if_pos rfl] at c
  refine st_ok (env' := [some (lineD rows), some (.int i), some (.int j)]) ?_ rfl
  rw [g_stretch]
  simp only [gSeq, c, SRes.bind_next]
  simp [cE2, gSeq, gIf, gNot, gOr, gTest, gCall, TL.gCons, TL.gNil, gRaise1, gNext, g2, gVar, jj, is_index_ok (.int j), a2, ret0, lt_ok, a3, Res.ofO]
end

/-! ### parts, backwards -/
section
variable {rows : List (List D)} {n m : Nat}
theorem cut_is {α : Type} {xs : List α} {i j : Int} (h0 : 0 ≤ i) (h1 : i ≤ j) (h2 : j < xs.length) : cutD xs (some i) (some (j + 1)) = (xs.drop i.toNat).take (j.toNat + 1 - i.toNat) := by
  have e1 : HT.sIx xs.length 0 (some i) = i.toNat := by
    show (if i < 0 then _ else min i.toNat xs.length) = _
    rw [if_neg (by omega)]
    omega
  have e2 : HT.sIx xs.length xs.length (some (j + 1)) = j.toNat + 1 := by
    show (if j + 1 < 0 then _ else min (j + 1).toNat xs.length) = _
    rw [if_neg (by omega)]
    omega
  unfold TL.cutD
  rw [e1, e2]
theorem cut_len {α : Type} {xs : List α} {i j : Int} (h0 : 0 ≤ i) (h1 : i ≤ j) (h2 : j < xs.length) : (cutD xs (some i) (some (j + 1))).length = j.toNat + 1 - i.toNat := by
  rw [cut_is h0 h1 h2, List.length_take, List.length_drop]
  omega
theorem cut_mem {α : Type} {xs : List α} {lo hi : Option Int} {x : α} (h : x ∈ cutD xs lo hi) : x ∈ xs := List.mem_of_mem_drop (List.mem_of_mem_take h)
abbrev cutR (rows : List (List D)) (i j : Int) : List (List D) := rows.map fun r => cutD r (some i) (some (j + 1))
theorem Grid.cut (g : Grid rows n m) {i j : Int} (h0 : 0 ≤ i) (h1 : i ≤ j) (h2 : j < m) : Grid (cutR rows i j) n (j.toNat + 1 - i.toNat) where
  len := by rw [List.length_map, g.len]
  n1 := g.n1
  n4 := g.n4
  m1 := by omega
  m6 := by have := g.m6; omega
  row := fun r hr => by
    obtain ⟨q, hq, rfl⟩ := List.mem_map.mp hr
    exact cut_len h0 h1 (by rw [g.row q hq]; exact h2)
  nums := fun r hr x hx => by
    obtain ⟨q, hq, rfl⟩ := List.mem_map.mp hr
    exact g.nums q hq x (cut_mem hx)
  rats := fun r hr x hx => by
    obtain ⟨q, hq, rfl⟩ := List.mem_map.mp hr
    exact g.rats q hq x (cut_mem hx)
abbrev revR (rows : List (List D)) : List (List D) := rows.reverse.map List.reverse
theorem Grid.rev (g : Grid rows n m) : Grid (revR rows) n m where
  len := by rw [List.length_map, List.length_reverse, g.len]
  n1 := g.n1
  n4 := g.n4
  m1 := g.m1
  m6 := g.m6
  row := fun r hr => by
    obtain ⟨q, hq, rfl⟩ := List.mem_map.mp hr
    rw [List.length_reverse]
    exact g.row q (List.mem_reverse.mp hq)
  nums := fun r hr x hx => by
    obtain ⟨q, hq, rfl⟩ := List.mem_map.mp hr
    exact g.nums q (List.mem_reverse.mp hq) x (List.mem_reverse.mp hx)
  rats := fun r hr x hx => by
    obtain ⟨q, hq, rfl⟩ := List.mem_map.mp hr
    exact g.rats q (List.mem_reverse.mp hq) x (List.mem_reverse.mp hx)
/-- [row[lo : hi + 1] for row in ..] -/
theorem lc_cut {env : TL.Env} {k : Nat} {gi : GI} {gl gh : GO} {i j : Int} (g : Grid rows n m) (hi : gi env = .ok env (rows.map D.lst)) (hk : k < env.length) (e1 : ∀ x, gl (env.set k (some x)) = .ok (env.set k (some x)) (some i)) (e2 : ∀ x, gh (env.set k (some x)) = .ok (env.set k (some x)) (some (j + 1))) :
    gLc [k] (.nm k) gi gYes (gSl (gVar k) gl gh) env = .ok env (rowsD (cutR rows i j)) := by
  have n4 := g.n4
  have hl := g.len
  have lc := gLc_map (i := k) (gi := gi) (ge := gSl (gVar k) gl gh) (env := env) (fun d => match d with
      | .lst r => .lst (cutD r (some i) (some (j + 1)))
      | x => x) hi (fun x hx => by
    obtain ⟨r, _, rfl⟩ := List.mem_map.mp hx
    have ev : gVar k (env.set k (some (D.lst r))) = .ok (env.set k (some (D.lst r))) (.lst r) := by simp [gVar, hk]
    simp only [gSl, ev, Res.bind_ok, e1, e2, dSl, Res.ofO]) (by simp only [List.length_map]; unfold bigN; omega)
  rw [lc]
  simp [rowsD, cutR]
theorem seqI_rows {env : TL.Env} {ge : TL.G} (e : ge env = .ok env (rowsD rows)) : gSeqI ge env = .ok env (rows.map D.lst) := by
  unfold gSeqI
  rw [e]
  rfl
theorem Grid.part_ok (g : Grid rows n m) {i j : Int} (h0 : 0 ≤ i) (h1 : i ≤ j) (h2 : j < m) : G_Line_part [some (lineD rows), some (.int i), some (.int j)] = .ok [some (lineD rows), some (.int i), some (.int j)] (lineD (cutR rows i j)) := by
  have c := g.check_ok h0 h1 h2
  have f := fld_rows (rows := rows) (env := [some (lineD rows), some (.int i), some (.int j), none]) (g := gVar 0) (by simp [gVar])
  have lc := lc_cut (env := [some (lineD rows), some (.int i), some (.int j), none]) (k := 3) (gi := gSeqI (gFld 1 0 (gVar 0))) (gl := gSo (gVar 1)) (gh := gSo (g2 hAdd_i (gVar 2) (gC (.int 1)))) (i := i) (j := j) g (seqI_rows f) (by simp) (fun x => by simp [gSo, gVar]) (fun x => by simp [gSo, g2, gVar, gC, add_ok, Res.ofO])
  have mk := (g.cut h0 h1 h2).make lc
  simp only [G_Line_part, g_Line_part, gFun, gSeq, gExp, gRet, gCall, TL.gCons, TL.gNil, gVar, List.length_cons, List.length_nil, List.replicate, Nat.reduceAdd, Nat.reduceSub, List.cons_append, List.nil_append, List.getElem?_cons_zero, List.getElem?_cons_succ, Res.bind_ok, List.append_nil, List.map_cons, List.map_nil, c, ret0, Res.to_ok, SRes.bind_next]
  rw [mk]
  simp [back]
theorem Grid.part_err (g : Grid rows n m) {v w x : D} (c : G_check_stretch [some (lineD rows), some v, some w] = .err [some (lineD rows), some v, some w] ⟨7, some ("given", x)⟩) : G_Line_part [some (lineD rows), some v, some w] = .err [some (lineD rows), some v, some w] ⟨7, some ("given", x)⟩ := by
  simp [G_Line_part, g_Line_part, gFun, gSeq, gExp, gCall, TL.gCons, TL.gNil, gVar, c, ret0, back]
theorem Grid.back_ok (g : Grid rows n m) : G_Line_backwards [some (lineD rows)] = .ok [some (lineD rows)] (lineD (revR rows)) := by
  have n4 := g.n4
  have hl := g.len
  have f := fld_rows (rows := rows) (env := [some (lineD rows), none]) (g := gVar 0) (by simp [gVar])
  have lc := gLc_map (i := 1) (gi := gSeqI (gRevL (gFld 1 0 (gVar 0)))) (ge := gRevL (gVar 1)) (env := [some (lineD rows), none]) (ds := rows.reverse.map D.lst) (fun d => match d with
      | .lst r => .lst r.reverse
      | x => x) (by unfold gSeqI gRevL; rw [f]; simp [rowsD]) (fun x hx => by
    obtain ⟨r, _, rfl⟩ := List.mem_map.mp hx
    simp [gRevL, gVar]) (by simp only [List.length_map, List.length_reverse]; unfold bigN; omega)
  have e : D.lst ((rows.reverse.map D.lst).map fun d => match d with
      | .lst r => .lst r.reverse
      | x => x) = rowsD (revR rows) := by simp [rowsD, revR]
  rw [e] at lc
  have mk := g.rev.make lc
  simp only [G_Line_backwards, g_Line_backwards, gFun, gRet, List.length_cons, List.length_nil, List.replicate, Nat.reduceAdd, Nat.reduceSub, List.cons_append, List.nil_append, mk, Res.to_ok]
  simp [back]
theorem revR_revR : revR (revR rows) = rows := by
  simp [revR, List.map_reverse, Function.comp_def]
theorem cut_rev {α : Type} {xs : List α} {i j : Int} (h0 : 0 ≤ i) (h1 : i ≤ j) (h2 : j < xs.length) : (cutD xs.reverse (some ((xs.length : Int) - 1 - j)) (some ((xs.length : Int) - 1 - i + 1))).reverse = cutD xs (some i) (some (j + 1)) := by
  rw [cut_is (by omega) (by omega) (by rw [List.length_reverse]; omega), cut_is h0 h1 h2]
  have e : xs.reverse.drop ((xs.length : Int) - 1 - j).toNat = (xs.take (j.toNat + 1)).reverse := by
    rw [List.drop_reverse]
    congr 2
    omega
  rw [e]
  rw [List.take_reverse, List.reverse_reverse, List.drop_take, List.length_take]
  congr 1
  · omega
  · congr 1
    omega
end

/-! ### sameness -/
section
variable {rows : List (List D)} {n m : Nat}
theorem num_rat {x : D} (h : Num x) (e : asR x = x) : ∃ t b, x = rat t b ∧ 0 ≤ t ∧ t < 2 ^ 100 ∧ 0 < b ∧ b < 2 ^ 100 := by
  cases h with
  | int i => cases e
  | rat t b h0 h1 h2 h3 => exact ⟨t, b, rfl, h0, h1, h2, h3⟩
theorem deq_rat (t b : Int) : deq ownR (rat t b) (rat t b) = some true := by
  unfold deq
  have r := refl_R t b
  simp [ownR, ownE, okR, r]
theorem deqL_refl : ∀ {xs : List D}, (∀ x ∈ xs, deq ownR x x = some true) → deqL ownR xs xs = some true
  | [], _ => by unfold deqL; rfl
  | x :: xs, h => by
    unfold deqL
    rw [h x List.mem_cons_self]
    exact deqL_refl fun y hy => h y (List.mem_cons_of_mem _ hy)
theorem deq_lst {xs : List D} (h : ∀ x ∈ xs, deq ownR x x = some true) : deq ownR (.lst xs) (.lst xs) = some true := by
  unfold deq
  rw [if_pos rfl]
  exact deqL_refl h
theorem ofs_ok (x : String) : PyData.strOk (Str.ofString x) = true := by
  unfold PyData.strOk
  rw [Str.ofString_eq_toList]
  simp
  intro c _
  have := c.valid
  rcases this with h | ⟨_, h⟩
  · exact Nat.lt_trans h (by decide)
  · exact h
theorem deq_str {x : Str} (h : PyData.strOk x = true) : deq ownR (.str x) (.str x) = some true := by
  unfold deq dflat
  simp [mis, toPD, SeqAt.shaped, PyData.eqv, PyData.canLay0, PyData.depth, h]
theorem deq_int (i : Int) : deq ownR (.int i) (.int i) = some true := by
  unfold deq dflat
  simp [mis, toPD, SeqAt.shaped, PyData.eqv, PyData.canLay0, PyData.depth]
theorem depL_le : ∀ {xs : List D} {k : Nat}, (∀ x ∈ xs, dep x ≤ k) → depL xs ≤ k
  | [], k, _ => by unfold depL; omega
  | x :: xs, k, h => by
    unfold depL
    have h1 := h x List.mem_cons_self
    have h2 := depL_le (xs := xs) (k := k) fun y hy => h y (List.mem_cons_of_mem _ hy)
    omega
theorem Grid.deq_rows (g : Grid rows n m) : deq ownR (rowsD rows) (rowsD rows) = some true := deq_lst fun x hx => by
  obtain ⟨r, hr, rfl⟩ := List.mem_map.mp hx
  exact deq_lst fun y hy => by
    obtain ⟨t, b, rfl, _⟩ := num_rat (g.nums r hr y hy) (g.rats r hr y hy)
    exact deq_rat t b
theorem Grid.dep_rows (g : Grid rows n m) : dep (rowsD rows) ≤ 2 := by
  unfold rowsD dep
  have := depL_le (xs := rows.map D.lst) (k := 1) fun x hx => by
    obtain ⟨r, hr, rfl⟩ := List.mem_map.mp hx
    unfold dep
    have := depL_le (xs := r) (k := 0) fun y hy => by
      obtain ⟨t, b, rfl, _⟩ := num_rat (g.nums r hr y hy) (g.rats r hr y hy)
      simp [dep]
    omega
  omega
theorem ne_same {d : D} (h1 : dep d ≤ 4) (h2 : deq ownR d d = some true) : hNe_q d d = some (.bl false) := by
  unfold hNe_q alt hNq
  rw [if_pos h1, h2]
  rfl
theorem Grid.ne_rows (g : Grid rows n m) : hNe_q (rowsD rows) (rowsD rows) = some (.bl false) := ne_same (by have := g.dep_rows; omega) g.deq_rows
theorem Grid.ne_line (g : Grid rows n m) : hNe_q (lineD rows) (lineD rows) = some (.bl false) := by
  have f : ∀ k, k = 0 ∨ k = 1 → gFld 1 0 (gVar k) [some (lineD rows), some (lineD rows)] = .ok [some (lineD rows), some (lineD rows)] (rowsD rows) := fun k hk => fld_rows (by rcases hk with rfl | rfl <;> simp [gVar])
  have e : hEq_r (rowsD rows) (rowsD rows) = some (.bl true) := by
    unfold hEq_r hEq
    rw [if_pos g.dep_rows, g.deq_rows]
    rfl
  have i1 : gIsi hI_Line (gVar 1) [some (lineD rows), some (lineD rows)] = .ok [some (lineD rows), some (lineD rows)] (.bl true) := rfl
  have q : G_Linedd_eqdd [some (lineD rows), some (lineD rows)] = .ok [some (lineD rows), some (lineD rows)] (.bl true) := by
    simp only [G_Linedd_eqdd, g_Linedd_eqdd, gFun, gRet, gAndV, g2, List.length_cons, List.length_nil, Nat.reduceAdd, Nat.sub_self, List.replicate, List.append_nil, i1, Res.bind_ok, f 0 (.inl rfl), f 1 (.inr rfl), e, Res.ofO, Res.to_ok]
    simp [back]
  have o : ownL 1 (lineD rows) (lineD rows) = some true := by
    unfold ownL ownE
    have : okL (lineD rows) = true := rfl
    simp [this, q, ans]
  have o' : hNq ownR 4 (lineD rows) (lineD rows) = none := by
    unfold hNq
    simp [lineD, dep, deq, ownR, ownE]
  unfold hNe_q alt
  rw [o']
  show hNe1 1 ownL (lineD rows) (lineD rows) = _
  unfold hNe1 lineD
  simp only [if_true]
  have o2 := o
  unfold lineD at o2
  rw [o2]
  rfl
/-! ### what is shown -/
inductive Odd : D → Prop where
  | non : Odd .non
  | int (i : Int) (h : i.natAbs < 2 ^ 100) : Odd (.int i)
  | tr : Odd (.bl true)
  | zero : Odd (.str "0")
  | rat : Odd (rat 0 1)
  | lst : Odd (.lst [.int 0])
  | dic : Odd (.dic [] [])
theorem Odd.plain {d : D} (h : Odd d) : Plain d := by cases h <;> constructor
structure Sh (e : D) : Prop where
  dp : dep e ≤ 3
  eq : deq ownR e e = some true
theorem sh_str {x : Str} (h : PyData.strOk x = true) : Sh (.str x) := ⟨by simp [dep], deq_str h⟩
theorem deq_ofs (x : String) : deq ownR (.str (Str.ofString x)) (.str (Str.ofString x)) = some true := deq_str (ofs_ok x)
theorem shown_ok {d : D} (h : Odd d) : ∃ e, G__law_shown 2 [some d] = .ok [some d] e ∧ Sh e := by
  cases h with
  | non => exact ⟨.str "None", rfl, sh_str (ofs_ok _)⟩
  | int i h =>
    have := log2_le h
    refine ⟨.str (toString i), ?_, sh_str (ofs_ok _)⟩
    have e : dRepr [.int i] = some (.str (toString i)) := if_pos (by omega)
    simp [G__law_shown, g__law_shown, gSeq, gIf, gTest, g1, g2, gVar, gC, gRet, gNext, gSet, gF, gFP, TL.gCons, TL.gNil, gNot, gAnd, gOr, gAndV, gOrV, gNotV, gIsi, gCall, gMeth, gFld, gExp, gChain, gIfE, TL.gTup, TL.gLst, gSo, gSl, gRevL, gSeqI, Res.ofO, ret0, back, bigN, isPlainD, gFun, hI_Ratio, hI_dict, hI_seq, e]
  | tr => exact ⟨.str "True", rfl, sh_str (ofs_ok _)⟩
  | zero =>
    refine ⟨.str (PySem.reprText "0"), ?_, sh_str (by decide +kernel)⟩
    have e : dRepr [.str "0"] = some (.str (PySem.reprText "0")) := if_pos (by decide +kernel)
    simp [G__law_shown, g__law_shown, gSeq, gIf, gTest, g1, g2, gVar, gC, gRet, gNext, gSet, gF, gFP, TL.gCons, TL.gNil, gNot, gAnd, gOr, gAndV, gOrV, gNotV, gIsi, gCall, gMeth, gFld, gExp, gChain, gIfE, TL.gTup, TL.gLst, gSo, gSl, gRevL, gSeqI, Res.ofO, ret0, back, bigN, isPlainD, gFun, hI_Ratio, hI_dict, hI_seq, e]
  | rat => exact ⟨.lst [.str "ratio", .int 0, .int 1], rfl, by simp [dep, depL], deq_lst (by simp [deq_ofs, deq_int])⟩
  | lst => exact ⟨.lst [.str "list", .lst [.str "0"]], rfl, by simp [dep, depL], deq_lst (by simp [deq_ofs, deq_lst])⟩
  | dic => exact ⟨.lst [.str "dict", .lst []], rfl, by simp [dep, depL], deq_lst (by simp [deq_ofs, deq_lst])⟩
end

/-! ### the law's own parts -/
section
variable {rows : List (List D)} {n m : Nat}
theorem part_call (g : Grid rows n m) {i j : Int} (h0 : 0 ≤ i) (h1 : i ≤ j) (h2 : j < m) : G__law_part [some (lineD rows), some (.int i), some (.int j)] = .ok [some (lineD rows), some (.int i), some (.int j)] (rowsD (cutR rows i j)) := by
  have p := g.part_ok h0 h1 h2
  have r := (g.cut h0 h1 h2).rows_ok
  simp only [lineD] at p r
  simp [G__law_part, g__law_part, gFun, gTry, gRet, gMeth, gMethK, D_kw_Line_part_1_last, gVar, TL.gCons, TL.gNil, lineD, p, r, ret0, back]
theorem part_odd (g : Grid rows n m) {v w x : D} (c : G_check_stretch [some (lineD rows), some v, some w] = .err [some (lineD rows), some v, some w] ⟨7, some ("given", x)⟩) {e : D} (sh : G__law_shown 2 [some x] = .ok [some x] e) :
    G__law_part [some (lineD rows), some v, some w] = .ok [some (lineD rows), some v, some w] (.lst [.str "job", e]) := by
  have p := g.part_err c
  simp only [lineD] at p
  simp [G__law_part, g__law_part, gFun, gTry, gRet, gMeth, gMethK, D_kw_Line_part_1_last, gVar, TL.gCons, TL.gNil, lineD, p, ret0, gHand, hit1, suiteR, gCall, gGiven, TL.gLst, gC, sh, bigN, back]
structure Tape (a b : Int) : Prop where
  a0 : 0 ≤ a
  b0 : 0 ≤ b
  b1 : b < 2147483647
abbrev tapeD (a b : Int) : D := .lst [.int a, .int b]
theorem ix_0 {x y : D} : dIx (.lst [x, y]) (.int 0) = some x := rfl
theorem ix_1 {x y : D} : dIx (.lst [x, y]) (.int 1) = some y := rfl
theorem pick_ok {a b n : Int} (t : Tape a b) (h1 : 1 ≤ n) (h2 : n < 2 ^ 64) : ∃ a' b' r, Tape a' b' ∧ 0 ≤ r ∧ r < n ∧ G__law_pick [some (tapeD a b), some (.int n)] = .ok [some (tapeD a' b'), some (.int n)] (.int r) := by
  obtain ⟨a0, b0, b1⟩ := t
  have hn : 0 < n := by omega
  by_cases h : 1000000000000000000 ≤ a
  · refine ⟨a / n, b, a % n, ⟨Int.ediv_nonneg a0 (by omega), b0, b1⟩, Int.emod_nonneg _ (by omega), Int.emod_lt_of_pos _ hn, ?_⟩
    have f : hFdiv_i (.int a) (.int n) = some (.int (a / n)) := fdiv_ok hn (by omega)
    simp [G__law_pick, g__law_pick, gSeq, gIf, gTest, g1, g2, gVar, gC, gRet, gNext, gSet, gF, gFP, TL.gCons, TL.gNil, gNot, gAnd, gOr, gAndV, gOrV, gNotV, gIsi, gCall, gMeth, gFld, gExp, gChain, gIfE, TL.gTup, TL.gLst, gSo, gSl, gRevL, gSeqI, Res.ofO, ret0, back, bigN, isPlainD, gFun, gIxP, ix_0, ix_1, pow18, ge_ok, h, dInt, mod_ok hn, f, gSetI, ixN]
  · have hb : ∀ x : Int, 0 ≤ x % 2147483647 ∧ x % 2147483647 < 2147483647 := fun x => ⟨Int.emod_nonneg _ (by omega), Int.emod_lt_of_pos _ (by omega)⟩
    have m1 : hMul_i (.int b) (.int 48271) = some (.int (b * 48271)) := mul_ok (by omega) (by decide)
    have m2 : hMul_i (.int a) (.int 69621) = some (.int (a * 69621)) := mul_ok (by omega) (by decide)
    have d1 := hb (b * 48271 + a * 69621 + 29)
    have k1 : hMod_i (.int (b * 48271 + a * 69621 + 29)) (.int 2147483647) = some (.int ((b * 48271 + a * 69621 + 29) % 2147483647)) := mod_ok (by decide)
    generalize (b * 48271 + a * 69621 + 29) % 2147483647 = c at *
    have m3 : hMul_i (.int c) (.int c) = some (.int (c * c)) := mul_ok (by omega) (by omega)
    have m4 : hMul_i (.int c) (.int 40692) = some (.int (c * 40692)) := mul_ok (by omega) (by decide)
    have k2 : hMod_i (.int (c * c + c * 40692 + 17)) (.int 2147483399) = some (.int ((c * c + c * 40692 + 17) % 2147483399)) := mod_ok (by decide)
    generalize (c * c + c * 40692 + 17) % 2147483399 = q at *
    have k3 : hFdiv_i (.int q) (.int 32) = some (.int (q / 32)) := fdiv_ok (by decide) (by decide)
    refine ⟨a, c, q / 32 % n, ⟨a0, d1.1, d1.2⟩, Int.emod_nonneg _ (by omega), Int.emod_lt_of_pos _ hn, ?_⟩
    simp [G__law_pick, g__law_pick, gSeq, gIf, gTest, g1, g2, gVar, gC, gRet, gNext, gSet, gF, gFP, TL.gCons, TL.gNil, gNot, gAnd, gOr, gAndV, gOrV, gNotV, gIsi, gCall, gMeth, gFld, gExp, gChain, gIfE, TL.gTup, TL.gLst, gSo, gSl, gRevL, gSeqI, Res.ofO, ret0, back, bigN, isPlainD, gFun, gIxP, ix_0, ix_1, pow18, ge_ok, h, dInt, mod_ok hn, m1, m2, m3, m4, k1, k2, k3, add_ok, gSetI, ixN]
theorem pick_call {a b n : Int} {env : TL.Env} {j : Nat} {gs : GA} (t : Tape a b) (h1 : 1 ≤ n) (h2 : n < 2 ^ 64) (h0 : env[j]? = some (some (tapeD a b))) (hg : gs env = .ok env [.int n]) :
    ∃ a' b' r, Tape a' b' ∧ 0 ≤ r ∧ r < n ∧ gCallT G__law_pick j gs env = .ok (env.set j (some (tapeD a' b'))) (.int r) := by
  obtain ⟨a', b', r, t', r0, r1, e⟩ := pick_ok t h1 h2
  refine ⟨a', b', r, t', r0, r1, ?_⟩
  simp only [gCallT, h0, hg, Res.bind_ok, List.map_cons, List.map_nil, e, retT]
theorem var1 {env : TL.Env} {j : Nat} {d : D} (h : env[j]? = some (some d)) : TL.gCons (gVar j) TL.gNil env = .ok env [d] := by simp [TL.gCons, TL.gNil, gVar, h]
theorem con1 {env : TL.Env} {d : D} : TL.gCons (gC d) TL.gNil env = .ok env [d] := by simp [TL.gCons, TL.gNil, gC]
theorem size_ok {a b n : Int} (t : Tape a b) (h1 : 1 ≤ n) (h2 : n < 2 ^ 64) : ∃ a' b' r, Tape a' b' ∧ 1 ≤ r ∧ r ≤ n ∧ G__law_size [some (tapeD a b), some (.int n)] = .ok [some (tapeD a' b'), some (.int n)] (.int r) := by
  obtain ⟨a1, b1, r1, t1, p1, q1, e1⟩ := pick_call (env := [some (tapeD a b), some (.int n), none, none]) (j := 0) (gs := TL.gCons (gVar 1) TL.gNil) t h1 h2 rfl (var1 rfl)
  obtain ⟨a2, b2, r2, t2, p2, q2, e2⟩ := pick_call (env := [some (tapeD a1 b1), some (.int n), none, none]) (j := 0) (gs := TL.gCons (gVar 1) TL.gNil) t1 h1 h2 rfl (var1 rfl)
  simp only [List.set_cons_zero] at e1 e2
  have ar : TL.gCons (gCallT G__law_pick 0 (TL.gCons (gVar 1) TL.gNil)) (TL.gCons (gCallT G__law_pick 0 (TL.gCons (gVar 1) TL.gNil)) TL.gNil) [some (tapeD a b), some (.int n), none, none] = .ok [some (tapeD a2 b2), some (.int n), none, none] [.int r1, .int r2] := by
    simp only [TL.gCons, TL.gNil] at e1 e2 ⊢
    simp [e1, e2]
  by_cases h : r2 < r1
  · refine ⟨a2, b2, 1 + r1, t2, by omega, by omega, ?_⟩
    simp [G__law_size, g__law_size, gFun, gSeq, gPar, ar, putE, gRet, g2, gC, gIfE, gTest, gVar, lt_ok, h, Res.ofO, add_ok, back]
  · refine ⟨a2, b2, 1 + r2, t2, by omega, by omega, ?_⟩
    simp [G__law_size, g__law_size, gFun, gSeq, gPar, ar, putE, gRet, g2, gC, gIfE, gTest, gVar, lt_ok, h, Res.ofO, add_ok, back]
theorem size_call {a b n : Int} {env : TL.Env} {j : Nat} {gs : GA} (t : Tape a b) (h1 : 1 ≤ n) (h2 : n < 2 ^ 64) (h0 : env[j]? = some (some (tapeD a b))) (hg : gs env = .ok env [.int n]) :
    ∃ a' b' r, Tape a' b' ∧ 1 ≤ r ∧ r ≤ n ∧ gCallT G__law_size j gs env = .ok (env.set j (some (tapeD a' b'))) (.int r) := by
  obtain ⟨a', b', r, t', r0, r1, e⟩ := size_ok t h1 h2
  refine ⟨a', b', r, t', r0, r1, ?_⟩
  simp only [gCallT, h0, hg, Res.bind_ok, List.map_cons, List.map_nil, e, retT]
theorem stretch_ok {a b : Int} {m : Nat} (t : Tape a b) (h1 : 1 ≤ m) (h2 : m ≤ 6) : ∃ a' b' i j, Tape a' b' ∧ 0 ≤ i ∧ i ≤ j ∧ j < (m : Int) ∧ G__law_stretch [some (tapeD a b), some (.int m)] = .ok [some (tapeD a' b'), some (.int m)] (.tup [.int i, .int j]) := by
  obtain ⟨a1, b1, r1, t1, p1, q1, e1⟩ := pick_call (env := [some (tapeD a b), some (.int m), none, none, none]) (j := 0) (gs := TL.gCons (gVar 1) TL.gNil) t (n := m) (by omega) (by omega) rfl (var1 rfl)
  obtain ⟨a2, b2, r2, t2, p2, q2, e2⟩ := pick_call (env := [some (tapeD a1 b1), some (.int m), none, none, none]) (j := 0) (gs := TL.gCons (gVar 1) TL.gNil) t1 (n := m) (by omega) (by omega) rfl (var1 rfl)
  obtain ⟨a3, b3, r3, t3, p3, q3, e3⟩ := pick_call (env := [some (tapeD a2 b2), some (.int m), none, none, none]) (j := 0) (gs := TL.gCons (gC (.int 5)) TL.gNil) t2 (n := 5) (by omega) (by omega) rfl con1
  simp only [List.set_cons_zero] at e1 e2 e3
  have ar : TL.gCons (gCallT G__law_pick 0 (TL.gCons (gVar 1) TL.gNil)) (TL.gCons (gCallT G__law_pick 0 (TL.gCons (gVar 1) TL.gNil)) (TL.gCons (gCallT G__law_pick 0 (TL.gCons (gC (.int 5)) TL.gNil)) TL.gNil)) [some (tapeD a b), some (.int m), none, none, none] = .ok [some (tapeD a3 b3), some (.int m), none, none, none] [.int r1, .int r2, .int r3] := by
    simp only [TL.gCons, TL.gNil] at e1 e2 e3 ⊢
    simp [e1, e2, e3]
  have ps : gPar [2, 3, 4] (TL.gCons (gCallT G__law_pick 0 (TL.gCons (gVar 1) TL.gNil)) (TL.gCons (gCallT G__law_pick 0 (TL.gCons (gVar 1) TL.gNil)) (TL.gCons (gCallT G__law_pick 0 (TL.gCons (gC (.int 5)) TL.gNil)) TL.gNil))) [some (tapeD a b), some (.int m), none, none, none] = .next [some (tapeD a3 b3), some (.int m), some (.int r1), some (.int r2), some (.int r3)] := by
    simp [gPar, ar, putE]
  by_cases c1 : r3 < 2
  · refine ⟨a3, b3, 0, m - 1, t3, by omega, by omega, by omega, ?_⟩
    simp only [G__law_stretch, g__law_stretch, gFun, gSeq, List.length_cons, List.length_nil, Nat.reduceAdd, Nat.reduceSub, List.replicate, List.cons_append, List.nil_append, ps, SRes.bind_next]
    simp [gSeq, gRet, g2, gC, gIf, gIfE, gTest, gVar, lt_ok, eq_ok, sub_ok, c1, Res.ofO, TL.gTup, TL.gCons, TL.gNil, bigN, back]
  · by_cases c2 : r3 = 2
    · subst c2
      refine ⟨a3, b3, 0, r1, t3, by omega, by omega, by omega, ?_⟩
      simp only [G__law_stretch, g__law_stretch, gFun, gSeq, List.length_cons, List.length_nil, Nat.reduceAdd, Nat.reduceSub, List.replicate, List.cons_append, List.nil_append, ps, SRes.bind_next]
      simp [gSeq, gRet, g2, gC, gIf, gIfE, gTest, gVar, lt_ok, eq_ok, sub_ok, gNext, Res.ofO, TL.gTup, TL.gCons, TL.gNil, bigN, back]
    · by_cases c3 : r3 = 3
      · subst c3
        refine ⟨a3, b3, r1, m - 1, t3, by omega, by omega, by omega, ?_⟩
        simp only [G__law_stretch, g__law_stretch, gFun, gSeq, List.length_cons, List.length_nil, Nat.reduceAdd, Nat.reduceSub, List.replicate, List.cons_append, List.nil_append, ps, SRes.bind_next]
        simp [gSeq, gRet, g2, gC, gIf, gIfE, gTest, gVar, lt_ok, eq_ok, sub_ok, gNext, Res.ofO, TL.gTup, TL.gCons, TL.gNil, bigN, back]
      · by_cases c4 : r1 < r2
        · refine ⟨a3, b3, r1, r2, t3, by omega, by omega, by omega, ?_⟩
          simp only [G__law_stretch, g__law_stretch, gFun, gSeq, List.length_cons, List.length_nil, Nat.reduceAdd, Nat.reduceSub, List.replicate, List.cons_append, List.nil_append, ps, SRes.bind_next]
          simp [gSeq, gRet, g2, gC, gIf, gIfE, gTest, gVar, lt_ok, eq_ok, sub_ok, gNext, c1, c2, c3, c4, Res.ofO, TL.gTup, TL.gCons, TL.gNil, bigN, back]
        · refine ⟨a3, b3, r2, r1, t3, by omega, by omega, by omega, ?_⟩
          simp only [G__law_stretch, g__law_stretch, gFun, gSeq, List.length_cons, List.length_nil, Nat.reduceAdd, Nat.reduceSub, List.replicate, List.cons_append, List.nil_append, ps, SRes.bind_next]
          simp [gSeq, gRet, g2, gC, gIf, gIfE, gTest, gVar, lt_ok, eq_ok, sub_ok, gNext, c1, c2, c3, c4, Res.ofO, TL.gTup, TL.gCons, TL.gNil, bigN, back]
end
end P04

set_option Elab.async false
set_option linter.all false
set_option maxRecDepth 100000
set_option maxHeartbeats 1000000
namespace P04
open PySem PySem.Spec PyProof.Rows L2 TL
/-! ### loops and comprehensions that go along with a promise -/
theorem forG_inv {t : Tg} {body : GS} {P : Nat → TL.Env → Prop} : ∀ (ds : List D) (k : Nat) (env : TL.Env), (∀ i d env, ds[i]? = some d → P (k + i) env → ∃ env1 env', t.put env d = some env1 ∧ body env1 = .next env' ∧ P (k + i + 1) env') → P k env →
    ∃ env', forG t body ds env = .next env' ∧ P (k + ds.length) env'
  | [], k, env, _, p => ⟨env, rfl, p⟩
  | d :: ds, k, env, h, p => by
    obtain ⟨env1, env', e1, e2, p1⟩ := h 0 d env rfl p
    obtain ⟨env2, e3, p2⟩ := forG_inv ds (k + 1) env' (fun i x e hx q => by
      have := h (i + 1) x e (by simpa using hx) (by rw [show k + (i + 1) = k + 1 + i from by omega]; exact q)
      rw [show k + (i + 1) + 1 = k + 1 + i + 1 from by omega] at this
      exact this) p1
    refine ⟨env2, ?_, by rw [show k + (d :: ds).length = k + 1 + ds.length from by simp; omega]; exact p2⟩
    simp only [forG, e1, e2, e3]
theorem lcG_inv {i : Nat} {ge : TL.G} {P : TL.Env → Prop} {R : D → D → Prop} : ∀ (ds acc : List D) (env : TL.Env), (∀ d ∈ ds, ∀ env, P env → ∃ env' y, ge (env.set i (some d)) = .ok env' y ∧ P (env'.set i none) ∧ R d y) → acc.length + ds.length ≤ bigN → P env →
    ∃ env' ys, lcG [i] (.nm i) gYes ge ds env acc = .ok env' (acc ++ ys) ∧ P env' ∧ All2 R ds ys
  | [], acc, env, _, _, p => ⟨env, [], by simp [lcG], p, .nil⟩
  | d :: ds, acc, env, h, hl, p => by
    obtain ⟨env1, y, e1, p1, r1⟩ := h d List.mem_cons_self env p
    have h1 : acc.length < bigN := by simp at hl; omega
    obtain ⟨env2, ys, e2, p2, r2⟩ := lcG_inv ds (acc ++ [y]) (env1.set i none) (fun x hx => h x (List.mem_cons_of_mem _ hx)) (by simp at hl ⊢; omega) p1
    refine ⟨env2, y :: ys, ?_, p2, .cons r1 r2⟩
    unfold lcG
    simp only [Tg.put, gYes, e1, if_pos h1, wipeE, e2, List.append_assoc, List.singleton_append]
theorem gLc_inv {i : Nat} {gi : GI} {ge : TL.G} {env : TL.Env} {ds : List D} {P : TL.Env → Prop} {R : D → D → Prop} (hi : gi env = .ok env ds) (hn : env.set i none = env) (h : ∀ d ∈ ds, ∀ env, P env → ∃ env' y, ge (env.set i (some d)) = .ok env' y ∧ P (env'.set i none) ∧ R d y)
    (hl : ds.length ≤ bigN) (p : P env) : ∃ env' ys, gLc [i] (.nm i) gi gYes ge env = .ok (env'.set i (env.getD i none)) (.lst ys) ∧ P env' ∧ All2 R ds ys := by
  obtain ⟨env', ys, e, p', r⟩ := lcG_inv (i := i) (ge := ge) ds [] env h (by simpa using hl) p
  refine ⟨env', ys, ?_, p', r⟩
  unfold gLc
  rw [hi]
  simp only [Res.bind_ok, wipeE, hn, e, List.nil_append, unw]
/-! ### the grid -/
abbrev Good (x : D) : Prop := Num x ∧ asR x = x
theorem nrm_good {t u : Int} (h0 : 0 ≤ t) (h1 : t < 2 ^ 99) (u0 : 0 < u) (u1 : u < 2 ^ 99) : Good (nrm t u) := by
  have hg : 0 < Nat.gcd t.natAbs u.natAbs := Nat.gcd_pos_of_pos_right _ (by omega)
  have hd : ((Nat.gcd t.natAbs u.natAbs : Nat) : Int) ∣ u := by
    have := Nat.gcd_dvd_right t.natAbs u.natAbs
    exact Int.ofNat_dvd_left.mpr this
  show Num (rat (t / (Nat.gcd t.natAbs u.natAbs : Nat)) (u / (Nat.gcd t.natAbs u.natAbs : Nat))) ∧ asR (rat (t / (Nat.gcd t.natAbs u.natAbs : Nat)) (u / (Nat.gcd t.natAbs u.natAbs : Nat))) = rat (t / (Nat.gcd t.natAbs u.natAbs : Nat)) (u / (Nat.gcd t.natAbs u.natAbs : Nat))
  generalize Nat.gcd t.natAbs u.natAbs = g at *
  have a1 : t / (g : Int) ≤ t := Int.ediv_le_self _ h0
  have a2 : 0 ≤ t / (g : Int) := Int.ediv_nonneg h0 (by omega)
  have a3 : u / (g : Int) ≤ u := Int.ediv_le_self _ (by omega)
  have a4 : 0 < u / (g : Int) := by
    obtain ⟨c, hc⟩ := hd
    rw [hc, Int.mul_ediv_cancel_left _ (by omega)]
    rcases Int.lt_or_le 0 c with z | z
    · exact z
    · have : (g : Int) * c ≤ 0 := Int.mul_nonpos_of_nonneg_of_nonpos (by omega) z
      omega
  exact ⟨.rat _ _ a2 (by omega) a4 (by omega), rfl⟩
theorem rat0_good : Good (rat 0 1) := ⟨.rat 0 1 (by decide) (by decide) (by decide) (by decide), rfl⟩
theorem five {k : Int} (h0 : 0 ≤ k) (h1 : k < 5) : k = 0 ∨ k = 1 ∨ k = 2 ∨ k = 3 ∨ k = 4 := by omega
theorem ix5a {k : Int} (h0 : 0 ≤ k) (h1 : k < 5) : ∃ w, dIx (.lst [.int 3, .int 6, .int 12, .int 12, .int 12]) (.int k) = some (.int w) ∧ 1 ≤ w ∧ w ≤ 12 := by
  rcases five h0 h1 with rfl | rfl | rfl | rfl | rfl
  · exact ⟨3, rfl, by decide, by decide⟩
  · exact ⟨6, rfl, by decide, by decide⟩
  · exact ⟨12, rfl, by decide, by decide⟩
  · exact ⟨12, rfl, by decide, by decide⟩
  · exact ⟨12, rfl, by decide, by decide⟩
theorem ix5b {k u : Int} (h0 : 0 ≤ k) (h1 : k < 5) (u0 : 1 ≤ u) (u1 : u ≤ 4) : ∃ w, dIx (.lst [.int 1, .int 1, .int 3, .int u, .int 7]) (.int k) = some (.int w) ∧ 1 ≤ w ∧ w ≤ 7 := by
  rcases five h0 h1 with rfl | rfl | rfl | rfl | rfl
  · exact ⟨1, rfl, by decide, by decide⟩
  · exact ⟨1, rfl, by decide, by decide⟩
  · exact ⟨3, rfl, by decide, by decide⟩
  · exact ⟨u, rfl, u0, by omega⟩
  · exact ⟨7, rfl, by decide, by decide⟩
def gInner : GS := (gSeq (gSet 11 (gCallT G__law_pick 0 (TL.gCons (g2 dIx (TL.gLst (TL.gCons (gC (.int 3)) (TL.gCons (gC (.int 6)) (TL.gCons (gC (.int 12)) (TL.gCons (gC (.int 12)) (TL.gCons (gC (.int 12)) TL.gNil)))))) (gVar 5)) TL.gNil)))
    (gSeq (gSet 12 (g2 dIx (TL.gLst (TL.gCons (gC (.int 1)) (TL.gCons (gC (.int 1)) (TL.gCons (gC (.int 3)) (TL.gCons (g2 hAdd_i (gC (.int 1)) (g2 hMod_i (g2 hAdd_i (gVar 10) (g2 hMul_i (gC (.int 2)) (gVar 8))) (gC (.int 4)))) (TL.gCons (gC (.int 7)) TL.gNil)))))) (gVar 5)))
    (gApp 9 (gIfE (gTest (g2 hEq_i (gVar 8) (gVar 6))) (gMake 0 2 G_Ratiodd_initdd [.int 1] (TL.gCons (gC (.int 0)) TL.gNil)) (gMake 0 2 G_Ratiodd_initdd [] (TL.gCons (gIfE (gTest (g2 hEq_i (gVar 5) (gC (.int 4)))) (g2 hMul_i (gVar 11) (g2 hPow_i (gC (.int 10)) (gC (.int 9)))) (gVar 11)) (TL.gCons (gVar 12) TL.gNil)))))))
abbrev gE (a b many more kind idle : Int) (found : D) (y8 y9 y10 y11 y12 : Option D) : TL.Env := [some (tapeD a b), some (.int 4), some (.int 6), some (.int many), some (.int more), some (.int kind), some (.int idle), some found, y8, y9, y10, y11, y12]
theorem inner_ok {a b many more kind idle k j : Int} {found : D} {xs : List D} {y11 y12 : Option D} (t : Tape a b) (k0 : 0 ≤ kind) (k1 : kind < 5) (hk0 : 0 ≤ k) (hk1 : k < 100) (hj0 : 0 ≤ j) (hj1 : j < 100) (hl : xs.length < bigN) :
    ∃ a' b' x z11 z12, Tape a' b' ∧ Good x ∧ gInner (gE a b many more kind idle found (some (.int k)) (some (.lst xs)) (some (.int j)) y11 y12) = .next (gE a' b' many more kind idle found (some (.int k)) (some (.lst (xs ++ [x]))) (some (.int j)) z11 z12) := by
  obtain ⟨w, ew, w1, w2⟩ := ix5a k0 k1
  have hm : hMul_i (.int 2) (.int k) = some (.int (2 * k)) := mul_ok (by decide) (by omega)
  have hmd : hMod_i (.int (j + 2 * k)) (.int 4) = some (.int ((j + 2 * k) % 4)) := mod_ok (by decide)
  obtain ⟨u, eu, u1, u2⟩ := ix5b (u := 1 + (j + 2 * k) % 4) k0 k1 (by omega) (by omega)
  have g1 : TL.gCons (g2 dIx (TL.gLst (TL.gCons (gC (.int 3)) (TL.gCons (gC (.int 6)) (TL.gCons (gC (.int 12)) (TL.gCons (gC (.int 12)) (TL.gCons (gC (.int 12)) TL.gNil)))))) (gVar 5)) TL.gNil (gE a b many more kind idle found (some (.int k)) (some (.lst xs)) (some (.int j)) y11 y12) = .ok (gE a b many more kind idle found (some (.int k)) (some (.lst xs)) (some (.int j)) y11 y12) [.int w] := by
    simp [gSeq, gIf, gTest, g1, g2, gVar, gC, gRet, gNext, gSet, gF, gFP, TL.gCons, TL.gNil, gNot, gAnd, gOr, gAndV, gOrV, gNotV, gIsi, gCall, gMeth, gFld, gExp, gChain, gIfE, TL.gTup, TL.gLst, gSo, gSl, gRevL, gSeqI, Res.ofO, ret0, back, bigN, isPlainD, gFun, ew]
  obtain ⟨a', b', r, t', r0, r1, ep⟩ := pick_call (j := 0) t w1 (by omega) rfl g1
  simp only [List.set_cons_zero] at ep
  have s1 : gSet 11 (gCallT G__law_pick 0 (TL.gCons (g2 dIx (TL.gLst (TL.gCons (gC (.int 3)) (TL.gCons (gC (.int 6)) (TL.gCons (gC (.int 12)) (TL.gCons (gC (.int 12)) (TL.gCons (gC (.int 12)) TL.gNil)))))) (gVar 5)) TL.gNil)) (gE a b many more kind idle found (some (.int k)) (some (.lst xs)) (some (.int j)) y11 y12) = .next (gE a' b' many more kind idle found (some (.int k)) (some (.lst xs)) (some (.int j)) (some (.int r)) y12) := by
    unfold gSet
    rw [ep]
    rfl
  have s2 : gSet 12 (g2 dIx (TL.gLst (TL.gCons (gC (.int 1)) (TL.gCons (gC (.int 1)) (TL.gCons (gC (.int 3)) (TL.gCons (g2 hAdd_i (gC (.int 1)) (g2 hMod_i (g2 hAdd_i (gVar 10) (g2 hMul_i (gC (.int 2)) (gVar 8))) (gC (.int 4)))) (TL.gCons (gC (.int 7)) TL.gNil)))))) (gVar 5)) (gE a' b' many more kind idle found (some (.int k)) (some (.lst xs)) (some (.int j)) (some (.int r)) y12) = .next (gE a' b' many more kind idle found (some (.int k)) (some (.lst xs)) (some (.int j)) (some (.int r)) (some (.int u))) := by
    simp [gSeq, gIf, gTest, g1, g2, gVar, gC, gRet, gNext, gSet, gF, gFP, TL.gCons, TL.gNil, gNot, gAnd, gOr, gAndV, gOrV, gNotV, gIsi, gCall, gMeth, gFld, gExp, gChain, gIfE, TL.gTup, TL.gLst, gSo, gSl, gRevL, gSeqI, Res.ofO, ret0, back, bigN, isPlainD, gFun, hm, hmd, add_ok, eu]
  have hE : ∀ x, gIfE (gTest (g2 hEq_i (gVar 8) (gVar 6))) (gMake 0 2 G_Ratiodd_initdd [.int 1] (TL.gCons (gC (.int 0)) TL.gNil)) (gMake 0 2 G_Ratiodd_initdd [] (TL.gCons (gIfE (gTest (g2 hEq_i (gVar 5) (gC (.int 4)))) (g2 hMul_i (gVar 11) (g2 hPow_i (gC (.int 10)) (gC (.int 9)))) (gVar 11)) (TL.gCons (gVar 12) TL.gNil))) (gE a' b' many more kind idle found (some (.int k)) (some (.lst xs)) (some (.int j)) (some (.int r)) (some (.int u))) = .ok (gE a' b' many more kind idle found (some (.int k)) (some (.lst xs)) (some (.int j)) (some (.int r)) (some (.int u))) x →
      gInner (gE a b many more kind idle found (some (.int k)) (some (.lst xs)) (some (.int j)) y11 y12) = .next (gE a' b' many more kind idle found (some (.int k)) (some (.lst (xs ++ [x]))) (some (.int j)) (some (.int r)) (some (.int u))) := fun x e => by
    unfold gInner
    simp only [gSeq, s1, s2, SRes.bind_next]
    simp [gApp, e, hl]
  by_cases c : k = idle
  · refine ⟨a', b', rat 0 1, _, _, t', rat0_good, hE _ ?_⟩
    have := make1 (gs := TL.gCons (gC (.int 0)) TL.gNil) (env := gE a' b' many more kind idle found (some (.int k)) (some (.lst xs)) (some (.int j)) (some (.int r)) (some (.int u))) (t := 0) con1
    simp only [gIfE, gTest, g2]
    simp [gVar, eq_ok, c, Res.ofO]
    subst c
    exact this
  · have hp : hMul_i (.int r) (.int 1000000000) = some (.int (r * 1000000000)) := mul_ok (by omega) (by decide)
    by_cases d : kind = 4
    · have ag : TL.gCons (gIfE (gTest (g2 hEq_i (gVar 5) (gC (.int 4)))) (g2 hMul_i (gVar 11) (g2 hPow_i (gC (.int 10)) (gC (.int 9)))) (gVar 11)) (TL.gCons (gVar 12) TL.gNil) (gE a' b' many more kind idle found (some (.int k)) (some (.lst xs)) (some (.int j)) (some (.int r)) (some (.int u))) = .ok (gE a' b' many more kind idle found (some (.int k)) (some (.lst xs)) (some (.int j)) (some (.int r)) (some (.int u))) [.int (r * 1000000000), .int u] := by
        simp [gSeq, gIf, gTest, g1, g2, gVar, gC, gRet, gNext, gSet, gF, gFP, TL.gCons, TL.gNil, gNot, gAnd, gOr, gAndV, gOrV, gNotV, gIsi, gCall, gMeth, gFld, gExp, gChain, gIfE, TL.gTup, TL.gLst, gSo, gSl, gRevL, gSeqI, Res.ofO, ret0, back, bigN, isPlainD, gFun, eq_ok, d, pow9, hp]
      have mk := make2 (by omega) (by omega) ag
      refine ⟨a', b', nrm (r * 1000000000) u, _, _, t', nrm_good (by omega) (by omega) (by omega) (by omega), hE _ ?_⟩
      have ev : gTest (g2 hEq_i (gVar 8) (gVar 6)) (gE a' b' many more kind idle found (some (.int k)) (some (.lst xs)) (some (.int j)) (some (.int r)) (some (.int u))) = .ok (gE a' b' many more kind idle found (some (.int k)) (some (.lst xs)) (some (.int j)) (some (.int r)) (some (.int u))) false := by
        simp [gSeq, gIf, gTest, g1, g2, gVar, gC, gRet, gNext, gSet, gF, gFP, TL.gCons, TL.gNil, gNot, gAnd, gOr, gAndV, gOrV, gNotV, gIsi, gCall, gMeth, gFld, gExp, gChain, gIfE, TL.gTup, TL.gLst, gSo, gSl, gRevL, gSeqI, Res.ofO, ret0, back, bigN, isPlainD, gFun, eq_ok, c]
      unfold gIfE
      rw [ev]
      exact mk
    · have ag : TL.gCons (gIfE (gTest (g2 hEq_i (gVar 5) (gC (.int 4)))) (g2 hMul_i (gVar 11) (g2 hPow_i (gC (.int 10)) (gC (.int 9)))) (gVar 11)) (TL.gCons (gVar 12) TL.gNil) (gE a' b' many more kind idle found (some (.int k)) (some (.lst xs)) (some (.int j)) (some (.int r)) (some (.int u))) = .ok (gE a' b' many more kind idle found (some (.int k)) (some (.lst xs)) (some (.int j)) (some (.int r)) (some (.int u))) [.int r, .int u] := by
        simp [gSeq, gIf, gTest, g1, g2, gVar, gC, gRet, gNext, gSet, gF, gFP, TL.gCons, TL.gNil, gNot, gAnd, gOr, gAndV, gOrV, gNotV, gIsi, gCall, gMeth, gFld, gExp, gChain, gIfE, TL.gTup, TL.gLst, gSo, gSl, gRevL, gSeqI, Res.ofO, ret0, back, bigN, isPlainD, gFun, eq_ok, d]
      have mk := make2 (by omega) (by omega) ag
      refine ⟨a', b', nrm r u, _, _, t', nrm_good (by omega) (by omega) (by omega) (by omega), hE _ ?_⟩
      have ev : gTest (g2 hEq_i (gVar 8) (gVar 6)) (gE a' b' many more kind idle found (some (.int k)) (some (.lst xs)) (some (.int j)) (some (.int r)) (some (.int u))) = .ok (gE a' b' many more kind idle found (some (.int k)) (some (.lst xs)) (some (.int j)) (some (.int r)) (some (.int u))) false := by
        simp [gSeq, gIf, gTest, g1, g2, gVar, gC, gRet, gNext, gSet, gF, gFP, TL.gCons, TL.gNil, gNot, gAnd, gOr, gAndV, gOrV, gNotV, gIsi, gCall, gMeth, gFld, gExp, gChain, gIfE, TL.gTup, TL.gLst, gSo, gSl, gRevL, gSeqI, Res.ofO, ret0, back, bigN, isPlainD, gFun, eq_ok, c]
      unfold gIfE
      rw [ev]
      exact mk

def gOuter : GS := (gSeq (gSet 9 (TL.gLst TL.gNil)) (gSeq (gFor (.nm 10) (gRangeI (TL.gCons (gVar 4) TL.gNil)) gInner) (gApp 7 (gVar 9))))
theorem g_grid : g__law_grid = (gSeq (gPar [3, 4] (TL.gCons (gCallT G__law_size 0 (TL.gCons (gVar 1) TL.gNil)) (TL.gCons (gCallT G__law_size 0 (TL.gCons (gVar 2) TL.gNil)) TL.gNil)))
    (gSeq (gPar [5, 6] (TL.gCons (gCallT G__law_pick 0 (TL.gCons (gC (.int 5)) TL.gNil)) (TL.gCons (gCallT G__law_pick 0 (TL.gCons (gC (.int 30)) TL.gNil)) TL.gNil)))
    (gSeq (gSet 7 (TL.gLst TL.gNil)) (gSeq (gFor (.nm 8) (gRangeI (TL.gCons (gVar 3) TL.gNil)) gOuter) (gRet (gVar 7)))))) := rfl
theorem range1 {env : TL.Env} {gs : GA} {k : Int} (h : gs env = .ok env [.int k]) (h0 : 0 ≤ k) (h1 : k < 1000) : gRangeI gs env = .ok env (rangeD 0 k.toNat) := by
  unfold gRangeI
  rw [h]
  simp only [Res.bind_ok]
  rw [if_pos ⟨by omega, by omega⟩]
theorem rangeD_get {n i : Nat} {d : D} (h : (rangeD 0 n)[i]? = some d) : d = .int i ∧ i < n := by
  unfold rangeD at h
  rw [List.getElem?_map] at h
  by_cases hi : i < n
  · rw [List.getElem?_range hi] at h
    simp at h
    exact ⟨h.symm, hi⟩
  · rw [List.getElem?_eq_none (by simpa using hi)] at h
    cases h
end P04

set_option Elab.async false
set_option linter.all false
set_option maxRecDepth 100000
set_option maxHeartbeats 1000000
namespace P04
open PySem PySem.Spec PyProof.Rows L2 TL
theorem con1' {env env' : TL.Env} {g : TL.G} {d : D} (h : g env = .ok env' d) : TL.gCons g TL.gNil env = .ok env' [d] := by simp [TL.gCons, TL.gNil, h]
theorem con2 {env env1 env2 : TL.Env} {g : TL.G} {gs : GA} {d : D} {ds : List D} (h : g env = .ok env1 d) (h2 : gs env1 = .ok env2 ds) : TL.gCons g gs env = .ok env2 (d :: ds) := by simp [TL.gCons, h, h2]
theorem seq_next {a b : GS} {env env1 : TL.Env} (h : a env = .next env1) : gSeq a b env = b env1 := by simp [gSeq, h]
theorem fun_ret {pm : List Mode} {n : Nat} {g : GS} {env0 env' : TL.Env} {d : D} (h : g (env0 ++ List.replicate (n - env0.length) none) = .ret env' d) : gFun pm n g env0 = .ok (back pm 0 env0 env') d := by
  unfold gFun
  rw [h]
theorem outer_ok {a b many kind idle k : Int} {m : Nat} {rows : List (List D)} {y9 y10 y11 y12 : Option D} (t : Tape a b) (k0 : 0 ≤ kind) (k1 : kind < 5) (hk0 : 0 ≤ k) (hk1 : k < 100) (hm : m ≤ 6) (hl : rows.length < bigN) :
    ∃ a' b' r z9 z10 z11 z12, Tape a' b' ∧ r.length = m ∧ (∀ x ∈ r, Good x) ∧ gOuter (gE a b many m kind idle (rowsD rows) (some (.int k)) y9 y10 y11 y12) = .next (gE a' b' many m kind idle (rowsD (rows ++ [r])) (some (.int k)) z9 z10 z11 z12) := by
  have s1 : gSet 9 (TL.gLst TL.gNil) (gE a b many m kind idle (rowsD rows) (some (.int k)) y9 y10 y11 y12) = .next (gE a b many m kind idle (rowsD rows) (some (.int k)) (some (.lst [])) y10 y11 y12) := by simp [gSeq, gIf, gTest, g1, g2, gVar, gC, gRet, gNext, gSet, gF, gFP, TL.gCons, TL.gNil, gNot, gAnd, gOr, gAndV, gOrV, gNotV, gIsi, gCall, gMeth, gFld, gExp, gChain, gIfE, TL.gTup, TL.gLst, gSo, gSl, gRevL, gSeqI, Res.ofO, ret0, back, bigN, isPlainD, gFun]
  obtain ⟨env', ef, a', b', xs, z10, z11, z12, t', he, hx, hg⟩ := forG_inv (t := .nm 10) (body := gInner) (P := fun i env => ∃ a b xs z10 z11 z12, Tape a b ∧ env = gE a b many m kind idle (rowsD rows) (some (.int k)) (some (.lst xs)) z10 z11 z12 ∧ xs.length = i ∧ ∀ x ∈ xs, Good x) (rangeD 0 m) 0
    (gE a b many m kind idle (rowsD rows) (some (.int k)) (some (.lst [])) y10 y11 y12) (fun i d env hd ⟨a, b, xs, z10, z11, z12, t, he, hx, hg⟩ => by
      obtain ⟨rfl, hi⟩ := rangeD_get hd
      subst he
      obtain ⟨a', b', x, w11, w12, t', gx, e⟩ := inner_ok (many := many) (more := m) (idle := idle) (found := rowsD rows) (xs := xs) (j := i) (y11 := z11) (y12 := z12) t k0 k1 hk0 hk1 (by omega) (by omega) (by unfold bigN; omega)
      refine ⟨_, _, rfl, e, a', b', xs ++ [x], _, _, _, t', rfl, by simp [hx], fun y hy => ?_⟩
      rcases List.mem_append.mp hy with z | z
      · exact hg y z
      · have : y = x := by simpa using z
        rw [this]; exact gx) ⟨a, b, [], _, _, _, t, rfl, rfl, by simp⟩
  subst he
  rw [rangeD_length] at hx
  have s2 : gFor (.nm 10) (gRangeI (TL.gCons (gVar 4) TL.gNil)) gInner (gE a b many m kind idle (rowsD rows) (some (.int k)) (some (.lst [])) y10 y11 y12) = .next (gE a' b' many m kind idle (rowsD rows) (some (.int k)) (some (.lst xs)) z10 z11 z12) := by
    unfold gFor
    rw [range1 (k := m) (var1 rfl) (by omega) (by omega)]
    exact ef
  refine ⟨a', b', xs, some (.lst xs), z10, z11, z12, t', by omega, hg, ?_⟩
  rw [gOuter, seq_next s1, seq_next s2]
  have hl' : (rows.map D.lst).length < bigN := by rw [List.length_map]; exact hl
  have e9 : gVar 9 (gE a' b' many m kind idle (rowsD rows) (some (.int k)) (some (.lst xs)) z10 z11 z12) = .ok (gE a' b' many m kind idle (rowsD rows) (some (.int k)) (some (.lst xs)) z10 z11 z12) (.lst xs) := rfl
  have e7 : (gE a' b' many m kind idle (rowsD rows) (some (.int k)) (some (.lst xs)) z10 z11 z12)[7]? = some (some (.lst (rows.map D.lst))) := rfl
  unfold gApp
  simp only [e7, e9, Res.to_ok]
  rw [if_pos hl']
  simp [rowsD]
theorem grid_ok {a b : Int} (t : Tape a b) : ∃ a' b' rows n m, Tape a' b' ∧ Grid rows n m ∧ G__law_grid [some (tapeD a b), some (.int 4), some (.int 6)] = .ok [some (tapeD a' b'), some (.int 4), some (.int 6)] (rowsD rows) := by
  obtain ⟨a1, b1, r1, t1, p1, q1, e1⟩ := size_call (env := [some (tapeD a b), some (.int 4), some (.int 6), none, none, none, none, none, none, none, none, none, none]) (j := 0) (gs := TL.gCons (gVar 1) TL.gNil) t (n := 4) (by omega) (by omega) rfl (var1 rfl)
  obtain ⟨a2, b2, r2, t2, p2, q2, e2⟩ := size_call (env := [some (tapeD a1 b1), some (.int 4), some (.int 6), none, none, none, none, none, none, none, none, none, none]) (j := 0) (gs := TL.gCons (gVar 2) TL.gNil) t1 (n := 6) (by omega) (by omega) rfl (var1 rfl)
  simp only [List.set_cons_zero] at e1 e2
  obtain ⟨n, rfl⟩ : ∃ n : Nat, r1 = n := ⟨r1.toNat, by omega⟩
  obtain ⟨m, rfl⟩ : ∃ m : Nat, r2 = m := ⟨r2.toNat, by omega⟩
  obtain ⟨a3, b3, kind, t3, p3, q3, e3⟩ := pick_call (env := [some (tapeD a2 b2), some (.int 4), some (.int 6), some (.int n), some (.int m), none, none, none, none, none, none, none, none]) (j := 0) (gs := TL.gCons (gC (.int 5)) TL.gNil) t2 (n := 5) (by omega) (by omega) rfl con1
  obtain ⟨a4, b4, idle, t4, p4, q4, e4⟩ := pick_call (env := [some (tapeD a3 b3), some (.int 4), some (.int 6), some (.int n), some (.int m), none, none, none, none, none, none, none, none]) (j := 0) (gs := TL.gCons (gC (.int 30)) TL.gNil) t3 (n := 30) (by omega) (by omega) rfl con1
  simp only [List.set_cons_zero] at e3 e4
  have s1 : gPar [3, 4] (TL.gCons (gCallT G__law_size 0 (TL.gCons (gVar 1) TL.gNil)) (TL.gCons (gCallT G__law_size 0 (TL.gCons (gVar 2) TL.gNil)) TL.gNil)) [some (tapeD a b), some (.int 4), some (.int 6), none, none, none, none, none, none, none, none, none, none] = .next [some (tapeD a2 b2), some (.int 4), some (.int 6), some (.int n), some (.int m), none, none, none, none, none, none, none, none] := by
    rw [gPar, con2 e1 (con1' e2)]
    rfl
  have s2 : gPar [5, 6] (TL.gCons (gCallT G__law_pick 0 (TL.gCons (gC (.int 5)) TL.gNil)) (TL.gCons (gCallT G__law_pick 0 (TL.gCons (gC (.int 30)) TL.gNil)) TL.gNil)) [some (tapeD a2 b2), some (.int 4), some (.int 6), some (.int n), some (.int m), none, none, none, none, none, none, none, none] = .next [some (tapeD a4 b4), some (.int 4), some (.int 6), some (.int n), some (.int m), some (.int kind), some (.int idle), none, none, none, none, none, none] := by
    rw [gPar, con2 e3 (con1' e4)]
    rfl
  have s3 : gSet 7 (TL.gLst TL.gNil) [some (tapeD a4 b4), some (.int 4), some (.int 6), some (.int n), some (.int m), some (.int kind), some (.int idle), none, none, none, none, none, none] = .next (gE a4 b4 n m kind idle (rowsD []) none none none none none) := by simp [gSeq, gIf, gTest, g1, g2, gVar, gC, gRet, gNext, gSet, gF, gFP, TL.gCons, TL.gNil, gNot, gAnd, gOr, gAndV, gOrV, gNotV, gIsi, gCall, gMeth, gFld, gExp, gChain, gIfE, TL.gTup, TL.gLst, gSo, gSl, gRevL, gSeqI, Res.ofO, ret0, back, bigN, isPlainD, gFun, rowsD]
  obtain ⟨env', ef, a', b', rows, z8, z9, z10, z11, z12, t', he, hx, hg⟩ := forG_inv (t := .nm 8) (body := gOuter) (P := fun i env => ∃ a b rows z8 z9 z10 z11 z12, Tape a b ∧ env = gE a b n m kind idle (rowsD rows) z8 z9 z10 z11 z12 ∧ rows.length = i ∧ ∀ r ∈ rows, r.length = m ∧ ∀ x ∈ r, Good x) (rangeD 0 n) 0
    (gE a4 b4 n m kind idle (rowsD []) none none none none none) (fun i d env hd ⟨a, b, rows, z8, z9, z10, z11, z12, t, he, hx, hg⟩ => by
      obtain ⟨rfl, hi⟩ := rangeD_get hd
      subst he
      obtain ⟨a', b', r, w9, w10, w11, w12, t', hr, gr, e⟩ := outer_ok (many := n) (idle := idle) (m := m) (rows := rows) (k := i) (y9 := z9) (y10 := z10) (y11 := z11) (y12 := z12) t p3 q3 (by omega) (by omega) (by omega) (by unfold bigN; omega)
      refine ⟨_, _, rfl, e, a', b', rows ++ [r], _, _, _, _, _, t', rfl, by simp [hx], fun y hy => ?_⟩
      rcases List.mem_append.mp hy with z | z
      · exact hg y z
      · have : y = r := by simpa using z
        rw [this]; exact ⟨hr, gr⟩) ⟨a4, b4, [], _, _, _, _, _, t4, rfl, rfl, by simp⟩
  subst he
  rw [rangeD_length] at hx
  have s4 : gFor (.nm 8) (gRangeI (TL.gCons (gVar 3) TL.gNil)) gOuter (gE a4 b4 n m kind idle (rowsD []) none none none none none) = .next (gE a' b' n m kind idle (rowsD rows) z8 z9 z10 z11 z12) := by
    unfold gFor
    rw [range1 (k := n) (var1 rfl) (by omega) (by omega)]
    exact ef
  refine ⟨a', b', rows, n, m, t', ⟨by omega, by omega, by omega, by omega, by omega, fun r hr => (hg r hr).1, fun r hr x hx => ((hg r hr).2 x hx).1, fun r hr x hx => ((hg r hr).2 x hx).2⟩, ?_⟩
  refine fun_ret (env' := gE a' b' n m kind idle (rowsD rows) z8 z9 z10 z11 z12) ?_
  rw [g_grid]
  show gSeq _ _ [some (tapeD a b), some (.int 4), some (.int 6), none, none, none, none, none, none, none, none, none, none] = _
  rw [seq_next s1, seq_next s2, seq_next s3, seq_next s4]
  rfl
end P04

set_option Elab.async false
set_option linter.all false
set_option maxRecDepth 100000
set_option maxHeartbeats 1000000
namespace P04
open PySem PySem.Spec PyProof.Rows L2 TL
/-! ### the tape -/
abbrev scr (ns : List Int) : D := .part 63 (ns.map .int)
theorem tape_ok {ns : List Int} {k : Int} (h0 : 0 ≤ k) (h1 : k < 2) : ∃ a b, Tape a b ∧ G__law_tape [some (scr ns), some (.int k)] = .ok [some (scr ns), some (.int k)] (tapeD a b) := by
  have hl : dLen [scr ns] = some (.int ns.length) := by simp [dLen]
  have hm : hMul_i (.int 7919) (.int k) = some (.int (7919 * k)) := mul_ok (by decide) (by omega)
  by_cases c : k < ns.length
  · obtain ⟨z, hz⟩ : ∃ z, dIx (scr ns) (.int k) = some (.int z) := by
      have hk : k.toNat < ns.length := by omega
      refine ⟨ns[k.toNat], ?_⟩
      show atI (ns.map D.int) k = _
      unfold atI ixN
      rw [if_pos h0, if_pos (by simp; omega)]
      simp [hk]
    refine ⟨if z < 0 then -z else z, 7919 * k + 15485863, ⟨by split <;> omega, by omega, by omega⟩, ?_⟩
    simp [G__law_tape, g__law_tape, gSeq, gIf, gTest, g1, g2, gVar, gC, gRet, gNext, gSet, gF, gFP, TL.gCons, TL.gNil, gNot, gAnd, gOr, gAndV, gOrV, gNotV, gIsi, gCall, gMeth, gFld, gExp, gChain, gIfE, TL.gTup, TL.gLst, gSo, gSl, gRevL, gSeqI, Res.ofO, ret0, back, bigN, isPlainD, gFun, hl, lt_ok, c, hz, hm, add_ok, dAbs]
  · refine ⟨0, 7919 * k + 15485863, ⟨by omega, by omega, by omega⟩, ?_⟩
    simp [G__law_tape, g__law_tape, gSeq, gIf, gTest, g1, g2, gVar, gC, gRet, gNext, gSet, gF, gFP, TL.gCons, TL.gNil, gNot, gAnd, gOr, gAndV, gOrV, gNotV, gIsi, gCall, gMeth, gFld, gExp, gChain, gIfE, TL.gTup, TL.gLst, gSo, gSl, gRevL, gSeqI, Res.ofO, ret0, back, bigN, isPlainD, gFun, hl, lt_ok, c, hm, add_ok, dAbs]
/-! ### the line made -/
theorem line_make' {rows : List (List D)} {d : D} (h : Tab rows d) {g : TL.G} {env env' : TL.Env} (e : g env = .ok env' d) : gMake 1 1 G_Linedd_initdd [] (TL.gCons g TL.gNil) env = .ok env' (lineD (rows.map (·.map asR))) := by
  have l := line_init h
  simp only [gMake, TL.gCons, TL.gNil, e, Res.bind_ok, List.append_nil, List.map_cons, List.map_nil, l, retM]
  simp [lineD]
abbrev ItR (x y : D) : Prop := Num y ∧ asR y = x
def RowR (r : List D) (x : D) : Prop := ∃ q, Sq q x ∧ All2 ItR r q
def gElt : TL.G := (gIfE (gAnd (gTest (g2 hEq_i (gPrp 0 G_Ratio_bottom (gVar 5)) (gC (.int 1)))) (gTest (g2 hEq_i (gCallT G__law_pick 0 (TL.gCons (gC (.int 2)) TL.gNil)) (gC (.int 0))))) (gPrp 0 G_Ratio_top (gVar 5)) (gVar 5))
def gMadeB : GS := (gSeq (gSet 4 (gLc [5] (.nm 5) (gSeqI (gVar 3)) gYes gElt))
    (gApp 2 (gIfE (gTest (g2 hGt_i (gCallT G__law_pick 0 (TL.gCons (gC (.int 3)) TL.gNil)) (gC (.int 0)))) (gVar 4) (gF dTuple (TL.gCons (gVar 4) TL.gNil)))))
theorem g_made : g__law_made = (gSeq (gSet 2 (TL.gLst TL.gNil)) (gSeq (gFor (.nm 3) (gSeqI (gVar 1)) gMadeB)
    (gRet (gMake 1 1 G_Linedd_initdd [] (TL.gCons (gIfE (gTest (g2 hGt_i (gCallT G__law_pick 0 (TL.gCons (gC (.int 4)) TL.gNil)) (gC (.int 0)))) (gVar 2) (gF dTuple (TL.gCons (gVar 2) TL.gNil))) TL.gNil))))) := rfl
abbrev mE (a b : Int) (grid found : D) (y3 y4 y5 : Option D) : TL.Env := [some (tapeD a b), some grid, some found, y3, y4, y5]
theorem prp_bot {env : TL.Env} {i : Nat} {t b : Int} (h : env[i]? = some (some (rat t b))) : gPrp 0 G_Ratio_bottom (gVar i) env = .ok env (.int b) := by
  have e : G_Ratio_bottom [some (rat t b)] = .ok [some (rat t b)] (.int b) := rfl
  simp only [rat] at e h
  simp [gPrp, gVar, h, e, ans]
theorem prp_top {env : TL.Env} {i : Nat} {t b : Int} (h : env[i]? = some (some (rat t b))) : gPrp 0 G_Ratio_top (gVar i) env = .ok env (.int t) := by
  have e : G_Ratio_top [some (rat t b)] = .ok [some (rat t b)] (.int t) := rfl
  simp only [rat] at e h
  simp [gPrp, gVar, h, e, ans]
theorem elt_ok {a b : Int} {grid found x : D} {y3 y4 : Option D} (t : Tape a b) (g : Good x) : ∃ a' b' y, Tape a' b' ∧ ItR x y ∧ gElt (mE a b grid found y3 y4 (some x)) = .ok (mE a' b' grid found y3 y4 (some x)) y := by
  obtain ⟨p, q, rfl, p0, p1, q0, q1⟩ := num_rat g.1 g.2
  have eb := prp_bot (env := mE a b grid found y3 y4 (some (rat p q))) (i := 5) (t := p) (b := q) rfl
  by_cases hq : q = 1
  · subst hq
    obtain ⟨a', b', r, t', r0, r1, ep⟩ := pick_call (env := mE a b grid found y3 y4 (some (rat p 1))) (j := 0) (gs := TL.gCons (gC (.int 2)) TL.gNil) t (n := 2) (by omega) (by omega) rfl con1
    simp only [List.set_cons_zero] at ep
    have et := prp_top (env := mE a' b' grid found y3 y4 (some (rat p 1))) (i := 5) (t := p) (b := 1) rfl
    have t1 : gTest (g2 hEq_i (gPrp 0 G_Ratio_bottom (gVar 5)) (gC (.int 1))) (mE a b grid found y3 y4 (some (rat p 1))) = .ok (mE a b grid found y3 y4 (some (rat p 1))) true := by
      simp only [gTest, g2, eb, Res.bind_ok, gC, eq_ok, Res.ofO]; rfl
    have t2 : gTest (g2 hEq_i (gCallT G__law_pick 0 (TL.gCons (gC (.int 2)) TL.gNil)) (gC (.int 0))) (mE a b grid found y3 y4 (some (rat p 1))) = .ok (mE a' b' grid found y3 y4 (some (rat p 1))) (r == 0) := by
      unfold gTest g2
      rw [ep]
      simp only [Res.bind_ok, gC, eq_ok, Res.ofO]
    have t3 : gAnd (gTest (g2 hEq_i (gPrp 0 G_Ratio_bottom (gVar 5)) (gC (.int 1)))) (gTest (g2 hEq_i (gCallT G__law_pick 0 (TL.gCons (gC (.int 2)) TL.gNil)) (gC (.int 0)))) (mE a b grid found y3 y4 (some (rat p 1))) = .ok (mE a' b' grid found y3 y4 (some (rat p 1))) (r == 0) := by
      unfold gAnd
      rw [t1]
      simp only [Res.bind_ok, if_true, t2]
    by_cases hr : r = 0
    · refine ⟨a', b', .int p, t', ⟨.int p p0 p1, rfl⟩, ?_⟩
      unfold gElt gIfE
      rw [t3]
      subst hr
      exact et
    · refine ⟨a', b', rat p 1, t', ⟨g.1, g.2⟩, ?_⟩
      unfold gElt gIfE
      rw [t3]
      have : (r == 0) = false := by simpa using hr
      simp only [Res.bind_ok, this]
      rfl
  · refine ⟨a, b, rat p q, t, ⟨g.1, g.2⟩, ?_⟩
    have t1 : gTest (g2 hEq_i (gPrp 0 G_Ratio_bottom (gVar 5)) (gC (.int 1))) (mE a b grid found y3 y4 (some (rat p q))) = .ok (mE a b grid found y3 y4 (some (rat p q))) false := by
      have : (q == 1) = false := by simpa using hq
      simp only [gTest, g2, eb, Res.bind_ok, gC, eq_ok, Res.ofO, this]
    unfold gElt gIfE gAnd
    rw [t1]
    rfl
theorem all2_take {α β : Type} {R : α → β → Prop} {xs : List α} {ys : List β} {i : Nat} {x : α} {y : β} (h : All2 R (xs.take i) ys) (hx : xs[i]? = some x) (r : R x y) : All2 R (xs.take (i + 1)) (ys ++ [y]) := by
  have e : xs.take (i + 1) = xs.take i ++ [x] := by
    rw [List.take_add_one, hx]
    rfl
  rw [e]
  generalize xs.take i = zs at h
  induction h with
  | nil => exact .cons r .nil
  | cons a t ih => exact .cons a ih
theorem tup_or {a b : Int} {env env' : TL.Env} {i : Nat} {n r : Int} {ds : List D} (ep : gCallT G__law_pick 0 (TL.gCons (gC (.int n)) TL.gNil) env = .ok env' (.int r)) (h : env'[i]? = some (some (.lst ds))) :
    ∃ x, Sq ds x ∧ gIfE (gTest (g2 hGt_i (gCallT G__law_pick 0 (TL.gCons (gC (.int n)) TL.gNil)) (gC (.int 0)))) (gVar i) (gF dTuple (TL.gCons (gVar i) TL.gNil)) env = .ok env' x := by
  have t1 : gTest (g2 hGt_i (gCallT G__law_pick 0 (TL.gCons (gC (.int n)) TL.gNil)) (gC (.int 0))) env = .ok env' (decide (0 < r)) := by
    unfold gTest g2
    rw [ep]
    simp only [Res.bind_ok, gC, gt_ok, Res.ofO]
  by_cases c : 0 < r
  · refine ⟨.lst ds, .lst, ?_⟩
    unfold gIfE
    rw [t1]
    simp [c, gVar, h]
  · refine ⟨.tup ds, .tup, ?_⟩
    unfold gIfE
    rw [t1]
    simp [c, gVar, h, gF, TL.gCons, TL.gNil, dTuple, Res.ofO]
theorem madeB_ok {a b : Int} {grid : D} {ds r : List D} {y4 : Option D} (t : Tape a b) (g : ∀ x ∈ r, Good x) (hr : r.length ≤ 6) (hd : ds.length < bigN) :
    ∃ a' b' x z4, Tape a' b' ∧ RowR r x ∧ gMadeB (mE a b grid (.lst ds) (some (.lst r)) y4 none) = .next (mE a' b' grid (.lst (ds ++ [x])) (some (.lst r)) z4 none) := by
  obtain ⟨env', ys, ec, ⟨a1, b1, t1, he⟩, hy⟩ := gLc_inv (i := 5) (gi := gSeqI (gVar 3)) (ge := gElt) (env := mE a b grid (.lst ds) (some (.lst r)) y4 none) (ds := r) (P := fun env => ∃ a b, Tape a b ∧ env = mE a b grid (.lst ds) (some (.lst r)) y4 none) (R := ItR) rfl rfl
    (fun x hx env ⟨a, b, t, he⟩ => by
      subst he
      obtain ⟨a', b', y, t', ry, e⟩ := elt_ok (grid := grid) (found := .lst ds) (y3 := some (.lst r)) (y4 := y4) t (g x hx)
      exact ⟨_, y, e, ⟨a', b', t', rfl⟩, ry⟩) (by unfold bigN; omega) ⟨a, b, t, rfl⟩
  subst he
  have s1 : gSet 4 (gLc [5] (.nm 5) (gSeqI (gVar 3)) gYes gElt) (mE a b grid (.lst ds) (some (.lst r)) y4 none) = .next (mE a1 b1 grid (.lst ds) (some (.lst r)) (some (.lst ys)) none) := by
    unfold gSet
    rw [ec]
    rfl
  obtain ⟨a2, b2, p, t2, p0, p1, ep⟩ := pick_call (env := mE a1 b1 grid (.lst ds) (some (.lst r)) (some (.lst ys)) none) (j := 0) (gs := TL.gCons (gC (.int 3)) TL.gNil) t1 (n := 3) (by omega) (by omega) rfl con1
  simp only [List.set_cons_zero] at ep
  obtain ⟨x, hx, ex⟩ := tup_or (a := 0) (b := 0) (i := 4) ep rfl
  refine ⟨a2, b2, x, some (.lst ys), t2, ⟨ys, hx, hy⟩, ?_⟩
  rw [gMadeB, seq_next s1]
  unfold gApp
  simp only [List.getElem?_cons_succ, List.getElem?_cons_zero, ex, Res.to_ok]
  rw [if_pos hd]
  rfl
theorem rowR_all {rows : List (List D)} {ds : List D} (h : All2 RowR rows ds) : ∃ qs, All2 Sq qs ds ∧ All2 (fun r q => All2 ItR r q) rows qs := by
  induction h with
  | nil => exact ⟨[], .nil, .nil⟩
  | cons a t ih =>
    obtain ⟨qs, h1, h2⟩ := ih
    obtain ⟨q, hq, hi⟩ := a
    exact ⟨q :: qs, .cons hq h1, .cons hi h2⟩
theorem itR_map {r q : List D} (h : All2 ItR r q) : q.map asR = r := by
  induction h with
  | nil => rfl
  | cons a t ih => rw [List.map_cons, a.2, ih]
theorem itR_num {r q : List D} (h : All2 ItR r q) : ∀ y ∈ q, Num y := by
  induction h with
  | nil => intro y hy; cases hy
  | cons a t ih =>
    intro y hy
    rcases List.mem_cons.mp hy with e | e
    · subst e; exact a.1
    · exact ih y e
theorem itRs_map {rows qs : List (List D)} (h : All2 (fun r q => All2 ItR r q) rows qs) : qs.map (·.map asR) = rows := by
  induction h with
  | nil => rfl
  | cons a t ih => rw [List.map_cons, itR_map a, ih]
theorem tab_of {rows : List (List D)} {n m : Nat} {ds : List D} {d : D} (g : Grid rows n m) (h : All2 RowR rows ds) (hd : Sq ds d) : ∃ qs, Tab qs d ∧ qs.map (·.map asR) = rows := by
  obtain ⟨qs, h1, h2⟩ := rowR_all h
  have hl := All2.length h2
  have gl := g.len
  refine ⟨qs, ⟨⟨ds, hd, h1⟩, by have := g.n1; omega, by have := g.n4; omega, ⟨m, g.m1, g.m6, fun q hq => ?_⟩, fun q hq => ?_⟩, itRs_map h2⟩
  · obtain ⟨r, hr, hi⟩ := forall2_mem h2 q hq
    rw [← All2.length hi]
    exact g.row r hr
  · obtain ⟨r, hr, hi⟩ := forall2_mem h2 q hq
    exact itR_num hi
theorem made_ok {a b : Int} {rows : List (List D)} {n m : Nat} (t : Tape a b) (g : Grid rows n m) : ∃ a' b', Tape a' b' ∧ G__law_made [some (tapeD a b), some (rowsD rows)] = .ok [some (tapeD a' b'), some (rowsD rows)] (lineD rows) := by
  have n4 := g.n4
  have gl := g.len
  have s1 : gSet 2 (TL.gLst TL.gNil) [some (tapeD a b), some (rowsD rows), none, none, none, none] = .next (mE a b (rowsD rows) (.lst []) none none none) := by simp [gSeq, gIf, gTest, g1, g2, gVar, gC, gRet, gNext, gSet, gF, gFP, TL.gCons, TL.gNil, gNot, gAnd, gOr, gAndV, gOrV, gNotV, gIsi, gCall, gMeth, gFld, gExp, gChain, gIfE, TL.gTup, TL.gLst, gSo, gSl, gRevL, gSeqI, Res.ofO, ret0, back, bigN, isPlainD, gFun]
  obtain ⟨env', ef, a1, b1, ds, z3, z4, t1, he, hx⟩ := forG_inv (t := .nm 3) (body := gMadeB) (P := fun i env => ∃ a b ds z3 z4, Tape a b ∧ env = mE a b (rowsD rows) (.lst ds) z3 z4 none ∧ All2 RowR (rows.take i) ds) (rows.map D.lst) 0
    (mE a b (rowsD rows) (.lst []) none none none) (fun i d env hd ⟨a, b, ds, z3, z4, t, he, hx⟩ => by
      rw [List.getElem?_map] at hd
      cases hr : rows[i]? with
      | none => rw [hr] at hd; cases hd
      | some r =>
        rw [hr] at hd
        cases hd
        subst he
        have hm := List.mem_of_getElem? hr
        have hi : i < rows.length := (List.getElem?_eq_some_iff.mp hr).1
        have hlen := All2.length hx
        rw [List.length_take] at hlen
        obtain ⟨a', b', x, w4, t', rx, e⟩ := madeB_ok (grid := rowsD rows) (ds := ds) (r := r) (y4 := z4) t (fun x hx => ⟨g.nums r hm x hx, g.rats r hm x hx⟩) (by rw [g.row r hm]; exact g.m6) (by unfold bigN; omega)
        refine ⟨_, _, rfl, e, a', b', ds ++ [x], _, _, t', rfl, ?_⟩
        have hx' : All2 RowR (rows.take i) ds := by simpa using hx
        have := all2_take hx' hr rx
        simpa using this) ⟨a, b, [], _, _, t, rfl, by simp; exact .nil⟩
  subst he
  have hx' : All2 RowR rows ds := by
    have : rows.take (0 + (rows.map D.lst).length) = rows := by simp
    rwa [this] at hx
  have s2 : gFor (.nm 3) (gSeqI (gVar 1)) gMadeB (mE a b (rowsD rows) (.lst []) none none none) = .next (mE a1 b1 (rowsD rows) (.lst ds) z3 z4 none) := by
    unfold gFor
    rw [seqI_rows (rows := rows) (ge := gVar 1) (env := mE a b (rowsD rows) (.lst []) none none none) rfl]
    exact ef
  obtain ⟨a2, b2, p, t2, p0, p1, ep⟩ := pick_call (env := mE a1 b1 (rowsD rows) (.lst ds) z3 z4 none) (j := 0) (gs := TL.gCons (gC (.int 4)) TL.gNil) t1 (n := 4) (by omega) (by omega) rfl con1
  simp only [List.set_cons_zero] at ep
  obtain ⟨x, hsq, ex⟩ := tup_or (a := 0) (b := 0) (i := 2) ep rfl
  obtain ⟨qs, tb, hq⟩ := tab_of g hx' hsq
  have mk := line_make' tb ex
  rw [hq] at mk
  refine ⟨a2, b2, t2, ?_⟩
  refine fun_ret (env' := mE a2 b2 (rowsD rows) (.lst ds) z3 z4 none) ?_
  rw [g_made]
  show gSeq _ _ [some (tapeD a b), some (rowsD rows), none, none, none, none] = _
  rw [seq_next s1, seq_next s2]
  unfold gRet
  rw [mk]
  rfl
end P04

set_option Elab.async false
set_option linter.all false
set_option maxRecDepth 100000
set_option maxHeartbeats 1000000
namespace P04
open PySem PySem.Spec PyProof.Rows L2 TL
/-! ### the law, step by step -/
def lS1 : GS := (gSet 2 (gCall G__law_tape [] (TL.gCons (gVar 0) (TL.gCons (gVar 1) TL.gNil))))
def lS2 : GS := (gSet 3 (gCallT G__law_grid 2 (TL.gCons (gC (.int 4)) (TL.gCons (gC (.int 6)) TL.gNil))))
def lS3 : GS := (gPar [4, 5] (TL.gCons (gCallT G__law_made 2 (TL.gCons (gVar 3) TL.gNil)) (TL.gCons (gF dLen (TL.gCons (g2 dIx (gVar 3) (gC (.int 0))) TL.gNil)) TL.gNil)))
def lS4 : GS := (gAsg (.tup [6, 7]) (gCallT G__law_stretch 2 (TL.gCons (gVar 5) TL.gNil)))
def lS5 : GS := (gIf (gTest (g2 hNe_q (gCall G__law_part [] (TL.gCons (gVar 4) (TL.gCons (gVar 6) (TL.gCons (gVar 7) TL.gNil)))) (gLc [11] (.nm 11) (gSeqI (gVar 3)) gYes (gSl (gVar 11) (gSo (gVar 6)) (gSo (g2 hAdd_i (gVar 7) (gC (.int 1)))))))) (gRet (gC (.bl false))) gNext)
def lS6 : GS := (gSet 8 (gMeth 1 G_Line_backwards [] (gVar 4) TL.gNil))
def lS7 : GS := (gIf (gOr (gTest (g2 hNe_q (gMeth 1 G_Line_rows [] (gVar 8) TL.gNil) (gLc [11] (.nm 11) (gSeqI (gRevL (gVar 3))) gYes (gRevL (gVar 11))))) (gTest (g2 hNe_q (gMeth 1 G_Line_backwards [] (gVar 8) TL.gNil) (gVar 4)))) (gRet (gC (.bl false))) gNext)
def lS8 : GS := (gIf (gTest (g2 hNe_q (gMeth 1 G_Line_backwards [] (gMeth 1 G_Line_part [] (gVar 8) (TL.gCons (g2 hSub_i (g2 hSub_i (gVar 5) (gC (.int 1))) (gVar 7)) (TL.gCons (g2 hSub_i (g2 hSub_i (gVar 5) (gC (.int 1))) (gVar 6)) TL.gNil))) TL.gNil) (gMethK 1 G_Line_part D_kw_Line_part_0_last_first (gVar 4) TL.gNil (TL.gCons (gVar 7) (TL.gCons (gVar 6) TL.gNil))))) (gRet (gC (.bl false))) gNext)
def lS9 : GS := (gSet 9 (g2 dIx (TL.gLst (TL.gCons (gC .non) (TL.gCons (g1 hNeg_i (gC (.int 1))) (TL.gCons (gVar 5) (TL.gCons (gC (.bl true)) (TL.gCons (gC (.str "0")) (TL.gCons (gMake 0 2 G_Ratiodd_initdd [.int 1] (TL.gCons (gC (.int 0)) TL.gNil)) (TL.gCons (TL.gLst (TL.gCons (gC (.int 0)) TL.gNil)) TL.gNil)))))))) (gCallT G__law_pick 2 (TL.gCons (gC (.int 7)) TL.gNil))))
def lS10 : GS := (gSet 10 (g2 dIx (TL.gLst (TL.gCons (gC .non) (TL.gCons (g1 hNeg_i (gC (.int 1))) (TL.gCons (gVar 5) (TL.gCons (gC (.bl true)) (TL.gCons (gC (.str "0")) (TL.gCons (gMake 0 2 G_Ratiodd_initdd [.int 1] (TL.gCons (gC (.int 0)) TL.gNil)) (TL.gCons (gC (.dic [] [])) (TL.gCons (g2 hSub_i (gVar 6) (gC (.int 1))) TL.gNil))))))))) (gCallT G__law_pick 2 (TL.gCons (gC (.int 8)) TL.gNil))))
def lS11 : GS := (gIf (gTest (g2 hNe_q (TL.gLst (TL.gCons (gC (.str "job")) (TL.gCons (gCall (G__law_shown 2) [] (TL.gCons (gVar 9) TL.gNil)) TL.gNil))) (gCall G__law_part [] (TL.gCons (gVar 4) (TL.gCons (gVar 9) (TL.gCons (gVar 10) TL.gNil)))))) (gRet (gC (.bl false))) gNext)
def lS12 : GS := (gIf (gOr (gTest (g2 hNe_q (gCall G__law_part [] (TL.gCons (gVar 4) (TL.gCons (gVar 6) (TL.gCons (gVar 10) TL.gNil)))) (TL.gLst (TL.gCons (gC (.str "job")) (TL.gCons (gCall (G__law_shown 2) [] (TL.gCons (gVar 10) TL.gNil)) TL.gNil))))) (gTest (g2 hNe_q (gMeth 1 G_Line_rows [] (gVar 4) TL.gNil) (gVar 3)))) (gRet (gC (.bl false))) gNext)
def lBody : GS := (gSeq lS1 (gSeq lS2 (gSeq lS3 (gSeq lS4 (gSeq lS5 (gSeq lS6 (gSeq lS7 (gSeq lS8 (gSeq lS9 (gSeq lS10 (gSeq lS11 lS12)))))))))))
theorem g_law_is : g_law = (gSeq (gFor (.nm 1) (gRangeI (TL.gCons (gF dMax2 (TL.gCons (gC (.int 1)) (TL.gCons (gF dMin2 (TL.gCons (gC (.int 2)) (TL.gCons (gF dLen (TL.gCons (gVar 0) TL.gNil)) TL.gNil))) TL.gNil))) TL.gNil)) lBody) (gRet (gC (.bl true)))) := rfl
section
variable {env env' e1 : TL.Env} {g ga gb ge : TL.G} {gs : GA} {ds : List D} {d x y : D} {rows : List (List D)} {n m : Nat}
theorem call_ok (h : gs env = .ok env ds) (h2 : g (ds.map some) = .ok e1 d) : gCall g [] gs env = .ok env d := by simp [gCall, h, h2, ret0]
theorem callT_ok {j : Nat} {d0 d1 : D} {r : TL.Env} (h0 : env[j]? = some (some d0)) (h : gs env = .ok env ds) (h2 : g (some d0 :: ds.map some) = .ok (some d1 :: r) d) : gCallT g j gs env = .ok (env.set j (some d1)) d := by
  simp only [gCallT, h0, h, Res.bind_ok, h2, retT]
theorem meth_ok (h : ge env = .ok env (lineD rows)) (h1 : gs env = .ok env ds) (h2 : g (some (lineD rows) :: ds.map some) = .ok e1 d) : gMeth 1 g [] ge gs env = .ok env d := by
  simp only [lineD] at h h2
  simp [gMeth, h, h1, h2, ret0]
theorem g2_ok {hh : D → D → Option D} (h1 : ga env = .ok env x) (h2 : gb env = .ok env y) (h3 : hh x y = some d) : g2 hh ga gb env = .ok env d := by simp [g2, h1, h2, h3, Res.ofO]
theorem test_ok {c : Bool} (h : g env = .ok env (.bl c)) : gTest g env = .ok env c := by simp [gTest, h]
theorem or_ok {t u : GT} (h1 : t env = .ok env false) (h2 : u env = .ok env false) : gOr t u env = .ok env false := by simp [gOr, h1, h2]
theorem if_no {t : GT} {a b : GS} (h : t env = .ok env false) : gIf t a b env = b env := by simp [gIf, h]
theorem set_ok {i : Nat} (h : g env = .ok e1 d) : gSet i g env = .next (e1.set i (some d)) := by simp [gSet, h]
theorem nil_ok : TL.gNil env = .ok env [] := rfl
theorem lc_rev {k : Nat} {ga : TL.G} (g : Grid rows n m) (hi : ga env = .ok env (rowsD rows)) (hk : k < env.length) : gLc [k] (.nm k) (gSeqI (gRevL ga)) gYes (gRevL (gVar k)) env = .ok env (rowsD (revR rows)) := by
  have n4 := g.n4
  have hl := g.len
  have lc := gLc_map (i := k) (gi := gSeqI (gRevL ga)) (ge := gRevL (gVar k)) (env := env) (ds := rows.reverse.map D.lst) (fun d => match d with
      | .lst r => .lst r.reverse
      | x => x) (by unfold gSeqI gRevL; rw [hi]; simp [rowsD]) (fun x hx => by
    obtain ⟨r, _, rfl⟩ := List.mem_map.mp hx
    simp [gRevL, gVar, hk]) (by simp only [List.length_map, List.length_reverse]; unfold bigN; omega)
  have e : D.lst ((rows.reverse.map D.lst).map fun d => match d with
      | .lst r => .lst r.reverse
      | x => x) = rowsD (revR rows) := by simp [rowsD, revR]
  rw [e] at lc
  exact lc
theorem cutR_rev (g : Grid rows n m) {i j : Int} (h0 : 0 ≤ i) (h1 : i ≤ j) (h2 : j < m) : revR (cutR (revR rows) ((m : Int) - 1 - j) ((m : Int) - 1 - i)) = cutR rows i j := by
  unfold revR cutR
  rw [← List.map_reverse, ← List.map_reverse, List.reverse_reverse, List.map_map, List.map_map]
  refine List.map_congr_left fun r hr => ?_
  have e := g.row r hr
  show (cutD r.reverse (some ((m : Int) - 1 - j)) (some ((m : Int) - 1 - i + 1))).reverse = _
  rw [← e]
  exact cut_rev h0 h1 (by rw [e]; exact h2)
abbrev lE (ns : List Int) (k a b : Int) (y3 y4 y5 y6 y7 y8 y9 y10 : Option D) : TL.Env := [some (scr ns), some (.int k), some (tapeD a b), y3, y4, y5, y6, y7, y8, y9, y10, none]
variable {ns : List Int} {k a b : Int} {y2 y3 y4 y5 y6 y7 y8 y9 y10 : Option D}
theorem s1_ok (h0 : 0 ≤ k) (h1 : k < 2) : ∃ a b, Tape a b ∧ lS1 [some (scr ns), some (.int k), y2, y3, y4, y5, y6, y7, y8, y9, y10, none] = .next (lE ns k a b y3 y4 y5 y6 y7 y8 y9 y10) := by
  obtain ⟨a, b, t, e⟩ := tape_ok (ns := ns) h0 h1
  exact ⟨a, b, t, set_ok (call_ok (ds := [scr ns, .int k]) rfl e)⟩
theorem s2_ok (t : Tape a b) : ∃ a' b' rows n m, Tape a' b' ∧ Grid rows n m ∧ lS2 (lE ns k a b y3 y4 y5 y6 y7 y8 y9 y10) = .next (lE ns k a' b' (some (rowsD rows)) y4 y5 y6 y7 y8 y9 y10) := by
  obtain ⟨a', b', rows, n, m, t', g, e⟩ := grid_ok t
  exact ⟨a', b', rows, n, m, t', g, set_ok (callT_ok (j := 2) (ds := [.int 4, .int 6]) rfl rfl e)⟩
theorem s3_ok (t : Tape a b) (g : Grid rows n m) : ∃ a' b', Tape a' b' ∧ lS3 (lE ns k a b (some (rowsD rows)) y4 y5 y6 y7 y8 y9 y10) = .next (lE ns k a' b' (some (rowsD rows)) (some (lineD rows)) (some (.int m)) y6 y7 y8 y9 y10) := by
  obtain ⟨a', b', t', e⟩ := made_ok t g
  refine ⟨a', b', t', ?_⟩
  have c1 : gCallT G__law_made 2 (TL.gCons (gVar 3) TL.gNil) (lE ns k a b (some (rowsD rows)) y4 y5 y6 y7 y8 y9 y10) = .ok (lE ns k a' b' (some (rowsD rows)) y4 y5 y6 y7 y8 y9 y10) (lineD rows) := callT_ok (j := 2) (ds := [rowsD rows]) rfl rfl e
  obtain ⟨r, rs, er, hl⟩ := g.ne
  have c2 : gF dLen (TL.gCons (g2 dIx (gVar 3) (gC (.int 0))) TL.gNil) (lE ns k a' b' (some (rowsD rows)) y4 y5 y6 y7 y8 y9 y10) = .ok (lE ns k a' b' (some (rowsD rows)) y4 y5 y6 y7 y8 y9 y10) (.int m) := by
    have e0 : dIx (rowsD rows) (.int 0) = some (.lst r) := by
      rw [er]
      exact ix0 (x := .lst r) (xs := rs.map .lst) .lst
    have l : dLen [.lst r] = some (.int m) := by rw [← hl]; rfl
    have q : g2 dIx (gVar 3) (gC (.int 0)) (lE ns k a' b' (some (rowsD rows)) y4 y5 y6 y7 y8 y9 y10) = .ok (lE ns k a' b' (some (rowsD rows)) y4 y5 y6 y7 y8 y9 y10) (.lst r) := g2_ok rfl rfl e0
    unfold gF
    rw [con1' q]
    simp only [Res.bind_ok, l, Res.ofO]
  unfold lS3 gPar
  rw [con2 c1 (con1' c2)]
  rfl
theorem s4_ok (t : Tape a b) (m1 : 1 ≤ m) (m6 : m ≤ 6) : ∃ a' b' i j, Tape a' b' ∧ 0 ≤ i ∧ i ≤ j ∧ j < (m : Int) ∧ lS4 (lE ns k a b y3 y4 (some (.int m)) y6 y7 y8 y9 y10) = .next (lE ns k a' b' y3 y4 (some (.int m)) (some (.int i)) (some (.int j)) y8 y9 y10) := by
  obtain ⟨a', b', i, j, t', h0, h1, h2, e⟩ := stretch_ok t m1 m6
  refine ⟨a', b', i, j, t', h0, h1, h2, ?_⟩
  have c : gCallT G__law_stretch 2 (TL.gCons (gVar 5) TL.gNil) (lE ns k a b y3 y4 (some (.int m)) y6 y7 y8 y9 y10) = .ok (lE ns k a' b' y3 y4 (some (.int m)) y6 y7 y8 y9 y10) (.tup [.int i, .int j]) := callT_ok (j := 2) (ds := [.int m]) rfl rfl e
  unfold lS4 gAsg
  rw [c]
  rfl
theorem s5_ok (g : Grid rows n m) {i j : Int} (h0 : 0 ≤ i) (h1 : i ≤ j) (h2 : j < m) : lS5 (lE ns k a b (some (rowsD rows)) (some (lineD rows)) y5 (some (.int i)) (some (.int j)) y8 y9 y10) = .next (lE ns k a b (some (rowsD rows)) (some (lineD rows)) y5 (some (.int i)) (some (.int j)) y8 y9 y10) := by
  have p := call_ok (env := lE ns k a b (some (rowsD rows)) (some (lineD rows)) y5 (some (.int i)) (some (.int j)) y8 y9 y10) (gs := TL.gCons (gVar 4) (TL.gCons (gVar 6) (TL.gCons (gVar 7) TL.gNil))) (ds := [lineD rows, .int i, .int j]) rfl (part_call g h0 h1 h2)
  have lc := lc_cut (env := lE ns k a b (some (rowsD rows)) (some (lineD rows)) y5 (some (.int i)) (some (.int j)) y8 y9 y10) (k := 11) (gi := gSeqI (gVar 3)) (gl := gSo (gVar 6)) (gh := gSo (g2 hAdd_i (gVar 7) (gC (.int 1)))) (i := i) (j := j) g (seqI_rows rfl) (by simp) (fun x => rfl) (fun x => rfl)
  exact if_no (test_ok (g2_ok p lc (g.cut h0 h1 h2).ne_rows))
theorem s6_ok (g : Grid rows n m) : lS6 (lE ns k a b y3 (some (lineD rows)) y5 y6 y7 y8 y9 y10) = .next (lE ns k a b y3 (some (lineD rows)) y5 y6 y7 (some (lineD (revR rows))) y9 y10) :=
  set_ok (meth_ok (ds := []) rfl rfl g.back_ok)
theorem s7_ok (g : Grid rows n m) : lS7 (lE ns k a b (some (rowsD rows)) (some (lineD rows)) y5 y6 y7 (some (lineD (revR rows))) y9 y10) = .next (lE ns k a b (some (rowsD rows)) (some (lineD rows)) y5 y6 y7 (some (lineD (revR rows))) y9 y10) := by
  have b1 := meth_ok (env := lE ns k a b (some (rowsD rows)) (some (lineD rows)) y5 y6 y7 (some (lineD (revR rows))) y9 y10) (ge := gVar 8) (gs := TL.gNil) (ds := []) rfl rfl g.rev.rows_ok
  have b2 := lc_rev (env := lE ns k a b (some (rowsD rows)) (some (lineD rows)) y5 y6 y7 (some (lineD (revR rows))) y9 y10) (k := 11) (ga := gVar 3) g rfl (by simp)
  have b3 := meth_ok (env := lE ns k a b (some (rowsD rows)) (some (lineD rows)) y5 y6 y7 (some (lineD (revR rows))) y9 y10) (ge := gVar 8) (gs := TL.gNil) (ds := []) rfl rfl g.rev.back_ok
  rw [revR_revR] at b3
  exact if_no (or_ok (test_ok (g2_ok b1 b2 g.rev.ne_rows)) (test_ok (g2_ok b3 rfl g.ne_line)))
theorem s8_ok (g : Grid rows n m) {i j : Int} (h0 : 0 ≤ i) (h1 : i ≤ j) (h2 : j < m) : lS8 (lE ns k a b y3 (some (lineD rows)) (some (.int m)) (some (.int i)) (some (.int j)) (some (lineD (revR rows))) y9 y10) = .next (lE ns k a b y3 (some (lineD rows)) (some (.int m)) (some (.int i)) (some (.int j)) (some (lineD (revR rows))) y9 y10) := by
  have k1 : (0 : Int) ≤ (m : Int) - 1 - j := by omega
  have k2 : (m : Int) - 1 - j ≤ (m : Int) - 1 - i := by omega
  have k3 : (m : Int) - 1 - i < m := by omega
  have b1 := meth_ok (env := lE ns k a b y3 (some (lineD rows)) (some (.int m)) (some (.int i)) (some (.int j)) (some (lineD (revR rows))) y9 y10) (ge := gVar 8)
    (gs := TL.gCons (g2 hSub_i (g2 hSub_i (gVar 5) (gC (.int 1))) (gVar 7)) (TL.gCons (g2 hSub_i (g2 hSub_i (gVar 5) (gC (.int 1))) (gVar 6)) TL.gNil)) (ds := [.int ((m : Int) - 1 - j), .int ((m : Int) - 1 - i)]) rfl rfl (g.rev.part_ok k1 k2 k3)
  have gc := g.rev.cut k1 k2 k3
  have b2 := meth_ok (env := lE ns k a b y3 (some (lineD rows)) (some (.int m)) (some (.int i)) (some (.int j)) (some (lineD (revR rows))) y9 y10) (gs := TL.gNil) (ds := []) b1 rfl gc.back_ok
  rw [cutR_rev g h0 h1 h2] at b2
  have p := g.part_ok h0 h1 h2
  have b3 : gMethK 1 G_Line_part D_kw_Line_part_0_last_first (gVar 4) TL.gNil (TL.gCons (gVar 7) (TL.gCons (gVar 6) TL.gNil)) (lE ns k a b y3 (some (lineD rows)) (some (.int m)) (some (.int i)) (some (.int j)) (some (lineD (revR rows))) y9 y10) = .ok (lE ns k a b y3 (some (lineD rows)) (some (.int m)) (some (.int i)) (some (.int j)) (some (lineD (revR rows))) y9 y10) (lineD (cutR rows i j)) := by
    simp only [lineD] at p
    simp [gMethK, gVar, lineD, TL.gCons, TL.gNil, D_kw_Line_part_0_last_first, p, ret0]
  exact if_no (test_ok (g2_ok b2 b3 (g.cut h0 h1 h2).ne_line))
theorem seven {r : Int} (h0 : 0 ≤ r) (h1 : r < 7) : r = 0 ∨ r = 1 ∨ r = 2 ∨ r = 3 ∨ r = 4 ∨ r = 5 ∨ r = 6 := by omega
theorem eight {r : Int} (h0 : 0 ≤ r) (h1 : r < 8) : r = 0 ∨ r = 1 ∨ r = 2 ∨ r = 3 ∨ r = 4 ∨ r = 5 ∨ r = 6 ∨ r = 7 := by omega
theorem ix7 {r : Int} (h0 : 0 ≤ r) (h1 : r < 7) (m6 : m ≤ 6) : ∃ d, dIx (.lst [.non, .int (-1), .int m, .bl true, .str "0", rat 0 1, .lst [.int 0]]) (.int r) = some d ∧ Odd d ∧ isIx m d = false := by
  rcases seven h0 h1 with rfl | rfl | rfl | rfl | rfl | rfl | rfl
  · exact ⟨_, rfl, .non, rfl⟩
  · exact ⟨_, rfl, .int _ (by decide), rfl⟩
  · exact ⟨_, rfl, .int _ (by omega), by simp [isIx]⟩
  · exact ⟨_, rfl, .tr, rfl⟩
  · exact ⟨_, rfl, .zero, rfl⟩
  · exact ⟨_, rfl, .rat, rfl⟩
  · exact ⟨_, rfl, .lst, rfl⟩
theorem ix8 {r i : Int} (h0 : 0 ≤ r) (h1 : r < 8) (m6 : m ≤ 6) (i0 : 0 ≤ i) (i1 : i < m) : ∃ d, dIx (.lst [.non, .int (-1), .int m, .bl true, .str "0", rat 0 1, .dic [] [], .int (i - 1)]) (.int r) = some d ∧ Odd d ∧ (isIx m d = false ∨ ∃ j, d = .int j ∧ j < i) := by
  rcases eight h0 h1 with rfl | rfl | rfl | rfl | rfl | rfl | rfl | rfl
  · exact ⟨_, rfl, .non, .inl rfl⟩
  · exact ⟨_, rfl, .int _ (by decide), .inl rfl⟩
  · exact ⟨_, rfl, .int _ (by omega), .inl (by simp [isIx])⟩
  · exact ⟨_, rfl, .tr, .inl rfl⟩
  · exact ⟨_, rfl, .zero, .inl rfl⟩
  · exact ⟨_, rfl, .rat, .inl rfl⟩
  · exact ⟨_, rfl, .dic, .inl rfl⟩
  · exact ⟨_, rfl, .int _ (by omega), .inr ⟨_, rfl, by omega⟩⟩
theorem s9_ok (t : Tape a b) (m6 : m ≤ 6) : ∃ a' b' d, Tape a' b' ∧ Odd d ∧ isIx m d = false ∧ lS9 (lE ns k a b y3 y4 (some (.int m)) y6 y7 y8 y9 y10) = .next (lE ns k a' b' y3 y4 (some (.int m)) y6 y7 y8 (some d) y10) := by
  obtain ⟨a', b', r, t', r0, r1, ep⟩ := pick_call (env := lE ns k a b y3 y4 (some (.int m)) y6 y7 y8 y9 y10) (j := 2) (gs := TL.gCons (gC (.int 7)) TL.gNil) t (n := 7) (by omega) (by omega) rfl con1
  obtain ⟨d, e, o, ix⟩ := ix7 r0 r1 m6
  refine ⟨a', b', d, t', o, ix, ?_⟩
  have z := make1 (gs := TL.gCons (gC (.int 0)) TL.gNil) (env := lE ns k a b y3 y4 (some (.int m)) y6 y7 y8 y9 y10) (t := 0) con1
  have l0 : TL.gLst (TL.gCons (gC (.int 0)) TL.gNil) (lE ns k a b y3 y4 (some (.int m)) y6 y7 y8 y9 y10) = .ok (lE ns k a b y3 y4 (some (.int m)) y6 y7 y8 y9 y10) (.lst [.int 0]) := by simp [gSeq, gIf, gTest, g1, g2, gVar, gC, gRet, gNext, gSet, gF, gFP, TL.gCons, TL.gNil, gNot, gAnd, gOr, gAndV, gOrV, gNotV, gIsi, gCall, gMeth, gFld, gExp, gChain, gIfE, TL.gTup, TL.gLst, gSo, gSl, gRevL, gSeqI, Res.ofO, ret0, back, bigN, isPlainD, gFun]
  have q : ∀ {gs ds}, gs (lE ns k a b y3 y4 (some (.int m)) y6 y7 y8 y9 y10) = .ok (lE ns k a b y3 y4 (some (.int m)) y6 y7 y8 y9 y10) ds → ds.length ≤ 8 → TL.gLst gs (lE ns k a b y3 y4 (some (.int m)) y6 y7 y8 y9 y10) = .ok (lE ns k a b y3 y4 (some (.int m)) y6 y7 y8 y9 y10) (.lst ds) := fun {gs ds} h hl => by
    unfold TL.gLst
    rw [h]
    simp only [Res.bind_ok]
    rw [if_pos (by unfold bigN; omega)]
  have ll := q (con2 (g := gC .non) rfl (con2 (g := g1 hNeg_i (gC (.int 1))) rfl (con2 (g := gVar 5) rfl (con2 (g := gC (.bl true)) rfl (con2 (g := gC (.str "0")) rfl (con2 z (con1' l0))))))) (by simp)
  refine set_ok (e1 := (lE ns k a' b' y3 y4 (some (.int m)) y6 y7 y8 y9 y10)) (i := 9) ?_
  unfold g2
  rw [ll]
  simp only [Res.bind_ok]
  rw [ep]
  simp only [Res.bind_ok]
  show Res.ofO _ (dIx (.lst [.non, .int (-1), .int m, .bl true, .str "0", rat 0 1, .lst [.int 0]]) (.int r)) = _
  rw [e]
  rfl
theorem s10_ok (t : Tape a b) (m6 : m ≤ 6) {i : Int} (i0 : 0 ≤ i) (i1 : i < m) : ∃ a' b' d, Tape a' b' ∧ Odd d ∧ (isIx m d = false ∨ ∃ j, d = .int j ∧ j < i) ∧ lS10 (lE ns k a b y3 y4 (some (.int m)) (some (.int i)) y7 y8 y9 y10) = .next (lE ns k a' b' y3 y4 (some (.int m)) (some (.int i)) y7 y8 y9 (some d)) := by
  obtain ⟨a', b', r, t', r0, r1, ep⟩ := pick_call (env := lE ns k a b y3 y4 (some (.int m)) (some (.int i)) y7 y8 y9 y10) (j := 2) (gs := TL.gCons (gC (.int 8)) TL.gNil) t (n := 8) (by omega) (by omega) rfl con1
  obtain ⟨d, e, o, ix⟩ := ix8 (i := i) r0 r1 m6 i0 i1
  refine ⟨a', b', d, t', o, ix, ?_⟩
  have z := make1 (gs := TL.gCons (gC (.int 0)) TL.gNil) (env := lE ns k a b y3 y4 (some (.int m)) (some (.int i)) y7 y8 y9 y10) (t := 0) con1
  have q : ∀ {gs ds}, gs (lE ns k a b y3 y4 (some (.int m)) (some (.int i)) y7 y8 y9 y10) = .ok (lE ns k a b y3 y4 (some (.int m)) (some (.int i)) y7 y8 y9 y10) ds → ds.length ≤ 8 → TL.gLst gs (lE ns k a b y3 y4 (some (.int m)) (some (.int i)) y7 y8 y9 y10) = .ok (lE ns k a b y3 y4 (some (.int m)) (some (.int i)) y7 y8 y9 y10) (.lst ds) := fun {gs ds} h hl => by
    unfold TL.gLst
    rw [h]
    simp only [Res.bind_ok]
    rw [if_pos (by unfold bigN; omega)]
  have ll := q (con2 (g := gC .non) rfl (con2 (g := g1 hNeg_i (gC (.int 1))) rfl (con2 (g := gVar 5) rfl (con2 (g := gC (.bl true)) rfl (con2 (g := gC (.str "0")) rfl (con2 z (con2 (g := gC (.dic [] [])) rfl (con1' (g := g2 hSub_i (gVar 6) (gC (.int 1))) (d := .int (i - 1)) rfl)))))))) (by simp)
  refine set_ok (e1 := (lE ns k a' b' y3 y4 (some (.int m)) (some (.int i)) y7 y8 y9 y10)) (i := 10) ?_
  unfold g2
  have ll' := ll
  unfold g2 at ll'
  rw [ll']
  simp only [Res.bind_ok]
  rw [ep]
  simp only [Res.bind_ok]
  show Res.ofO _ (dIx (.lst [.non, .int (-1), .int m, .bl true, .str "0", rat 0 1, .dic [] [], .int (i - 1)]) (.int r)) = _
  rw [e]
  rfl
theorem ne_job {e : D} (s : Sh e) : hNe_q (.lst [.str "job", e]) (.lst [.str "job", e]) = some (.bl false) := by
  refine ne_same ?_ (deq_lst fun x hx => ?_)
  · have := s.dp
    simp [dep, depL]
    omega
  · rcases List.mem_cons.mp hx with h | h
    · subst h; exact deq_ofs _
    · have : x = e := by simpa using h
      subst this
      exact s.eq
theorem job_ok {i : Nat} {x e : D} (h : env[i]? = some (some x)) (sh : G__law_shown 2 [some x] = .ok [some x] e) : TL.gLst (TL.gCons (gC (.str "job")) (TL.gCons (gCall (G__law_shown 2) [] (TL.gCons (gVar i) TL.gNil)) TL.gNil)) env = .ok env (.lst [.str "job", e]) := by
  have c := call_ok (g := G__law_shown 2) (env := env) (gs := TL.gCons (gVar i) TL.gNil) (ds := [x]) (var1 h) sh
  unfold TL.gLst
  rw [con2 (g := gC (.str "job")) rfl (con1' c)]
  rfl
theorem s11_ok (g : Grid rows n m) {d w : D} (o : Odd d) (ix : isIx m d = false) : lS11 (lE ns k a b y3 (some (lineD rows)) y5 y6 y7 y8 (some d) (some w)) = .next (lE ns k a b y3 (some (lineD rows)) y5 y6 y7 y8 (some d) (some w)) := by
  obtain ⟨e, sh, s⟩ := shown_ok o
  have p := call_ok (env := lE ns k a b y3 (some (lineD rows)) y5 y6 y7 y8 (some d) (some w)) (gs := TL.gCons (gVar 4) (TL.gCons (gVar 9) (TL.gCons (gVar 10) TL.gNil))) (ds := [lineD rows, d, w]) rfl (part_odd g (g.check_first (w := w) o.plain ix) sh)
  exact if_no (test_ok (g2_ok (job_ok (i := 9) rfl sh) p (ne_job s)))
theorem s12_ok (g : Grid rows n m) {w : D} {i : Int} (i0 : 0 ≤ i) (i1 : i < m) (o : Odd w) (ix : isIx m w = false ∨ ∃ j, w = .int j ∧ j < i) : lS12 (lE ns k a b (some (rowsD rows)) (some (lineD rows)) y5 (some (.int i)) y7 y8 y9 (some w)) = .next (lE ns k a b (some (rowsD rows)) (some (lineD rows)) y5 (some (.int i)) y7 y8 y9 (some w)) := by
  obtain ⟨e, sh, s⟩ := shown_ok o
  have hi : isIx m (.int i) = true := by simp [isIx]; omega
  have p := call_ok (env := lE ns k a b (some (rowsD rows)) (some (lineD rows)) y5 (some (.int i)) y7 y8 y9 (some w)) (gs := TL.gCons (gVar 4) (TL.gCons (gVar 6) (TL.gCons (gVar 10) TL.gNil))) (ds := [lineD rows, .int i, w]) rfl (part_odd g (g.check_last hi o.plain ix) sh)
  have r := meth_ok (env := lE ns k a b (some (rowsD rows)) (some (lineD rows)) y5 (some (.int i)) y7 y8 y9 (some w)) (ge := gVar 4) (gs := TL.gNil) (ds := []) rfl rfl g.rows_ok
  exact if_no (or_ok (test_ok (g2_ok p (job_ok (i := 10) rfl sh) (ne_job s))) (test_ok (g2_ok r rfl g.ne_rows)))
theorem body_ok (h0 : 0 ≤ k) (h1 : k < 2) : ∃ a b z3 z4 z5 z6 z7 z8 z9 z10, lBody [some (scr ns), some (.int k), y2, y3, y4, y5, y6, y7, y8, y9, y10, none] = .next (lE ns k a b z3 z4 z5 z6 z7 z8 z9 z10) := by
  obtain ⟨a1, b1, t1, e1⟩ := s1_ok (ns := ns) (y2 := y2) (y3 := y3) (y4 := y4) (y5 := y5) (y6 := y6) (y7 := y7) (y8 := y8) (y9 := y9) (y10 := y10) h0 h1
  obtain ⟨a2, b2, rows, n, m, t2, g, e2⟩ := s2_ok (ns := ns) (k := k) (y3 := y3) (y4 := y4) (y5 := y5) (y6 := y6) (y7 := y7) (y8 := y8) (y9 := y9) (y10 := y10) t1
  obtain ⟨a3, b3, t3, e3⟩ := s3_ok (ns := ns) (k := k) (y4 := y4) (y5 := y5) (y6 := y6) (y7 := y7) (y8 := y8) (y9 := y9) (y10 := y10) t2 g
  obtain ⟨a4, b4, i, j, t4, i0, ij, jm, e4⟩ := s4_ok (ns := ns) (k := k) (y3 := some (rowsD rows)) (y4 := some (lineD rows)) (y6 := y6) (y7 := y7) (y8 := y8) (y9 := y9) (y10 := y10) t3 g.m1 g.m6
  have e5 := s5_ok (ns := ns) (k := k) (a := a4) (b := b4) (y5 := some (.int m)) (y8 := y8) (y9 := y9) (y10 := y10) g i0 ij jm
  have e6 := s6_ok (ns := ns) (k := k) (a := a4) (b := b4) (y3 := some (rowsD rows)) (y5 := some (.int m)) (y6 := some (.int i)) (y7 := some (.int j)) (y8 := y8) (y9 := y9) (y10 := y10) g
  have e7 := s7_ok (ns := ns) (k := k) (a := a4) (b := b4) (y5 := some (.int m)) (y6 := some (.int i)) (y7 := some (.int j)) (y9 := y9) (y10 := y10) g
  have e8 := s8_ok (ns := ns) (k := k) (a := a4) (b := b4) (y3 := some (rowsD rows)) (y9 := y9) (y10 := y10) g i0 ij jm
  obtain ⟨a5, b5, d, t5, od, xd, e9⟩ := s9_ok (ns := ns) (k := k) (y3 := some (rowsD rows)) (y4 := some (lineD rows)) (y6 := some (.int i)) (y7 := some (.int j)) (y8 := some (lineD (revR rows))) (y9 := y9) (y10 := y10) t4 g.m6
  obtain ⟨a6, b6, w, t6, ow, xw, e10⟩ := s10_ok (ns := ns) (k := k) (y3 := some (rowsD rows)) (y4 := some (lineD rows)) (y7 := some (.int j)) (y8 := some (lineD (revR rows))) (y9 := some d) (y10 := y10) t5 g.m6 i0 (Int.lt_of_le_of_lt ij jm)
  have e11 := s11_ok (ns := ns) (k := k) (a := a6) (b := b6) (y3 := some (rowsD rows)) (y5 := some (.int m)) (y6 := some (.int i)) (y7 := some (.int j)) (y8 := some (lineD (revR rows))) (w := w) g od xd
  have e12 := s12_ok (ns := ns) (k := k) (a := a6) (b := b6) (y5 := some (.int m)) (y7 := some (.int j)) (y8 := some (lineD (revR rows))) (y9 := some d) g i0 (Int.lt_of_le_of_lt ij jm) ow xw
  refine ⟨a6, b6, some (rowsD rows), some (lineD rows), some (.int m), some (.int i), some (.int j), some (lineD (revR rows)), some d, some w, ?_⟩
  rw [lBody, seq_next e1, seq_next e2, seq_next e3, seq_next e4, seq_next e5, seq_next e6, seq_next e7, seq_next e8, seq_next e9, seq_next e10, seq_next e11]
  exact e12
end
theorem law_math {ns : List Int} (hl : ns.length ≤ 63) (hb : ∀ z ∈ ns, Builtin.Int.intBits z ≤ 1048576) : ∃ env, G_law [some (.part 63 (ns.map .int))] = .ok env (.bl true) := by
  obtain ⟨c, c0, c1, ec⟩ : ∃ c : Int, 1 ≤ c ∧ c ≤ 2 ∧ TL.gCons (gF dMax2 (TL.gCons (gC (.int 1)) (TL.gCons (gF dMin2 (TL.gCons (gC (.int 2)) (TL.gCons (gF dLen (TL.gCons (gVar 0) TL.gNil)) TL.gNil))) TL.gNil))) TL.gNil [some (scr ns), none, none, none, none, none, none, none, none, none, none, none] = .ok [some (scr ns), none, none, none, none, none, none, none, none, none, none, none] [.int c] := by
    have l : dLen [scr ns] = some (.int ns.length) := by simp [dLen]
    refine ⟨if (if (ns.length : Int) < 2 then (ns.length : Int) else 2) > 1 then (if (ns.length : Int) < 2 then (ns.length : Int) else 2) else 1, by split <;> omega, by split <;> (try split) <;> omega, ?_⟩
    simp [gSeq, gIf, gTest, g1, g2, gVar, gC, gRet, gNext, gSet, gF, gFP, TL.gCons, TL.gNil, gNot, gAnd, gOr, gAndV, gOrV, gNotV, gIsi, gCall, gMeth, gFld, gExp, gChain, gIfE, TL.gTup, TL.gLst, gSo, gSl, gRevL, gSeqI, Res.ofO, ret0, back, bigN, isPlainD, gFun, l, dMax2, dMin2]
  obtain ⟨env', ef, k', y2, y3, y4, y5, y6, y7, y8, y9, y10, he⟩ := forG_inv (t := .nm 1) (body := lBody) (P := fun _ env => ∃ k y2 y3 y4 y5 y6 y7 y8 y9 y10, env = [some (scr ns), k, y2, y3, y4, y5, y6, y7, y8, y9, y10, none]) (rangeD 0 c.toNat) 0
    [some (scr ns), none, none, none, none, none, none, none, none, none, none, none] (fun i d env hd ⟨k, y2, y3, y4, y5, y6, y7, y8, y9, y10, he⟩ => by
      obtain ⟨rfl, hi⟩ := rangeD_get hd
      subst he
      obtain ⟨a, b, z3, z4, z5, z6, z7, z8, z9, z10, e⟩ := body_ok (ns := ns) (k := i) (y2 := y2) (y3 := y3) (y4 := y4) (y5 := y5) (y6 := y6) (y7 := y7) (y8 := y8) (y9 := y9) (y10 := y10) (by omega) (by omega)
      exact ⟨_, _, rfl, e, _, _, _, _, _, _, _, _, _, _, rfl⟩) ⟨none, none, none, none, none, none, none, none, none, none, rfl⟩
  have s1 : gFor (.nm 1) (gRangeI (TL.gCons (gF dMax2 (TL.gCons (gC (.int 1)) (TL.gCons (gF dMin2 (TL.gCons (gC (.int 2)) (TL.gCons (gF dLen (TL.gCons (gVar 0) TL.gNil)) TL.gNil))) TL.gNil))) TL.gNil)) lBody [some (scr ns), none, none, none, none, none, none, none, none, none, none, none] = .next env' := by
    unfold gFor
    rw [range1 ec (by omega) (by omega)]
    exact ef
  refine ⟨_, fun_ret (env' := env') (d := .bl true) ?_⟩
  rw [g_law_is]
  show gSeq _ _ [some (scr ns), none, none, none, none, none, none, none, none, none, none, none] = _
  rw [seq_next s1]
  rfl
end P04

open PySem PySem.W PyProof.Rows L2 TL in
set_option maxRecDepth 100000 in
set_option maxHeartbeats 0 in
theorem PySem.Challenge.cw_tandems_k04_parts_and_backwards_holds : PySem.Challenge.rw_tandems_k04_parts_and_backwards.Holds := by
  w_on; o_law; k_head; (case hw => w_witness2)
  k_fill
  refine L2.walk_ofB (l := PySem.Challenge.rw_tandems_k04_parts_and_backwards) (n := 63) (k := 12) (x := "_law_script") (CX := fun w => L2N.CX PySem.Challenge.pw_tandems_k04_parts_and_backwards w) (sp := fun w => P04.spLaw _) rfl (by decide) rfl ⟨rfl, by decide, by decide⟩ (fun w h Y => PySem.W.kIn_of Y) ?F (fun w H a ns hl hb hO hS => P04.law_sp (P04.law_math hl hb) hS) (fun w H s e s' h => P04.cx_nil h)
  case F =>
    intro w mg fa h KX G hmg
    refine' P04.all_mk KX G hmg ?gC0 ?gC1 ?gC2 ?gC4 ?gC5 ?gC6 ?gC7 ?g_is_int ?l_is_int ?c_is_int ?k_is_int ?g_Ratiodd_initdd ?i_Ratiodd_initdd ?l_Ratiodd_initdd ?c_Ratiodd_initdd ?k_Ratiodd_initdd ?z_Ratiodd_initdd ?g_is_number ?l_is_number ?c_is_number ?k_is_number ?g_as_ratio ?l_as_ratio ?c_as_ratio ?k_as_ratio ?g_Ratio_top ?pg_Ratio_top ?pt_Ratio_top ?pr_Ratio_top ?l_Ratio_top ?c_Ratio_top ?k_Ratio_top ?g_Ratio_bottom ?pg_Ratio_bottom ?pt_Ratio_bottom ?pr_Ratio_bottom ?l_Ratio_bottom ?c_Ratio_bottom ?k_Ratio_bottom ?g_Ratiodd_adddd ?i_Ratiodd_adddd ?l_Ratiodd_adddd ?c_Ratiodd_adddd ?k_Ratiodd_adddd ?g_Ratiodd_negdd ?i_Ratiodd_negdd ?l_Ratiodd_negdd ?c_Ratiodd_negdd ?k_Ratiodd_negdd ?g_Ratiodd_subdd ?i_Ratiodd_subdd ?l_Ratiodd_subdd ?c_Ratiodd_subdd ?k_Ratiodd_subdd ?g_Ratiodd_muldd ?i_Ratiodd_muldd ?l_Ratiodd_muldd ?c_Ratiodd_muldd ?k_Ratiodd_muldd ?g_Ratiodd_eqdd ?i_Ratiodd_eqdd ?l_Ratiodd_eqdd ?c_Ratiodd_eqdd ?k_Ratiodd_eqdd ?g_Ratiodd_ltdd ?i_Ratiodd_ltdd ?l_Ratiodd_ltdd ?c_Ratiodd_ltdd ?k_Ratiodd_ltdd ?g_Ratiodd_ledd ?i_Ratiodd_ledd ?l_Ratiodd_ledd ?c_Ratiodd_ledd ?k_Ratiodd_ledd ?g_is_list ?l_is_list ?c_is_list ?k_is_list ?g_is_time ?l_is_time ?c_is_time ?k_is_time ?g_is_row ?l_is_row ?c_is_row ?k_is_row ?g_is_table ?l_is_table ?c_is_table ?k_is_table ?g_is_index ?l_is_index ?c_is_index ?k_is_index ?g_Linedd_initdd ?i_Linedd_initdd ?l_Linedd_initdd ?c_Linedd_initdd ?k_Linedd_initdd ?g_Linedd_eqdd ?i_Linedd_eqdd ?l_Linedd_eqdd ?c_Linedd_eqdd ?k_Linedd_eqdd ?g_Line_jobs ?i_Line_jobs ?l_Line_jobs ?c_Line_jobs ?k_Line_jobs ?g_Line_rows ?i_Line_rows ?l_Line_rows ?c_Line_rows ?k_Line_rows ?g_check_job ?l_check_job ?c_check_job ?k_check_job ?g_check_stretch ?l_check_stretch ?c_check_stretch ?k_check_stretch ?g_Line_part ?i_Line_part ?l_Line_part ?c_Line_part ?k_Line_part ?g_Line_backwards ?i_Line_backwards ?l_Line_backwards ?c_Line_backwards ?k_Line_backwards ?g__law_tape ?l__law_tape ?c__law_tape ?k__law_tape ?g__law_pick ?l__law_pick ?c__law_pick ?k__law_pick ?g__law_size ?l__law_size ?c__law_size ?k__law_size ?g__law_stretch ?l__law_stretch ?c__law_stretch ?k__law_stretch ?g__law_grid ?l__law_grid ?c__law_grid ?k__law_grid ?g__law_made ?l__law_made ?c__law_made ?k__law_made ?g__law_shown ?l__law_shown ?c__law_shown ?k__law_shown ?g__law_part ?l__law_part ?c__law_part ?k__law_part ?g_law ?l_law ?c_law ?k_law ?pgC0 ?hdC0 ?poC0 ?saC0 ?noC0_top ?noC0_bottom ?caC0 ?cmC0 ?mkC0 ?kpC0 ?neC0 ?pgC1 ?hdC1 ?poC1 ?saC1 ?noC1_rows ?caC1 ?cmC1 ?mkC1 ?kpC1 ?neC1 ?cn ?ct ?exC2 ?tyC2 ?keC2 ?xiC2 ?sxC4 ?exC4 ?tyC4 ?keC4 ?xlC4 ?xbC4 ?giC4 ?tiC4 ?nfC4 ?l_iniC4 ?c_iniC4 ?k_iniC4 ?sxC5 ?exC5 ?tyC5 ?keC5 ?xlC5 ?xbC5 ?giC5 ?tiC5 ?nfC5 ?l_iniC5 ?c_iniC5 ?k_iniC5 ?sxC6 ?exC6 ?tyC6 ?keC6 ?xlC6 ?xbC6 ?giC6 ?tiC6 ?nfC6 ?l_iniC6 ?c_iniC6 ?k_iniC6 ?sxC7 ?exC7 ?tyC7 ?keC7 ?xlC7 ?xbC7 ?giC7 ?tiC7 ?nfC7 ?l_iniC7 ?c_iniC7 ?k_iniC7 ?gaC7 ?ggC7 ?hxC7 ?xoC7 ?z_range ?z_isinstance ?z_len ?z_all ?z_list ?z_tuple ?z_int ?z_bool ?z_abs ?z_max ?z_min ?z_dict ?z_repr ?z_gcd ?z_MOST_SERVERS ?z_MOST_JOBS ?kit_int_NoneType ?kit_int_bool ?kit_int_int ?kit_int_str ?kit_int_list ?kit_int_tuple ?kit_int_dict ?kit_int_C0 ?kit_int_C1 ?kit_bool_NoneType ?kit_bool_bool ?kit_bool_int ?kit_bool_str ?kit_bool_list ?kit_bool_tuple ?kit_bool_dict ?kit_bool_C0 ?kit_bool_C1 ?kit_list_NoneType ?kit_list_bool ?kit_list_int ?kit_list_str ?kit_list_list ?kit_list_tuple ?kit_list_dict ?kit_list_C0 ?kit_list_C1 ?kit_tuple_NoneType ?kit_tuple_bool ?kit_tuple_int ?kit_tuple_str ?kit_tuple_list ?kit_tuple_tuple ?kit_tuple_dict ?kit_tuple_C0 ?kit_tuple_C1 ?kit_dict_NoneType ?kit_dict_bool ?kit_dict_int ?kit_dict_str ?kit_dict_list ?kit_dict_tuple ?kit_dict_dict ?kit_dict_C0 ?kit_dict_C1 ?kit_Ratio_NoneType ?kit_Ratio_bool ?kit_Ratio_int ?kit_Ratio_str ?kit_Ratio_list ?kit_Ratio_tuple ?kit_Ratio_dict ?kit_Ratio_C0 ?kit_Ratio_C1 ?kit_Line_NoneType ?kit_Line_bool ?kit_Line_int ?kit_Line_str ?kit_Line_list ?kit_Line_tuple ?kit_Line_dict ?kit_Line_C0 ?kit_Line_C1 ?f_C0_C0 ?f_C0_int ?f_C0_C1 ?f_C1_C1 ?f_C0_NoneType ?f_C0_bool ?f_C0_str ?f_C0_list ?f_C0_tuple ?sfC0 ?neq_0_1
    (case gC0 => first | k_is | decide +kernel | k_exc | kx_is | rfl)
    (case gC1 => first | k_is | decide +kernel | k_exc | kx_is | rfl)
    (case gC2 => first | k_is | decide +kernel | k_exc | kx_is | rfl)
    (case gC4 => first | k_is | decide +kernel | k_exc | kx_is | rfl)
    (case gC5 => first | k_is | decide +kernel | k_exc | kx_is | rfl)
    (case gC6 => first | k_is | decide +kernel | k_exc | kx_is | rfl)
    (case gC7 => first | k_is | decide +kernel | k_exc | kx_is | rfl)
    (case g_is_int => first | k_is | decide +kernel | k_exc | kx_is | rfl)
    (case l_is_int => first | k_is | decide +kernel | k_exc | kx_is | rfl)
    (case c_is_int => first | k_is | decide +kernel | k_exc | kx_is | rfl)
    (case k_is_int => first | k_is | decide +kernel | k_exc | kx_is | rfl)
    (case g_Ratiodd_initdd => first | k_is | decide +kernel | k_exc | kx_is | rfl)
    (case i_Ratiodd_initdd => first | k_is | decide +kernel | k_exc | kx_is | rfl)
    (case l_Ratiodd_initdd => first | k_is | decide +kernel | k_exc | kx_is | rfl)
    (case c_Ratiodd_initdd => first | k_is | decide +kernel | k_exc | kx_is | rfl)
    (case k_Ratiodd_initdd => first | k_is | decide +kernel | k_exc | kx_is | rfl)
    (case z_Ratiodd_initdd => first | k_is | decide +kernel | k_exc | kx_is | rfl)
    (case g_is_number => first | k_is | decide +kernel | k_exc | kx_is | rfl)
    (case l_is_number => first | k_is | decide +kernel | k_exc | kx_is | rfl)
    (case c_is_number => first | k_is | decide +kernel | k_exc | kx_is | rfl)
    (case k_is_number => first | k_is | decide +kernel | k_exc | kx_is | rfl)
    (case g_as_ratio => first | k_is | decide +kernel | k_exc | kx_is | rfl)
    (case l_as_ratio => first | k_is | decide +kernel | k_exc | kx_is | rfl)
    (case c_as_ratio => first | k_is | decide +kernel | k_exc | kx_is | rfl)
    (case k_as_ratio => first | k_is | decide +kernel | k_exc | kx_is | rfl)
    (case g_Ratio_top => first | k_is | decide +kernel | k_exc | kx_is | rfl)
    (case pg_Ratio_top => first | k_is | decide +kernel | k_exc | kx_is | rfl)
    (case pt_Ratio_top => first | k_is | decide +kernel | k_exc | kx_is | rfl)
    (case pr_Ratio_top => first | k_is | decide +kernel | k_exc | kx_is | rfl)
    (case l_Ratio_top => first | k_is | decide +kernel | k_exc | kx_is | rfl)
    (case c_Ratio_top => first | k_is | decide +kernel | k_exc | kx_is | rfl)
    (case k_Ratio_top => first | k_is | decide +kernel | k_exc | kx_is | rfl)
    (case g_Ratio_bottom => first | k_is | decide +kernel | k_exc | kx_is | rfl)
    (case pg_Ratio_bottom => first | k_is | decide +kernel | k_exc | kx_is | rfl)
    (case pt_Ratio_bottom => first | k_is | decide +kernel | k_exc | kx_is | rfl)
    (case pr_Ratio_bottom => first | k_is | decide +kernel | k_exc | kx_is | rfl)
    (case l_Ratio_bottom => first | k_is | decide +kernel | k_exc | kx_is | rfl)
    (case c_Ratio_bottom => first | k_is | decide +kernel | k_exc | kx_is | rfl)
    (case k_Ratio_bottom => first | k_is | decide +kernel | k_exc | kx_is | rfl)
    (case g_Ratiodd_adddd => first | k_is | decide +kernel | k_exc | kx_is | rfl)
    (case i_Ratiodd_adddd => first | k_is | decide +kernel | k_exc | kx_is | rfl)
    (case l_Ratiodd_adddd => first | k_is | decide +kernel | k_exc | kx_is | rfl)
    (case c_Ratiodd_adddd => first | k_is | decide +kernel | k_exc | kx_is | rfl)
    (case k_Ratiodd_adddd => first | k_is | decide +kernel | k_exc | kx_is | rfl)
    (case g_Ratiodd_negdd => first | k_is | decide +kernel | k_exc | kx_is | rfl)
    (case i_Ratiodd_negdd => first | k_is | decide +kernel | k_exc | kx_is | rfl)
    (case l_Ratiodd_negdd => first | k_is | decide +kernel | k_exc | kx_is | rfl)
    (case c_Ratiodd_negdd => first | k_is | decide +kernel | k_exc | kx_is | rfl)
    (case k_Ratiodd_negdd => first | k_is | decide +kernel | k_exc | kx_is | rfl)
    (case g_Ratiodd_subdd => first | k_is | decide +kernel | k_exc | kx_is | rfl)
    (case i_Ratiodd_subdd => first | k_is | decide +kernel | k_exc | kx_is | rfl)
    (case l_Ratiodd_subdd => first | k_is | decide +kernel | k_exc | kx_is | rfl)
    (case c_Ratiodd_subdd => first | k_is | decide +kernel | k_exc | kx_is | rfl)
    (case k_Ratiodd_subdd => first | k_is | decide +kernel | k_exc | kx_is | rfl)
    (case g_Ratiodd_muldd => first | k_is | decide +kernel | k_exc | kx_is | rfl)
    (case i_Ratiodd_muldd => first | k_is | decide +kernel | k_exc | kx_is | rfl)
    (case l_Ratiodd_muldd => first | k_is | decide +kernel | k_exc | kx_is | rfl)
    (case c_Ratiodd_muldd => first | k_is | decide +kernel | k_exc | kx_is | rfl)
    (case k_Ratiodd_muldd => first | k_is | decide +kernel | k_exc | kx_is | rfl)
    (case g_Ratiodd_eqdd => first | k_is | decide +kernel | k_exc | kx_is | rfl)
    (case i_Ratiodd_eqdd => first | k_is | decide +kernel | k_exc | kx_is | rfl)
    (case l_Ratiodd_eqdd => first | k_is | decide +kernel | k_exc | kx_is | rfl)
    (case c_Ratiodd_eqdd => first | k_is | decide +kernel | k_exc | kx_is | rfl)
    (case k_Ratiodd_eqdd => first | k_is | decide +kernel | k_exc | kx_is | rfl)
    (case g_Ratiodd_ltdd => first | k_is | decide +kernel | k_exc | kx_is | rfl)
    (case i_Ratiodd_ltdd => first | k_is | decide +kernel | k_exc | kx_is | rfl)
    (case l_Ratiodd_ltdd => first | k_is | decide +kernel | k_exc | kx_is | rfl)
    (case c_Ratiodd_ltdd => first | k_is | decide +kernel | k_exc | kx_is | rfl)
    (case k_Ratiodd_ltdd => first | k_is | decide +kernel | k_exc | kx_is | rfl)
    (case g_Ratiodd_ledd => first | k_is | decide +kernel | k_exc | kx_is | rfl)
    (case i_Ratiodd_ledd => first | k_is | decide +kernel | k_exc | kx_is | rfl)
    (case l_Ratiodd_ledd => first | k_is | decide +kernel | k_exc | kx_is | rfl)
    (case c_Ratiodd_ledd => first | k_is | decide +kernel | k_exc | kx_is | rfl)
    (case k_Ratiodd_ledd => first | k_is | decide +kernel | k_exc | kx_is | rfl)
    (case g_is_list => first | k_is | decide +kernel | k_exc | kx_is | rfl)
    (case l_is_list => first | k_is | decide +kernel | k_exc | kx_is | rfl)
    (case c_is_list => first | k_is | decide +kernel | k_exc | kx_is | rfl)
    (case k_is_list => first | k_is | decide +kernel | k_exc | kx_is | rfl)
    (case g_is_time => first | k_is | decide +kernel | k_exc | kx_is | rfl)
    (case l_is_time => first | k_is | decide +kernel | k_exc | kx_is | rfl)
    (case c_is_time => first | k_is | decide +kernel | k_exc | kx_is | rfl)
    (case k_is_time => first | k_is | decide +kernel | k_exc | kx_is | rfl)
    (case g_is_row => first | k_is | decide +kernel | k_exc | kx_is | rfl)
    (case l_is_row => first | k_is | decide +kernel | k_exc | kx_is | rfl)
    (case c_is_row => first | k_is | decide +kernel | k_exc | kx_is | rfl)
    (case k_is_row => first | k_is | decide +kernel | k_exc | kx_is | rfl)
    (case g_is_table => first | k_is | decide +kernel | k_exc | kx_is | rfl)
    (case l_is_table => first | k_is | decide +kernel | k_exc | kx_is | rfl)
    (case c_is_table => first | k_is | decide +kernel | k_exc | kx_is | rfl)
    (case k_is_table => first | k_is | decide +kernel | k_exc | kx_is | rfl)
    (case g_is_index => first | k_is | decide +kernel | k_exc | kx_is | rfl)
    (case l_is_index => first | k_is | decide +kernel | k_exc | kx_is | rfl)
    (case c_is_index => first | k_is | decide +kernel | k_exc | kx_is | rfl)
    (case k_is_index => first | k_is | decide +kernel | k_exc | kx_is | rfl)
    (case g_Linedd_initdd => first | k_is | decide +kernel | k_exc | kx_is | rfl)
    (case i_Linedd_initdd => first | k_is | decide +kernel | k_exc | kx_is | rfl)
    (case l_Linedd_initdd => first | k_is | decide +kernel | k_exc | kx_is | rfl)
    (case c_Linedd_initdd => first | k_is | decide +kernel | k_exc | kx_is | rfl)
    (case k_Linedd_initdd => first | k_is | decide +kernel | k_exc | kx_is | rfl)
    (case g_Linedd_eqdd => first | k_is | decide +kernel | k_exc | kx_is | rfl)
    (case i_Linedd_eqdd => first | k_is | decide +kernel | k_exc | kx_is | rfl)
    (case l_Linedd_eqdd => first | k_is | decide +kernel | k_exc | kx_is | rfl)
    (case c_Linedd_eqdd => first | k_is | decide +kernel | k_exc | kx_is | rfl)
    (case k_Linedd_eqdd => first | k_is | decide +kernel | k_exc | kx_is | rfl)
    (case g_Line_jobs => first | k_is | decide +kernel | k_exc | kx_is | rfl)
    (case i_Line_jobs => first | k_is | decide +kernel | k_exc | kx_is | rfl)
    (case l_Line_jobs => first | k_is | decide +kernel | k_exc | kx_is | rfl)
    (case c_Line_jobs => first | k_is | decide +kernel | k_exc | kx_is | rfl)
    (case k_Line_jobs => first | k_is | decide +kernel | k_exc | kx_is | rfl)
    (case g_Line_rows => first | k_is | decide +kernel | k_exc | kx_is | rfl)
    (case i_Line_rows => first | k_is | decide +kernel | k_exc | kx_is | rfl)
    (case l_Line_rows => first | k_is | decide +kernel | k_exc | kx_is | rfl)
    (case c_Line_rows => first | k_is | decide +kernel | k_exc | kx_is | rfl)
    (case k_Line_rows => first | k_is | decide +kernel | k_exc | kx_is | rfl)
    (case g_check_job => first | k_is | decide +kernel | k_exc | kx_is | rfl)
    (case l_check_job => first | k_is | decide +kernel | k_exc | kx_is | rfl)
    (case c_check_job => first | k_is | decide +kernel | k_exc | kx_is | rfl)
    (case k_check_job => first | k_is | decide +kernel | k_exc | kx_is | rfl)
    (case g_check_stretch => first | k_is | decide +kernel | k_exc | kx_is | rfl)
    (case l_check_stretch => first | k_is | decide +kernel | k_exc | kx_is | rfl)
    (case c_check_stretch => first | k_is | decide +kernel | k_exc | kx_is | rfl)
    (case k_check_stretch => first | k_is | decide +kernel | k_exc | kx_is | rfl)
    (case g_Line_part => first | k_is | decide +kernel | k_exc | kx_is | rfl)
    (case i_Line_part => first | k_is | decide +kernel | k_exc | kx_is | rfl)
    (case l_Line_part => first | k_is | decide +kernel | k_exc | kx_is | rfl)
    (case c_Line_part => first | k_is | decide +kernel | k_exc | kx_is | rfl)
    (case k_Line_part => first | k_is | decide +kernel | k_exc | kx_is | rfl)
    (case g_Line_backwards => first | k_is | decide +kernel | k_exc | kx_is | rfl)
    (case i_Line_backwards => first | k_is | decide +kernel | k_exc | kx_is | rfl)
    (case l_Line_backwards => first | k_is | decide +kernel | k_exc | kx_is | rfl)
    (case c_Line_backwards => first | k_is | decide +kernel | k_exc | kx_is | rfl)
    (case k_Line_backwards => first | k_is | decide +kernel | k_exc | kx_is | rfl)
    (case g__law_tape => first | k_is | decide +kernel | k_exc | kx_is | rfl)
    (case l__law_tape => first | k_is | decide +kernel | k_exc | kx_is | rfl)
    (case c__law_tape => first | k_is | decide +kernel | k_exc | kx_is | rfl)
    (case k__law_tape => first | k_is | decide +kernel | k_exc | kx_is | rfl)
    (case g__law_pick => first | k_is | decide +kernel | k_exc | kx_is | rfl)
    (case l__law_pick => first | k_is | decide +kernel | k_exc | kx_is | rfl)
    (case c__law_pick => first | k_is | decide +kernel | k_exc | kx_is | rfl)
    (case k__law_pick => first | k_is | decide +kernel | k_exc | kx_is | rfl)
    (case g__law_size => first | k_is | decide +kernel | k_exc | kx_is | rfl)
    (case l__law_size => first | k_is | decide +kernel | k_exc | kx_is | rfl)
    (case c__law_size => first | k_is | decide +kernel | k_exc | kx_is | rfl)
    (case k__law_size => first | k_is | decide +kernel | k_exc | kx_is | rfl)
    (case g__law_stretch => first | k_is | decide +kernel | k_exc | kx_is | rfl)
    (case l__law_stretch => first | k_is | decide +kernel | k_exc | kx_is | rfl)
    (case c__law_stretch => first | k_is | decide +kernel | k_exc | kx_is | rfl)
    (case k__law_stretch => first | k_is | decide +kernel | k_exc | kx_is | rfl)
    (case g__law_grid => first | k_is | decide +kernel | k_exc | kx_is | rfl)
    (case l__law_grid => first | k_is | decide +kernel | k_exc | kx_is | rfl)
    (case c__law_grid => first | k_is | decide +kernel | k_exc | kx_is | rfl)
    (case k__law_grid => first | k_is | decide +kernel | k_exc | kx_is | rfl)
    (case g__law_made => first | k_is | decide +kernel | k_exc | kx_is | rfl)
    (case l__law_made => first | k_is | decide +kernel | k_exc | kx_is | rfl)
    (case c__law_made => first | k_is | decide +kernel | k_exc | kx_is | rfl)
    (case k__law_made => first | k_is | decide +kernel | k_exc | kx_is | rfl)
    (case g__law_shown => first | k_is | decide +kernel | k_exc | kx_is | rfl)
    (case l__law_shown => first | k_is | decide +kernel | k_exc | kx_is | rfl)
    (case c__law_shown => first | k_is | decide +kernel | k_exc | kx_is | rfl)
    (case k__law_shown => first | k_is | decide +kernel | k_exc | kx_is | rfl)
    (case g__law_part => first | k_is | decide +kernel | k_exc | kx_is | rfl)
    (case l__law_part => first | k_is | decide +kernel | k_exc | kx_is | rfl)
    (case c__law_part => first | k_is | decide +kernel | k_exc | kx_is | rfl)
    (case k__law_part => first | k_is | decide +kernel | k_exc | kx_is | rfl)
    (case g_law => first | k_is | decide +kernel | k_exc | kx_is | rfl)
    (case l_law => first | k_is | decide +kernel | k_exc | kx_is | rfl)
    (case c_law => first | k_is | decide +kernel | k_exc | kx_is | rfl)
    (case k_law => first | k_is | decide +kernel | k_exc | kx_is | rfl)
    (case pgC0 => first | k_is | decide +kernel | k_exc | kx_is | rfl)
    (case hdC0 => first | k_is | decide +kernel | k_exc | kx_is | rfl)
    (case poC0 => first | k_is | decide +kernel | k_exc | kx_is | rfl)
    (case saC0 => first | k_is | decide +kernel | k_exc | kx_is | rfl)
    (case noC0_top => first | k_is | decide +kernel | k_exc | kx_is | rfl)
    (case noC0_bottom => first | k_is | decide +kernel | k_exc | kx_is | rfl)
    (case caC0 => first | k_is | decide +kernel | k_exc | kx_is | rfl)
    (case cmC0 => first | k_is | decide +kernel | k_exc | kx_is | rfl)
    (case mkC0 => first | k_is | decide +kernel | k_exc | kx_is | rfl)
    (case kpC0 => first | k_is | decide +kernel | k_exc | kx_is | rfl)
    (case neC0 => first | k_is | decide +kernel | k_exc | kx_is | rfl)
    (case pgC1 => first | k_is | decide +kernel | k_exc | kx_is | rfl)
    (case hdC1 => first | k_is | decide +kernel | k_exc | kx_is | rfl)
    (case poC1 => first | k_is | decide +kernel | k_exc | kx_is | rfl)
    (case saC1 => first | k_is | decide +kernel | k_exc | kx_is | rfl)
    (case noC1_rows => first | k_is | decide +kernel | k_exc | kx_is | rfl)
    (case caC1 => first | k_is | decide +kernel | k_exc | kx_is | rfl)
    (case cmC1 => first | k_is | decide +kernel | k_exc | kx_is | rfl)
    (case mkC1 => first | k_is | decide +kernel | k_exc | kx_is | rfl)
    (case kpC1 => first | k_is | decide +kernel | k_exc | kx_is | rfl)
    (case neC1 => first | k_is | decide +kernel | k_exc | kx_is | rfl)
    (case cn => first | k_is | decide +kernel | k_exc | kx_is | rfl)
    (case ct => first | k_is | decide +kernel | k_exc | kx_is | rfl)
    (case exC2 => first | k_is | decide +kernel | k_exc | kx_is | rfl)
    (case tyC2 => first | k_is | decide +kernel | k_exc | kx_is | rfl)
    (case keC2 => first | k_is | decide +kernel | k_exc | kx_is | rfl)
    (case xiC2 => first | k_is | decide +kernel | k_exc | kx_is | rfl)
    (case sxC4 => first | k_is | decide +kernel | k_exc | kx_is | rfl)
    (case exC4 => first | k_is | decide +kernel | k_exc | kx_is | rfl)
    (case tyC4 => first | k_is | decide +kernel | k_exc | kx_is | rfl)
    (case keC4 => first | k_is | decide +kernel | k_exc | kx_is | rfl)
    (case xlC4 => first | k_is | decide +kernel | k_exc | kx_is | rfl)
    (case xbC4 => first | k_is | decide +kernel | k_exc | kx_is | rfl)
    (case giC4 => first | k_is | decide +kernel | k_exc | kx_is | rfl)
    (case tiC4 => first | k_is | decide +kernel | k_exc | kx_is | rfl)
    (case nfC4 => first | k_is | decide +kernel | k_exc | kx_is | rfl)
    (case l_iniC4 => first | k_is | decide +kernel | k_exc | kx_is | rfl)
    (case c_iniC4 => first | k_is | decide +kernel | k_exc | kx_is | rfl)
    (case k_iniC4 => first | k_is | decide +kernel | k_exc | kx_is | rfl)
    (case sxC5 => first | k_is | decide +kernel | k_exc | kx_is | rfl)
    (case exC5 => first | k_is | decide +kernel | k_exc | kx_is | rfl)
    (case tyC5 => first | k_is | decide +kernel | k_exc | kx_is | rfl)
    (case keC5 => first | k_is | decide +kernel | k_exc | kx_is | rfl)
    (case xlC5 => first | k_is | decide +kernel | k_exc | kx_is | rfl)
    (case xbC5 => first | k_is | decide +kernel | k_exc | kx_is | rfl)
    (case giC5 => first | k_is | decide +kernel | k_exc | kx_is | rfl)
    (case tiC5 => first | k_is | decide +kernel | k_exc | kx_is | rfl)
    (case nfC5 => first | k_is | decide +kernel | k_exc | kx_is | rfl)
    (case l_iniC5 => first | k_is | decide +kernel | k_exc | kx_is | rfl)
    (case c_iniC5 => first | k_is | decide +kernel | k_exc | kx_is | rfl)
    (case k_iniC5 => first | k_is | decide +kernel | k_exc | kx_is | rfl)
    (case sxC6 => first | k_is | decide +kernel | k_exc | kx_is | rfl)
    (case exC6 => first | k_is | decide +kernel | k_exc | kx_is | rfl)
    (case tyC6 => first | k_is | decide +kernel | k_exc | kx_is | rfl)
    (case keC6 => first | k_is | decide +kernel | k_exc | kx_is | rfl)
    (case xlC6 => first | k_is | decide +kernel | k_exc | kx_is | rfl)
    (case xbC6 => first | k_is | decide +kernel | k_exc | kx_is | rfl)
    (case giC6 => first | k_is | decide +kernel | k_exc | kx_is | rfl)
    (case tiC6 => first | k_is | decide +kernel | k_exc | kx_is | rfl)
    (case nfC6 => first | k_is | decide +kernel | k_exc | kx_is | rfl)
    (case l_iniC6 => first | k_is | decide +kernel | k_exc | kx_is | rfl)
    (case c_iniC6 => first | k_is | decide +kernel | k_exc | kx_is | rfl)
    (case k_iniC6 => first | k_is | decide +kernel | k_exc | kx_is | rfl)
    (case sxC7 => first | k_is | decide +kernel | k_exc | kx_is | rfl)
    (case exC7 => first | k_is | decide +kernel | k_exc | kx_is | rfl)
    (case tyC7 => first | k_is | decide +kernel | k_exc | kx_is | rfl)
    (case keC7 => first | k_is | decide +kernel | k_exc | kx_is | rfl)
    (case xlC7 => first | k_is | decide +kernel | k_exc | kx_is | rfl)
    (case xbC7 => first | k_is | decide +kernel | k_exc | kx_is | rfl)
    (case giC7 => first | k_is | decide +kernel | k_exc | kx_is | rfl)
    (case tiC7 => first | k_is | decide +kernel | k_exc | kx_is | rfl)
    (case nfC7 => first | k_is | decide +kernel | k_exc | kx_is | rfl)
    (case l_iniC7 => first | k_is | decide +kernel | k_exc | kx_is | rfl)
    (case c_iniC7 => first | k_is | decide +kernel | k_exc | kx_is | rfl)
    (case k_iniC7 => first | k_is | decide +kernel | k_exc | kx_is | rfl)
    (case gaC7 => first | k_is | decide +kernel | k_exc | kx_is | rfl)
    (case ggC7 => first | k_is | decide +kernel | k_exc | kx_is | rfl)
    (case hxC7 => first | k_is | decide +kernel | k_exc | kx_is | rfl)
    (case xoC7 => first | k_is | decide +kernel | k_exc | kx_is | rfl)
    (case z_range => first | k_is | decide +kernel | k_exc | kx_is | rfl)
    (case z_isinstance => first | k_is | decide +kernel | k_exc | kx_is | rfl)
    (case z_len => first | k_is | decide +kernel | k_exc | kx_is | rfl)
    (case z_all => first | k_is | decide +kernel | k_exc | kx_is | rfl)
    (case z_list => first | k_is | decide +kernel | k_exc | kx_is | rfl)
    (case z_tuple => first | k_is | decide +kernel | k_exc | kx_is | rfl)
    (case z_int => first | k_is | decide +kernel | k_exc | kx_is | rfl)
    (case z_bool => first | k_is | decide +kernel | k_exc | kx_is | rfl)
    (case z_abs => first | k_is | decide +kernel | k_exc | kx_is | rfl)
    (case z_max => first | k_is | decide +kernel | k_exc | kx_is | rfl)
    (case z_min => first | k_is | decide +kernel | k_exc | kx_is | rfl)
    (case z_dict => first | k_is | decide +kernel | k_exc | kx_is | rfl)
    (case z_repr => first | k_is | decide +kernel | k_exc | kx_is | rfl)
    (case z_gcd => first | k_is | decide +kernel | k_exc | kx_is | rfl)
    (case z_MOST_SERVERS => first | k_is | decide +kernel | k_exc | kx_is | rfl)
    (case z_MOST_JOBS => first | k_is | decide +kernel | k_exc | kx_is | rfl)
    (case kit_int_NoneType => first | k_is | decide +kernel | k_exc | kx_is | rfl)
    (case kit_int_bool => first | k_is | decide +kernel | k_exc | kx_is | rfl)
    (case kit_int_int => first | k_is | decide +kernel | k_exc | kx_is | rfl)
    (case kit_int_str => first | k_is | decide +kernel | k_exc | kx_is | rfl)
    (case kit_int_list => first | k_is | decide +kernel | k_exc | kx_is | rfl)
    (case kit_int_tuple => first | k_is | decide +kernel | k_exc | kx_is | rfl)
    (case kit_int_dict => first | k_is | decide +kernel | k_exc | kx_is | rfl)
    (case kit_int_C0 => first | k_is | decide +kernel | k_exc | kx_is | rfl)
    (case kit_int_C1 => first | k_is | decide +kernel | k_exc | kx_is | rfl)
    (case kit_bool_NoneType => first | k_is | decide +kernel | k_exc | kx_is | rfl)
    (case kit_bool_bool => first | k_is | decide +kernel | k_exc | kx_is | rfl)
    (case kit_bool_int => first | k_is | decide +kernel | k_exc | kx_is | rfl)
    (case kit_bool_str => first | k_is | decide +kernel | k_exc | kx_is | rfl)
    (case kit_bool_list => first | k_is | decide +kernel | k_exc | kx_is | rfl)
    (case kit_bool_tuple => first | k_is | decide +kernel | k_exc | kx_is | rfl)
    (case kit_bool_dict => first | k_is | decide +kernel | k_exc | kx_is | rfl)
    (case kit_bool_C0 => first | k_is | decide +kernel | k_exc | kx_is | rfl)
    (case kit_bool_C1 => first | k_is | decide +kernel | k_exc | kx_is | rfl)
    (case kit_list_NoneType => first | k_is | decide +kernel | k_exc | kx_is | rfl)
    (case kit_list_bool => first | k_is | decide +kernel | k_exc | kx_is | rfl)
    (case kit_list_int => first | k_is | decide +kernel | k_exc | kx_is | rfl)
    (case kit_list_str => first | k_is | decide +kernel | k_exc | kx_is | rfl)
    (case kit_list_list => first | k_is | decide +kernel | k_exc | kx_is | rfl)
    (case kit_list_tuple => first | k_is | decide +kernel | k_exc | kx_is | rfl)
    (case kit_list_dict => first | k_is | decide +kernel | k_exc | kx_is | rfl)
    (case kit_list_C0 => first | k_is | decide +kernel | k_exc | kx_is | rfl)
    (case kit_list_C1 => first | k_is | decide +kernel | k_exc | kx_is | rfl)
    (case kit_tuple_NoneType => first | k_is | decide +kernel | k_exc | kx_is | rfl)
    (case kit_tuple_bool => first | k_is | decide +kernel | k_exc | kx_is | rfl)
    (case kit_tuple_int => first | k_is | decide +kernel | k_exc | kx_is | rfl)
    (case kit_tuple_str => first | k_is | decide +kernel | k_exc | kx_is | rfl)
    (case kit_tuple_list => first | k_is | decide +kernel | k_exc | kx_is | rfl)
    (case kit_tuple_tuple => first | k_is | decide +kernel | k_exc | kx_is | rfl)
    (case kit_tuple_dict => first | k_is | decide +kernel | k_exc | kx_is | rfl)
    (case kit_tuple_C0 => first | k_is | decide +kernel | k_exc | kx_is | rfl)
    (case kit_tuple_C1 => first | k_is | decide +kernel | k_exc | kx_is | rfl)
    (case kit_dict_NoneType => first | k_is | decide +kernel | k_exc | kx_is | rfl)
    (case kit_dict_bool => first | k_is | decide +kernel | k_exc | kx_is | rfl)
    (case kit_dict_int => first | k_is | decide +kernel | k_exc | kx_is | rfl)
    (case kit_dict_str => first | k_is | decide +kernel | k_exc | kx_is | rfl)
    (case kit_dict_list => first | k_is | decide +kernel | k_exc | kx_is | rfl)
    (case kit_dict_tuple => first | k_is | decide +kernel | k_exc | kx_is | rfl)
    (case kit_dict_dict => first | k_is | decide +kernel | k_exc | kx_is | rfl)
    (case kit_dict_C0 => first | k_is | decide +kernel | k_exc | kx_is | rfl)
    (case kit_dict_C1 => first | k_is | decide +kernel | k_exc | kx_is | rfl)
    (case kit_Ratio_NoneType => first | k_is | decide +kernel | k_exc | kx_is | rfl)
    (case kit_Ratio_bool => first | k_is | decide +kernel | k_exc | kx_is | rfl)
    (case kit_Ratio_int => first | k_is | decide +kernel | k_exc | kx_is | rfl)
    (case kit_Ratio_str => first | k_is | decide +kernel | k_exc | kx_is | rfl)
    (case kit_Ratio_list => first | k_is | decide +kernel | k_exc | kx_is | rfl)
    (case kit_Ratio_tuple => first | k_is | decide +kernel | k_exc | kx_is | rfl)
    (case kit_Ratio_dict => first | k_is | decide +kernel | k_exc | kx_is | rfl)
    (case kit_Ratio_C0 => first | k_is | decide +kernel | k_exc | kx_is | rfl)
    (case kit_Ratio_C1 => first | k_is | decide +kernel | k_exc | kx_is | rfl)
    (case kit_Line_NoneType => first | k_is | decide +kernel | k_exc | kx_is | rfl)
    (case kit_Line_bool => first | k_is | decide +kernel | k_exc | kx_is | rfl)
    (case kit_Line_int => first | k_is | decide +kernel | k_exc | kx_is | rfl)
    (case kit_Line_str => first | k_is | decide +kernel | k_exc | kx_is | rfl)
    (case kit_Line_list => first | k_is | decide +kernel | k_exc | kx_is | rfl)
    (case kit_Line_tuple => first | k_is | decide +kernel | k_exc | kx_is | rfl)
    (case kit_Line_dict => first | k_is | decide +kernel | k_exc | kx_is | rfl)
    (case kit_Line_C0 => first | k_is | decide +kernel | k_exc | kx_is | rfl)
    (case kit_Line_C1 => first | k_is | decide +kernel | k_exc | kx_is | rfl)
    (case f_C0_C0 => first | k_is | decide +kernel | k_exc | kx_is | rfl)
    (case f_C0_int => first | k_is | decide +kernel | k_exc | kx_is | rfl)
    (case f_C0_C1 => first | k_is | decide +kernel | k_exc | kx_is | rfl)
    (case f_C1_C1 => first | k_is | decide +kernel | k_exc | kx_is | rfl)
    (case f_C0_NoneType => first | k_is | decide +kernel | k_exc | kx_is | rfl)
    (case f_C0_bool => first | k_is | decide +kernel | k_exc | kx_is | rfl)
    (case f_C0_str => first | k_is | decide +kernel | k_exc | kx_is | rfl)
    (case f_C0_list => first | k_is | decide +kernel | k_exc | kx_is | rfl)
    (case f_C0_tuple => first | k_is | decide +kernel | k_exc | kx_is | rfl)
    (case sfC0 => first | k_is | decide +kernel | k_exc | kx_is | rfl)
    (case neq_0_1 => first | k_is | decide +kernel | k_exc | kx_is | rfl)
