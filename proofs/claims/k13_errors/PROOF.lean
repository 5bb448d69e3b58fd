import PyProof.Rows.All
import Wide.All
import OpenK.AllK
import Wide.FinOn
import HandS.ForMost
import HandS.Wide
import HandS.Defaults
import HandS.IsInst
import HandS.ExcInit
import HandS.Exc
import HandS.ExcField
import HandS.ExcIs
import HandS.ExcOwn
import HandS.ClsMeth
import KE.KIsAll
import KE.KTryMore
import HandS.ExcValue
import HandS.Text
import HandS.SetFor
import HandS.HeadHook1
import HandS.HeadHook2
import PyProof.EqKinds
import KE.KStateDown
import Lean
import HandS.Ends
import HandS.More
import HandS.Words
import HandS.WordsExc
import HandS.Head0
import HandS.Head1
import HandS.Head2
import HandS.HeadEnd
import PySem.Challenge.RW_beadmoot_k13_errors
section
set_option autoImplicit false
set_option Elab.async false
set_option linter.all false
set_option maxRecDepth 100000
set_option maxHeartbeats 4000000
namespace Pd
open PySem PySem.Spec PyProof.Rows L2

/-! ### data -/
inductive D where
  | non | bl (b : Bool) | int (i : Int) | str (x : Str) | lst (ds : List D) | tup (ds : List D) | rol (ds : List D) | ty (n : String) | adr (a : Addr)
  | obj (C : Addr) (fs : List (Str × D)) | exc (a dd : Addr) (fs : List (Str × D)) | dK (kvs : List (Key × D)) | dT (kvs : List (List Key × D))
  | ev (C : Addr) (fs : List (Str × D))

mutual
inductive Rep (K : PySem.W.Frag) (H : Hp) : V → D → Prop
  | non : Rep K H .non .non
  | bl (b : Bool) : Rep K H (.bl b) (.bl b)
  | int (i : Int) : Rep K H (.int i) (.int i)
  | str (x : Str) : Rep K H (.str x) (.str x)
  | ty (n : String) : Rep K H (.ty n) (.ty n)
  | adr (a : Addr) : Rep K H (.ref a) (.adr a)
  | lst {a : Addr} {vs : List V} {ds : List D} : H a = some (.lst vs) → Reps K H vs ds → Rep K H (.ref a) (.lst ds)
  | rol {a : Addr} {vs : List V} {ds : List D} : SqL K H a vs → Reps K H vs ds → Rep K H (.ref a) (.rol ds)
  | tup {a : Addr} {vs : List V} {ds : List D} : SqT K H a vs → Reps K H vs ds → Rep K H (.ref a) (.tup ds)
  | obj {a C dx : Addr} {vs : List (Str × V)} {ds : List (Str × D)} : H a = some (.ins C dx vs) → RepF K H vs ds → Rep K H (.ref a) (.obj C ds)
  | exc {a dd : Addr} {vs : List (Str × V)} {ds : List (Str × D)} : H dd = some (.xd vs) → RepF K H vs ds → Rep K H (.ref a) (.exc a dd ds)
  | dK {a : Addr} {vs : List (Key × V)} {ds : List (Key × D)} : H a = some (.dK vs) → RepK K H vs ds → Rep K H (.ref a) (.dK ds)
  | dT {a : Addr} {vs : List (List Key × V)} {ds : List (List Key × D)} : H a = some (.dT vs) → RepT K H vs ds → Rep K H (.ref a) (.dT ds)
  | ev0 {a C : Addr} : H a = some (exo a C none) → Rep K H (.ref a) (.ev C [])
  | ev1 {a C dx : Addr} {vs : List (Str × V)} {ds : List (Str × D)} : H a = some (exo a C (some dx)) → H dx = some (exd dx vs) → RepF K H vs ds → Rep K H (.ref a) (.ev C ds)
inductive Reps (K : PySem.W.Frag) (H : Hp) : List V → List D → Prop
  | nil : Reps K H [] []
  | cons {v : V} {d : D} {vs : List V} {ds : List D} : Rep K H v d → Reps K H vs ds → Reps K H (v :: vs) (d :: ds)
inductive RepF (K : PySem.W.Frag) (H : Hp) : List (Str × V) → List (Str × D) → Prop
  | nil : RepF K H [] []
  | cons {x : Str} {v : V} {d : D} {vs : List (Str × V)} {ds : List (Str × D)} : Rep K H v d → RepF K H vs ds → RepF K H ((x, v) :: vs) ((x, d) :: ds)
inductive RepK (K : PySem.W.Frag) (H : Hp) : List (Key × V) → List (Key × D) → Prop
  | nil : RepK K H [] []
  | cons {x : Key} {v : V} {d : D} {vs : List (Key × V)} {ds : List (Key × D)} : Rep K H v d → RepK K H vs ds → RepK K H ((x, v) :: vs) ((x, d) :: ds)
inductive RepT (K : PySem.W.Frag) (H : Hp) : List (List Key × V) → List (List Key × D) → Prop
  | nil : RepT K H [] []
  | cons {x : List Key} {v : V} {d : D} {vs : List (List Key × V)} {ds : List (List Key × D)} : Rep K H v d → RepT K H vs ds → RepT K H ((x, v) :: vs) ((x, d) :: ds)
end

/-- a field is put -/
def putFD (f : Str) (d : D) : List (Str × D) → List (Str × D)
  | [] => [(f, d)]
  | (x, y) :: r => if x = f then (x, d) :: r else (x, y) :: putFD f d r
theorem rd_mono {H H' : Hp} {a : Addr} {u : HO} (e : Same H H') (h : Rd H a u) : Rd H' a u := by
  rcases h with h | ⟨o, h⟩
  · exact Or.inl (e a _ h)
  · exact Or.inr ⟨o, e a _ h⟩
theorem sqL_mono {K : PySem.W.Frag} {H H' : Hp} {a : Addr} {xs : List V} (e : Same H H') (h : SqL K H a xs) : SqL K H' a xs := by
  rcases h with h | h
  · exact Or.inl (rd_mono e h)
  · exact Or.inr h
theorem sqT_mono {K : PySem.W.Frag} {H H' : Hp} {a : Addr} {xs : List V} (e : Same H H') (h : SqT K H a xs) : SqT K H' a xs := by
  rcases h with h | h
  · exact Or.inl (rd_mono e h)
  · exact Or.inr h
mutual
theorem Rep.mono {K : PySem.W.Frag} {H H' : Hp} (e : Same H H') : ∀ {v : V} {d : D}, Rep K H v d → Rep K H' v d
  | _, _, .non => .non
  | _, _, .bl b => .bl b
  | _, _, .int i => .int i
  | _, _, .str x => .str x
  | _, _, .ty n => .ty n
  | _, _, .adr a => .adr a
  | _, _, .lst h r => .lst (e _ _ h) (Reps.mono e r)
  | _, _, .rol h r => .rol (sqL_mono e h) (Reps.mono e r)
  | _, _, .tup h r => .tup (sqT_mono e h) (Reps.mono e r)
  | _, _, .obj h r => .obj (e _ _ h) (RepF.mono e r)
  | _, _, .exc h r => .exc (e _ _ h) (RepF.mono e r)
  | _, _, .dK h r => .dK (e _ _ h) (RepK.mono e r)
  | _, _, .dT h r => .dT (e _ _ h) (RepT.mono e r)
  | _, _, .ev0 h => .ev0 (e _ _ h)
  | _, _, .ev1 h q r => .ev1 (e _ _ h) (e _ _ q) (RepF.mono e r)
theorem Reps.mono {K : PySem.W.Frag} {H H' : Hp} (e : Same H H') : ∀ {v : List V} {d : List D}, Reps K H v d → Reps K H' v d
  | _, _, .nil => .nil
  | _, _, .cons r t => .cons (Rep.mono e r) (Reps.mono e t)
theorem RepF.mono {K : PySem.W.Frag} {H H' : Hp} (e : Same H H') : ∀ {v : List (Str × V)} {d : List (Str × D)}, RepF K H v d → RepF K H' v d
  | _, _, .nil => .nil
  | _, _, .cons r t => .cons (Rep.mono e r) (RepF.mono e t)
theorem RepK.mono {K : PySem.W.Frag} {H H' : Hp} (e : Same H H') : ∀ {v : List (Key × V)} {d : List (Key × D)}, RepK K H v d → RepK K H' v d
  | _, _, .nil => .nil
  | _, _, .cons r t => .cons (Rep.mono e r) (RepK.mono e t)
theorem RepT.mono {K : PySem.W.Frag} {H H' : Hp} (e : Same H H') : ∀ {v : List (List Key × V)} {d : List (List Key × D)}, RepT K H v d → RepT K H' v d
  | _, _, .nil => .nil
  | _, _, .cons r t => .cons (Rep.mono e r) (RepT.mono e t)
end
theorem Reps.length {K : PySem.W.Frag} {H : Hp} : ∀ {vs : List V} {ds : List D}, Reps K H vs ds → vs.length = ds.length
  | _, _, .nil => rfl
  | _, _, .cons _ t => congrArg Nat.succ (Reps.length t)
theorem Reps.get {K : PySem.W.Frag} {H : Hp} : ∀ {vs : List V} {ds : List D} {i : Nat} {d : D}, Reps K H vs ds → ds[i]? = some d → ∃ v, vs[i]? = some v ∧ Rep K H v d
  | _, _, _, _, .nil, e => by simp at e
  | _, _, 0, _, .cons r _, e => by simp at e; subst e; exact ⟨_, rfl, r⟩
  | _, _, i + 1, d, .cons _ t, e => by
    obtain ⟨v, h1, h2⟩ := Reps.get (i := i) (d := d) t (by simpa using e)
    exact ⟨v, by simpa using h1, h2⟩
theorem Reps.getV {K : PySem.W.Frag} {H : Hp} : ∀ {vs : List V} {ds : List D} {i : Nat} {v : V}, Reps K H vs ds → vs[i]? = some v → ∃ d, ds[i]? = some d ∧ Rep K H v d
  | _, _, _, _, .nil, e => by simp at e
  | _, _, 0, _, .cons r _, e => by simp at e; subst e; exact ⟨_, rfl, r⟩
  | _, _, i + 1, v, .cons _ t, e => by
    obtain ⟨d, h1, h2⟩ := Reps.getV (i := i) (v := v) t (by simpa using e)
    exact ⟨d, by simpa using h1, h2⟩
theorem Reps.append {K : PySem.W.Frag} {H : Hp} : ∀ {vs us : List V} {ds es : List D}, Reps K H vs ds → Reps K H us es → Reps K H (vs ++ us) (ds ++ es)
  | _, _, _, _, .nil, h => h
  | _, _, _, _, .cons r t, h => .cons r (Reps.append t h)
theorem Reps.take {K : PySem.W.Frag} {H : Hp} : ∀ {vs : List V} {ds : List D} (n : Nat), Reps K H vs ds → Reps K H (vs.take n) (ds.take n)
  | _, _, 0, _ => .nil
  | _, _, _ + 1, .nil => .nil
  | _, _, n + 1, .cons r t => .cons r (Reps.take n t)
theorem Reps.drop {K : PySem.W.Frag} {H : Hp} : ∀ {vs : List V} {ds : List D} (n : Nat), Reps K H vs ds → Reps K H (vs.drop n) (ds.drop n)
  | _, _, 0, h => h
  | _, _, _ + 1, .nil => .nil
  | _, _, n + 1, .cons _ t => Reps.drop n t
theorem Reps.set {K : PySem.W.Frag} {H : Hp} {v : V} {d : D} (r : Rep K H v d) : ∀ {vs : List V} {ds : List D} (n : Nat), Reps K H vs ds → Reps K H (vs.set n v) (ds.set n d)
  | _, _, _, .nil => .nil
  | _, _, 0, .cons _ t => .cons r t
  | _, _, n + 1, .cons q t => .cons q (Reps.set r n t)
theorem Reps.ints {K : PySem.W.Frag} {H : Hp} : ∀ {vs : List V} {ns : List Int}, Reps K H vs (ns.map D.int) → vs = ns.map V.int
  | [], [], _ => rfl
  | [], _ :: _, h => by cases h
  | _ :: _, [], h => by cases h
  | v :: vs, n :: ns, h => by
    cases h with
    | cons r t => cases r; rw [Reps.ints t] <;> rfl
theorem Reps.of_ints {K : PySem.W.Frag} {H : Hp} : ∀ (ns : List Int), Reps K H (ns.map V.int) (ns.map D.int)
  | [] => .nil
  | n :: ns => .cons (.int n) (Reps.of_ints ns)
theorem RepF.get {K : PySem.W.Frag} {H : Hp} {f : Str} {d : D} : ∀ {vs : List (Str × V)} {ds : List (Str × D)}, RepF K H vs ds → ds.lookup f = some d → ∃ v, vs.lookup f = some v ∧ Rep K H v d
  | _, _, .nil, e => by cases e
  | _, _, .cons (x := x) r t, e => by
    simp only [List.lookup] at e ⊢
    cases q : (f == x) with
    | true =>
      rw [q] at e
      cases e
      exact ⟨_, rfl, r⟩
    | false =>
      rw [q] at e
      exact RepF.get t e

theorem RepF.put {K : PySem.W.Frag} {H : Hp} {f : Str} {v : V} {d : D} (r : Rep K H v d) : ∀ {vs : List (Str × V)} {ds : List (Str × D)}, RepF K H vs ds → RepF K H (putF f v vs) (putFD f d ds)
  | _, _, .nil => .cons r .nil
  | _, _, .cons (x := x) q t => by
    unfold putF putFD
    by_cases h : x = f
    · rw [if_pos h, if_pos h]; exact .cons r t
    · rw [if_neg h, if_neg h]; exact .cons q (RepF.put r t)
theorem RepF.none_of {K : PySem.W.Frag} {H : Hp} {f : Str} : ∀ {vs : List (Str × V)} {ds : List (Str × D)}, RepF K H vs ds → ds.lookup f = none → vs.lookup f = none
  | _, _, .nil, _ => rfl
  | _, _, .cons (x := x) q t, e => by
    simp only [List.lookup] at e ⊢
    cases h : (f == x) with
    | true => rw [h] at e; cases e
    | false => rw [h] at e; exact RepF.none_of t e
theorem RepF.length {K : PySem.W.Frag} {H : Hp} : ∀ {vs : List (Str × V)} {ds : List (Str × D)}, RepF K H vs ds → vs.length = ds.length
  | _, _, .nil => rfl
  | _, _, .cons _ t => congrArg Nat.succ (RepF.length t)
/-! ### heaps: what is shared, what there is -/
structure Gr (Hs H Hs' H' : Hp) : Prop where
  sh : Same Hs Hs'
  ext : Same H H'
  sub : Same Hs' H'
  loc : ∀ a, H a ≠ none → Hs a = none → Hs' a = none
theorem Gr.refl {Hs H : Hp} (s : Same Hs H) : Gr Hs H Hs H := ⟨Same.refl _, Same.refl _, s, fun _ _ h => h⟩
theorem Gr.trans {Hs H Hs1 H1 Hs2 H2 : Hp} (a : Gr Hs H Hs1 H1) (b : Gr Hs1 H1 Hs2 H2) : Gr Hs H Hs2 H2 := ⟨a.sh.trans b.sh, a.ext.trans b.ext, b.sub, fun x h h' => b.loc x (fun q => by
  cases e : H x with
  | none => exact h e
  | some o =>
    have z := a.ext x o e
    rw [q] at z
    cases z) (a.loc x h h')⟩
/-- a new thing, shared -/
theorem Gr.new {Hs H : Hp} (s : Same Hs H) {p : Addr} {o : HO} (h : H p = none) : Gr Hs H (upd Hs p o) (upd H p o) where
  sh := fun a u e => by
    have : H a = some u := s a u e
    rw [upd_ne (ne_of_none this h)]; exact e
  ext := fun a u e => by rw [upd_ne (ne_of_none e h)]; exact e
  sub := fun a u e => by
    by_cases q : a = p
    · subst q; rw [upd_same] at e ⊢; exact e
    · rw [upd_ne q] at e ⊢; exact s a u e
  loc := fun a h1 h2 => by
    have : a ≠ p := fun q => h1 (by rw [q]; exact h)
    rw [upd_ne this]; exact h2
theorem Same.none {H H' : Hp} (e : Same H H') {l : Addr} (h : H' l = Option.none) : H l = Option.none := e.free h

/-! ### what an expression gives -/
/-- a slot: nothing known; a value; a list of one's own -/
inductive Sl where
  | no | sh (d : D) | ow (ds : List D) | ob (p C : Addr) (fs : List (Str × D))
structure SE (K : PySem.W.Frag) (Hs : Hp) (σ : L2.St) (γ : List Sl) : Prop where
  len : σ.length = γ.length
  sh : ∀ (i : Nat) (d : D), γ[i]? = some (Sl.sh d) → ∃ v, σ[i]? = some (some v) ∧ Rep K Hs v d
theorem SE.mono {K : PySem.W.Frag} {Hs Hs' : Hp} {σ : L2.St} {γ : List Sl} (e : Same Hs Hs') (h : SE K Hs σ γ) : SE K Hs' σ γ := ⟨h.len, fun i d q => let ⟨v, a, b⟩ := h.sh i d q; ⟨v, a, b.mono e⟩⟩

def wE (X : Cx) (e : Expr) : TE := fun σ H Q => ∀ (pins : List (Addr × Obj)) (s : Shared), Inv X pins σ H s → wpAny (model X.prog X.w) X.A (eval e X.env) (EP X pins σ Q) X.xe s
theorem wE_ok {X : Cx} (e : Expr) : PE X e (wE X e) := ⟨fun pins s σ H Q I h => h pins s I⟩
theorem wE_of {X : Cx} {e : Expr} {t : TE} (h : PE X e t) {σ : L2.St} {H : Hp} {Q : VK} (q : t σ H Q) : wE X e σ H Q := fun pins s I => h.run pins s σ H Q I q
def wT (X : Cx) (e : Expr) : TT := fun σ H Q => ∀ (pins : List (Addr × Obj)) (s : Shared), Inv X pins σ H s → wpAny (model X.prog X.w) X.A (isTrue e X.env (eval e X.env)) (TP X pins σ Q) X.xe s
theorem wT_ok {X : Cx} (e : Expr) : PT X e (wT X e) := ⟨fun pins s σ H Q I h => h pins s I⟩
theorem wT_of {X : Cx} {e : Expr} {t : TT} (h : PT X e t) {σ : L2.St} {H : Hp} {Q : Bool → Hp → Prop} (q : t σ H Q) : wT X e σ H Q := fun pins s I => h.run pins s σ H Q I q
def wW (X : Cx) (e : Expr) : TT := fun σ H Q => ∀ (whole : Sem Value) (pins : List (Addr × Obj)) (s : Shared), Inv X pins σ H s → wpAny (model X.prog X.w) X.A (isTrue e X.env whole) (TP X pins σ Q) X.xe s
theorem wW_ok {X : Cx} (e : Expr) : PW X e (wW X e) := ⟨fun wh pins s σ H Q I h => h wh pins s I⟩
theorem wW_of {X : Cx} {e : Expr} {t : TT} (h : PW X e t) {σ : L2.St} {H : Hp} {Q : Bool → Hp → Prop} (q : t σ H Q) : wW X e σ H Q := fun wh pins s I => h.run wh pins s σ H Q I q
def wA (X : Cx) (es : List Expr) : TA := fun σ H Q => ∀ (pos : Pos) (pins : List (Addr × Obj)) (s : Shared), Inv X pins σ H s → wpAny (model X.prog X.w) X.A (spliced (backTo pos (starEach es X.env))) (AP X pins σ Q) X.xe s
theorem wA_ok {X : Cx} (es : List Expr) : PA X es (wA X es) := ⟨fun pos pins s σ H Q I h => h pos pins s I⟩
theorem wA_of {X : Cx} {e : List Expr} {t : TA} (h : PA X e t) {σ : L2.St} {H : Hp} {Q : List V → Hp → Prop} (q : t σ H Q) : wA X e σ H Q := fun pos pins s I => h.run pos pins s σ H Q I q
def wO (X : Cx) (e : Option Expr) (t : TO) : Prop := PO X e t

/-- e gives d -/
def PD (X : Cx) (γ : List Sl) (e : Expr) (d : D) : Prop := ∀ (σ : L2.St) (Hs H : Hp) (Q : VK), Same Hs H → SE X.K Hs σ γ → (∀ v Hs' H', Gr Hs H Hs' H' → Rep X.K Hs' v d → Q v H') → wE X e σ H Q
/-- e gives a new list of these -/
def PN (X : Cx) (γ : List Sl) (e : Expr) (ds : List D) : Prop := ∀ (σ : L2.St) (Hs H : Hp) (Q : VK), Same Hs H → SE X.K Hs σ γ →
  (∀ l vs Hs' H', Gr Hs H Hs' H' → H l = none → Hs' l = none → H' l = some (.lst vs) → Reps X.K Hs' vs ds → Q (.ref l) H') → wE X e σ H Q
def PDT (X : Cx) (γ : List Sl) (e : Expr) (b : Bool) : Prop := ∀ (σ : L2.St) (Hs H : Hp) (Q : Bool → Hp → Prop), Same Hs H → SE X.K Hs σ γ → (∀ Hs' H', Gr Hs H Hs' H' → Q b H') → wT X e σ H Q
def PDW (X : Cx) (γ : List Sl) (e : Expr) (b : Bool) : Prop := ∀ (σ : L2.St) (Hs H : Hp) (Q : Bool → Hp → Prop), Same Hs H → SE X.K Hs σ γ → (∀ Hs' H', Gr Hs H Hs' H' → Q b H') → wW X e σ H Q
def PDA (X : Cx) (γ : List Sl) (es : List Expr) (ds : List D) : Prop := ∀ (σ : L2.St) (Hs H : Hp) (Q : List V → Hp → Prop), Same Hs H → SE X.K Hs σ γ → (∀ vs Hs' H', Gr Hs H Hs' H' → Reps X.K Hs' vs ds → Q vs H') → wA X es σ H Q
/-- an operation on two data, on one, on several -/
def RVD (K : PySem.W.Frag) (r : R2) (x y z : D) : Prop := ∀ (Hs H : Hp) (v u : V) (Q : VK), Same Hs H → Rep K Hs v x → Rep K Hs u y → (∀ w Hs' H', Gr Hs H Hs' H' → Rep K Hs' w z → Q w H') → r v u H Q
def RUD (K : PySem.W.Frag) (r : V → Hp → VK → Prop) (x z : D) : Prop := ∀ (Hs H : Hp) (v : V) (Q : VK), Same Hs H → Rep K Hs v x → (∀ w Hs' H', Gr Hs H Hs' H' → Rep K Hs' w z → Q w H') → r v H Q
def RCD (K : PySem.W.Frag) (r : List V → Hp → VK → Prop) (xs : List D) (z : D) : Prop := ∀ (Hs H : Hp) (vs : List V) (Q : VK), Same Hs H → Reps K Hs vs xs → (∀ w Hs' H', Gr Hs H Hs' H' → Rep K Hs' w z → Q w H') → r vs H Q
def RCN (K : PySem.W.Frag) (r : List V → Hp → VK → Prop) (xs : List D) (zs : List D) : Prop := ∀ (Hs H : Hp) (vs : List V) (Q : VK), Same Hs H → Reps K Hs vs xs →
  (∀ l us Hs' H', Gr Hs H Hs' H' → H l = none → Hs' l = none → H' l = some (.lst us) → Reps K Hs' us zs → Q (.ref l) H') → r vs H Q
def RVN (K : PySem.W.Frag) (r : R2) (x y : D) (zs : List D) : Prop := ∀ (Hs H : Hp) (v u : V) (Q : VK), Same Hs H → Rep K Hs v x → Rep K Hs u y →
  (∀ l us Hs' H', Gr Hs H Hs' H' → H l = none → Hs' l = none → H' l = some (.lst us) → Reps K Hs' us zs → Q (.ref l) H') → r v u H Q

section
variable {X : Cx} {γ : List Sl} {a b c e : Expr} {es : List Expr} {x y z d : D} {ds zs : List D} {pos : Pos}
theorem PD.is {d' : D} (h : PD X γ e d) (q : d = d') : PD X γ e d' := by rw [← q]; exact h
theorem PN.is {d' : List D} (h : PN X γ e ds) (q : ds = d') : PN X γ e d' := by rw [← q]; exact h
theorem PDT.is {p q : Bool} (h : PDT X γ e p) (w : p = q) : PDT X γ e q := by rw [← w]; exact h
/-- what is new may be shared -/
theorem share {K : PySem.W.Frag} {Hs H Hs' H' : Hp} {l : Addr} {vs : List V} (s : Same Hs H) (g : Gr Hs H Hs' H') (h1 : H l = none) (h2 : Hs' l = none) (h3 : H' l = some (.lst vs)) (r : Reps K Hs' vs ds) :
    Gr Hs H (upd Hs' l (.lst vs)) H' ∧ Rep K (upd Hs' l (.lst vs)) (.ref l) (.lst ds) := by
  have s1 : Same Hs' (upd Hs' l (.lst vs)) := fun a u e => by rw [upd_ne (ne_of_none e h2)]; exact e
  refine ⟨⟨g.sh.trans s1, g.ext, fun a u e => ?_, fun a q1 q2 => ?_⟩, .lst upd_same (r.mono s1)⟩
  · by_cases q : a = l
    · subst q; rw [upd_same] at e; rw [← e]; exact h3
    · rw [upd_ne q] at e; exact g.sub a u e
  · have : a ≠ l := fun q => q1 (by rw [q]; exact h1)
    rw [upd_ne this]; exact g.loc a q1 q2
theorem PN.pd (h : PN X γ e ds) : PD X γ e (.lst ds) := fun σ Hs H Q s E k => h σ Hs H Q s E fun l vs Hs' H' g h1 h2 h3 r => by
  obtain ⟨g', r'⟩ := share s g h1 h2 h3 r
  exact k _ _ _ g' r'

theorem pd_v (i : Nat) {n : Str} (h : γ[i]? = some (.sh d) := by rfl) (hN : X.N[i]? = some n := by rfl) (hv : Vis X.env.scope n := by first | exact Or.inl rfl | exact Or.inr (Or.inl rfl) | exact Or.inr (Or.inr rfl)) (hd : (n == ("__debug__" : Str)) = false := by decide)
    (hcd : (n == ("__classdict__" : Str)) = false := by decide) : PD X γ (.Name n pos) d := fun σ Hs H Q s E k => by
  obtain ⟨v, h1, h2⟩ := E.sh i d h
  exact wE_of (pe_var hN hv hd hcd) ⟨v, h1, k v Hs H (Gr.refl s) h2⟩
theorem pd_int {i : Int} {j : Nat} : PD X γ (.Constant (.int i) j pos) (.int i) := fun σ Hs H Q s E k => wE_of pe_int (k _ Hs H (Gr.refl s) (.int i))
theorem pd_bl {i : Bool} {j : Nat} : PD X γ (.Constant (.bool i) j pos) (.bl i) := fun σ Hs H Q s E k => wE_of pe_bl (k _ Hs H (Gr.refl s) (.bl i))
theorem pd_non {j : Nat} : PD X γ (.Constant .none j pos) .non := fun σ Hs H Q s E k => wE_of pe_non (k _ Hs H (Gr.refl s) .non)
theorem pd_str {i : Str} {j : Nat} : PD X γ (.Constant (.str i) j pos) (.str i) := fun σ Hs H Q s E k => wE_of pe_str (k _ Hs H (Gr.refl s) (.str i))
/-- a global name that holds d -/
theorem pd_glob {n : Str} {v : V} {u : Value} (hg : Gl X n) (hm : X.mg n = some u) (r : RelV v u) (hv : ∀ H, Rep X.K H v d) (hd : (n == ("__debug__" : Str)) = false := by decide) : PD X γ (.Name n pos) d :=
  fun σ Hs H Q s E k => wE_of (pe_glob hg hm r hd) (k _ Hs H (Gr.refl s) (hv Hs))

theorem bin2 {R : V → V → Hp → Prop} {σ : L2.St} {Hs H : Hp} (ha : PD X γ a x) (hb : PD X γ b y) (s : Same Hs H) (E : SE X.K Hs σ γ)
    (k : ∀ v u Hs' H', Gr Hs H Hs' H' → Rep X.K Hs' v x → Rep X.K Hs' u y → R v u H') : wE X a σ H fun v H1 => wE X b σ H1 fun u H2 => R v u H2 :=
  ha σ Hs H _ s E fun v Hs1 H1 g1 r1 => hb σ Hs1 H1 _ g1.sub (E.mono g1.sh) fun u Hs2 H2 g2 r2 => k v u Hs2 H2 (g1.trans g2) (r1.mono g2.sh) r2
theorem pd_op {op : Operator} {r : R2} (ho : OpR X (binaryOp op) r) (hr : RVD X.K r x y z) (ha : PD X γ a x) (hb : PD X γ b y) : PD X γ (.BinOp a op b pos) z := fun σ Hs H Q s E k =>
  wE_of (pe_op ho (wE_ok a) (wE_ok b)) (bin2 ha hb s E fun v u Hs' H' g r1 r2 => hr Hs' H' v u Q g.sub r1 r2 fun w Hs2 H2 g2 r3 => k w Hs2 H2 (g.trans g2) r3)
theorem pn_op {op : Operator} {r : R2} (ho : OpR X (binaryOp op) r) (hr : RVN X.K r x y zs) (ha : PD X γ a x) (hb : PD X γ b y) : PN X γ (.BinOp a op b pos) zs := fun σ Hs H Q s E k =>
  wE_of (pe_op ho (wE_ok a) (wE_ok b)) (bin2 ha hb s E fun v u Hs' H' g r1 r2 => hr Hs' H' v u Q g.sub r1 r2 fun l us Hs2 H2 g2 h1 h2 h3 r3 => k l us Hs2 H2 (g.trans g2) (g.ext.free h1) h2 h3 r3)
theorem pd_un {op : UnaryOp} {r : V → Hp → VK → Prop} (ho : UnR X (unaryOp op) r) (hr : RUD X.K r x z) (ha : PD X γ a x) : PD X γ (.UnaryOp op a pos) z := fun σ Hs H Q s E k =>
  wE_of (pe_un ho (wE_ok a)) (ha σ Hs H _ s E fun v Hs' H' g r1 => hr Hs' H' v Q g.sub r1 fun w Hs2 H2 g2 r3 => k w Hs2 H2 (g.trans g2) r3)
theorem pd_cmp {op : CmpOp} {r : R2} (ho : OpR X (compareOp op) r) (hr : RVD X.K r x y z) (ha : PD X γ a x) (hb : PD X γ b y) (hm : behindInMarks op b = false := by first | exact nomark _ | rfl) : PD X γ (.Compare a [op] [b] pos) z := fun σ Hs H Q s E k =>
  wE_of (pe_cmpR ho (wE_ok a) (wE_ok b) hm) (bin2 ha hb s E fun v u Hs' H' g r1 r2 => hr Hs' H' v u Q g.sub r1 r2 fun w Hs2 H2 g2 r3 => k w Hs2 H2 (g.trans g2) r3)
theorem pt_cmp {op : CmpOp} {r : R2} {p : Bool} (ho : OpR X (compareOp op) r) (hr : RVD X.K r x y (.bl p)) (ha : PD X γ a x) (hb : PD X γ b y) (hm : behindInMarks op b = false := by first | exact nomark _ | rfl) : PDT X γ (.Compare a [op] [b] pos) p := fun σ Hs H Q s E k =>
  wT_of (pt_cmpR ho (wE_ok a) (wE_ok b) hm) (bin2 ha hb s E fun v u Hs' H' g r1 r2 => hr Hs' H' v u _ g.sub r1 r2 fun w Hs2 H2 g2 r3 => by
    cases r3
    exact ⟨p, rfl, k Hs2 H2 (g.trans g2)⟩)
theorem rd_I0 {K : PySem.W.Frag} {f : Int → Int → V} {i j : Int} (hf : ∀ H, Rep K H (f i j) z) : RVD K (rI0 f) (.int i) (.int j) z := fun Hs H v u Q s r1 r2 k => by
  cases r1; cases r2
  exact ⟨i, j, rfl, rfl, k _ _ _ (Gr.refl s) (hf _)⟩
theorem rd_I {K : PySem.W.Frag} {C : Int → Int → Prop} {f : Int → Int → V} {i j : Int} (hf : ∀ H, Rep K H (f i j) z) (hc : C i j) : RVD K (rI C f) (.int i) (.int j) z := fun Hs H v u Q s r1 r2 k => by
  cases r1; cases r2
  exact ⟨i, j, rfl, rfl, hc, k _ _ _ (Gr.refl s) (hf _)⟩
section
variable {i j : Int}
theorem pd_add (ha : PD X γ a (.int i)) (hb : PD X γ b (.int j)) : PD X γ (.BinOp a .Add b pos) (.int (i + j)) := pd_op op_add (rd_I0 fun _ => .int _) ha hb
theorem pd_sub (ha : PD X γ a (.int i)) (hb : PD X γ b (.int j)) : PD X γ (.BinOp a .Sub b pos) (.int (i - j)) := pd_op op_sub (rd_I0 fun _ => .int _) ha hb
theorem pd_mul (ha : PD X γ a (.int i)) (hb : PD X γ b (.int j)) (h : CMulW i j) : PD X γ (.BinOp a .Mult b pos) (.int (i * j)) := pd_op op_mulW (rd_I (fun _ => .int _) h) ha hb
theorem pd_mod (ha : PD X γ a (.int i)) (hb : PD X γ b (.int j)) (h : 0 < j := by decide) : PD X γ (.BinOp a .Mod b pos) (.int (i % j)) := pd_op op_mod (rd_I (fun _ => .int _) h) ha hb
theorem pd_div (ha : PD X γ a (.int i)) (hb : PD X γ b (.int j)) (h : CDivW i j) : PD X γ (.BinOp a .FloorDiv b pos) (.int (i / j)) := pd_op op_fdivW (rd_I (fun _ => .int _) h) ha hb
theorem pd_pow (ha : PD X γ a (.int i)) (hb : PD X γ b (.int j)) (h : 0 ≤ j ∧ j ≤ 1000000 ∧ i.natAbs < 2 ^ 64 := by decide) : PD X γ (.BinOp a .Pow b pos) (.int (i ^ j.toNat)) := pd_op op_pow (rd_I (fun _ => .int _) h) ha hb
theorem pd_neg (ha : PD X γ a (.int i)) : PD X γ (.UnaryOp .USub a pos) (.int (-i)) := pd_un un_neg (fun Hs H v Q s r k => by
  cases r
  exact ⟨i, rfl, k _ _ _ (Gr.refl s) (.int _)⟩) ha
theorem pd_lt (ha : PD X γ a (.int i)) (hb : PD X γ b (.int j)) : PD X γ (.Compare a [.Lt] [b] pos) (.bl (decide (i < j))) := pd_cmp op_lt (rd_I0 fun _ => .bl _) ha hb
theorem pd_le (ha : PD X γ a (.int i)) (hb : PD X γ b (.int j)) : PD X γ (.Compare a [.LtE] [b] pos) (.bl (decide (i ≤ j))) := pd_cmp op_le (rd_I0 fun _ => .bl _) ha hb
theorem pd_gt (ha : PD X γ a (.int i)) (hb : PD X γ b (.int j)) : PD X γ (.Compare a [.Gt] [b] pos) (.bl (decide (j < i))) := pd_cmp op_gt (rd_I0 fun _ => .bl _) ha hb
theorem pd_ge (ha : PD X γ a (.int i)) (hb : PD X γ b (.int j)) : PD X γ (.Compare a [.GtE] [b] pos) (.bl (decide (j ≤ i))) := pd_cmp op_ge (rd_I0 fun _ => .bl _) ha hb
theorem pt_lt (ha : PD X γ a (.int i)) (hb : PD X γ b (.int j)) : PDT X γ (.Compare a [.Lt] [b] pos) (decide (i < j)) := pt_cmp op_lt (rd_I0 fun _ => .bl _) ha hb
theorem pt_le (ha : PD X γ a (.int i)) (hb : PD X γ b (.int j)) : PDT X γ (.Compare a [.LtE] [b] pos) (decide (i ≤ j)) := pt_cmp op_le (rd_I0 fun _ => .bl _) ha hb
theorem pt_gt (ha : PD X γ a (.int i)) (hb : PD X γ b (.int j)) : PDT X γ (.Compare a [.Gt] [b] pos) (decide (j < i)) := pt_cmp op_gt (rd_I0 fun _ => .bl _) ha hb
theorem pt_ge (ha : PD X γ a (.int i)) (hb : PD X γ b (.int j)) : PDT X γ (.Compare a [.GtE] [b] pos) (decide (j ≤ i)) := pt_cmp op_ge (rd_I0 fun _ => .bl _) ha hb
theorem rd_eqI {K : PySem.W.Frag} : RVD K rEq (.int i) (.int j) (.bl (decide (i = j))) := fun Hs H v u Q s r1 r2 k => by
  cases r1; cases r2
  refine ⟨rfl, k _ _ _ (Gr.refl s) ?_⟩
  have : decide (V.int i = V.int j) = decide (i = j) := by simp
  rw [this]
  exact .bl _
theorem rd_neI {K : PySem.W.Frag} : RVD K rNe (.int i) (.int j) (.bl (!decide (i = j))) := fun Hs H v u Q s r1 r2 k => by
  cases r1; cases r2
  refine ⟨rfl, k _ _ _ (Gr.refl s) ?_⟩
  have : decide (V.int i = V.int j) = decide (i = j) := by simp
  rw [this]
  exact .bl _
theorem pd_eqI (ha : PD X γ a (.int i)) (hb : PD X γ b (.int j)) : PD X γ (.Compare a [.Eq] [b] pos) (.bl (decide (i = j))) := pd_cmp op_eq rd_eqI ha hb
theorem pd_neI (ha : PD X γ a (.int i)) (hb : PD X γ b (.int j)) : PD X γ (.Compare a [.NotEq] [b] pos) (.bl (!decide (i = j))) := pd_cmp op_ne rd_neI ha hb
theorem pt_eqI (ha : PD X γ a (.int i)) (hb : PD X γ b (.int j)) : PDT X γ (.Compare a [.Eq] [b] pos) (decide (i = j)) := pt_cmp op_eq rd_eqI ha hb
theorem pt_neI (ha : PD X γ a (.int i)) (hb : PD X γ b (.int j)) : PDT X γ (.Compare a [.NotEq] [b] pos) (!decide (i = j)) := pt_cmp op_ne rd_neI ha hb
end
end
end Pd
end

section
set_option autoImplicit false
set_option Elab.async false
set_option linter.all false
set_option maxRecDepth 100000
set_option maxHeartbeats 4000000
namespace Pd
open PySem PySem.Spec PyProof.Rows L2

section
variable {X : Cx} {γ : List Sl} {a b c e : Expr} {es : List Expr} {x y z d : D} {ds zs : List D} {pos : Pos} {i j : Int} {p q : Bool}
/-! ### tests -/
theorem pt_val (h : PD X γ e (.bl p)) (he : ∀ whole, isTrue e X.env whole = (do let v ← whole; standAt e.pos; holding [v] (truthy v)) := by intro _; rfl) : PDT X γ e p := fun σ Hs H Q s E k =>
  wT_of (L2.pt_val (wE_ok e) he) (h σ Hs H _ s E fun v Hs' H' g r => by
    cases r
    exact ⟨p, rfl, k Hs' H' g⟩)
theorem pt_not (h : PDT X γ a p) : PDT X γ (.UnaryOp .Not a pos) (!p) := fun σ Hs H Q s E k => wT_of (L2.pt_not (wT_ok a)) (h σ Hs H _ s E fun Hs' H' g => k Hs' H' g)
theorem PDW.pt (h : PDW X γ e p) : PDT X γ e p := fun σ Hs H Q s E k => wT_of (wW_ok e).pt (h σ Hs H Q s E k)
theorem pw_and1 (h : PDT X γ a p) : PDW X γ (.BoolOp .And [a] pos) p := fun σ Hs H Q s E k => wW_of (L2.pw_and1 (wT_ok a)) (h σ Hs H Q s E k)
theorem pw_or1 (h : PDT X γ a p) : PDW X γ (.BoolOp .Or [a] pos) p := fun σ Hs H Q s E k => wW_of (L2.pw_or1 (wT_ok a)) (h σ Hs H Q s E k)
theorem pw_and {rest : List Expr} (h : PDT X γ a p) (h2 : p = true → PDW X γ (.BoolOp .And (b :: rest) pos) q) : PDW X γ (.BoolOp .And (a :: b :: rest) pos) (p && q) := fun σ Hs H Q s E k =>
  wW_of (L2.pw_and (wT_ok a) (wW_ok _)) (h σ Hs H _ s E fun Hs' H' g => by
    cases p with
    | true => exact h2 rfl σ Hs' H' Q g.sub (E.mono g.sh) fun Hs2 H2 g2 => k Hs2 H2 (g.trans g2)
    | false => exact k Hs' H' g)
theorem pw_or {rest : List Expr} (h : PDT X γ a p) (h2 : p = false → PDW X γ (.BoolOp .Or (b :: rest) pos) q) : PDW X γ (.BoolOp .Or (a :: b :: rest) pos) (p || q) := fun σ Hs H Q s E k =>
  wW_of (L2.pw_or (wT_ok a) (wW_ok _)) (h σ Hs H _ s E fun Hs' H' g => by
    cases p with
    | false => exact h2 rfl σ Hs' H' Q g.sub (E.mono g.sh) fun Hs2 H2 g2 => k Hs2 H2 (g.trans g2)
    | true => exact k Hs' H' g)
/-! ### the same as values -/
theorem pd_one {op : BoolOp} (h : PD X γ a x) : PD X γ (.BoolOp op [a] pos) x := fun σ Hs H Q s E k => wE_of (pe_one (wE_ok a)) (h σ Hs H Q s E k)
theorem pd_and {rest : List Expr} (h : PD X γ a (.bl p)) (h2 : p = true → PD X γ (.BoolOp .And (b :: rest) pos) (.bl q)) : PD X γ (.BoolOp .And (a :: b :: rest) pos) (.bl (p && q)) := fun σ Hs H Q s E k =>
  wE_of (pe_and (wE_ok a) (wE_ok _)) (h σ Hs H _ s E fun v Hs' H' g r => by
    cases r
    refine ⟨p, rfl, ?_⟩
    cases p with
    | true => exact h2 rfl σ Hs' H' Q g.sub (E.mono g.sh) fun w Hs2 H2 g2 r2 => k w Hs2 H2 (g.trans g2) r2
    | false => exact k _ Hs' H' g (.bl false))
theorem pd_or {rest : List Expr} (h : PD X γ a (.bl p)) (h2 : p = false → PD X γ (.BoolOp .Or (b :: rest) pos) (.bl q)) : PD X γ (.BoolOp .Or (a :: b :: rest) pos) (.bl (p || q)) := fun σ Hs H Q s E k =>
  wE_of (pe_or (wE_ok a) (wE_ok _)) (h σ Hs H _ s E fun v Hs' H' g r => by
    cases r
    refine ⟨p, rfl, ?_⟩
    cases p with
    | false => exact h2 rfl σ Hs' H' Q g.sub (E.mono g.sh) fun w Hs2 H2 g2 r2 => k w Hs2 H2 (g.trans g2) r2
    | true => exact k _ Hs' H' g (.bl true))
theorem pd_not (h : PD X γ a (.bl p)) : PD X γ (.UnaryOp .Not a pos) (.bl (!p)) := fun σ Hs H Q s E k =>
  wE_of (pe_not (wE_ok a)) (h σ Hs H _ s E fun v Hs' H' g r => by
    cases r
    exact ⟨p, rfl, k _ Hs' H' g (.bl _)⟩)
theorem pd_ife (h : PDT X γ c p) (h1 : p = true → PD X γ a d) (h2 : p = false → PD X γ b d) : PD X γ (.IfExp c a b pos) d := fun σ Hs H Q s E k =>
  wE_of (pe_ifExp (wT_ok c) (wE_ok a) (wE_ok b)) (h σ Hs H _ s E fun Hs' H' g => by
    cases p with
    | true => exact h1 rfl σ Hs' H' Q g.sub (E.mono g.sh) fun w Hs2 H2 g2 r2 => k w Hs2 H2 (g.trans g2) r2
    | false => exact h2 rfl σ Hs' H' Q g.sub (E.mono g.sh) fun w Hs2 H2 g2 r2 => k w Hs2 H2 (g.trans g2) r2)
/-- a op b op c -/
theorem pt_chain {op op' : CmpOp} {r r' : R2} (ho : OpR X (compareOp op) r) (ho' : OpR X (compareOp op') r') (h1 : RVD X.K r x y (.bl p)) (h2 : p = true → RVD X.K r' y z (.bl q)) (ha : PD X γ a x) (hb : PD X γ b y) (hc : PD X γ c z)
    (hm : lastMarks [op, op'] [b, c] = false := by with_unfolding_all rfl) : PDT X γ (.Compare a [op, op'] [b, c] pos) (p && q) := fun σ Hs H Q s E k =>
  wT_of (L2.pt_chain ho ho' (wE_ok a) (wE_ok b) (wE_ok c) hm) (bin2 (R := fun v u H2 => r v u H2 fun w H3 => ∃ k2, w = .bl k2 ∧ (if k2 = true then wE X c σ H3 fun w' H4 => r' u w' H4 fun t H5 => ∃ k3, t = .bl k3 ∧ Q k3 H5 else ∃ k3, V.bl false = .bl k3 ∧ Q k3 H3)) ha hb s E
    fun v u Hs' H' g r1 r2 => h1 Hs' H' v u _ g.sub r1 r2 fun w Hs2 H2 g2 r3 => by
      cases r3
      refine ⟨p, rfl, ?_⟩
      cases p with
      | true =>
        rw [if_pos rfl]
        have E2 := E.mono ((g.trans g2).sh)
        refine hc σ Hs2 H2 _ g2.sub E2 fun w' Hs3 H3 g3 r4 => h2 rfl Hs3 H3 u w' _ g3.sub ((r2.mono g2.sh).mono g3.sh) r4 fun t Hs4 H4 g4 r5 => ?_
        cases r5
        exact ⟨q, rfl, k Hs4 H4 (((g.trans g2).trans g3).trans g4)⟩
      | false =>
        rw [if_neg Bool.false_ne_true]
        exact ⟨false, rfl, k Hs2 H2 (g.trans g2)⟩)
theorem rd_le {K : PySem.W.Frag} : RVD K (rI0 fun i j => .bl (decide (i ≤ j))) (.int i) (.int j) (.bl (decide (i ≤ j))) := rd_I0 fun _ => .bl _
theorem rd_lt {K : PySem.W.Frag} : RVD K (rI0 fun i j => .bl (decide (i < j))) (.int i) (.int j) (.bl (decide (i < j))) := rd_I0 fun _ => .bl _
/-! ### arguments, displays -/
theorem pa_nil : PDA X γ [] [] := fun σ Hs H Q s E k => wA_of L2.pa_nil (k [] Hs H (Gr.refl s) .nil)
theorem pa_cons (h : PD X γ e d) (h2 : PDA X γ es ds) (hs : starEach (e :: es) X.env = (false, eval e X.env) :: starEach es X.env := by rfl) : PDA X γ (e :: es) (d :: ds) := fun σ Hs H Q s E k =>
  wA_of (L2.pa_cons (wE_ok e) (wA_ok es) hs) (h σ Hs H _ s E fun v Hs' H' g r => h2 σ Hs' H' _ g.sub (E.mono g.sh) fun vs Hs2 H2 g2 r2 => k _ Hs2 H2 (g.trans g2) (.cons (r.mono g2.sh) r2))
theorem newL {K : PySem.W.Frag} {Hs H : Hp} {vs : List V} {zs : List D} {Q : VK} (s : Same Hs H) (r : Reps K Hs vs zs)
    (k : ∀ l vs Hs' H', Gr Hs H Hs' H' → H l = none → Hs' l = none → H' l = some (.lst vs) → Reps K Hs' vs zs → Q (.ref l) H') : ∀ l, H l = none → Q (.ref l) (upd H l (.lst vs)) := fun l hl =>
  k l vs Hs (upd H l (.lst vs)) ⟨Same.refl _, fun a u e => by rw [upd_ne (ne_of_none e hl)]; exact e, fun a u e => by rw [upd_ne (ne_of_none (s a u e) hl)]; exact s a u e, fun _ _ h => h⟩ hl (s.free hl) upd_same r
theorem newT {K : PySem.W.Frag} {Hs H : Hp} {vs : List V} {zs : List D} {Q : VK} (s : Same Hs H) (r : Reps K Hs vs zs)
    (k : ∀ v Hs' H', Gr Hs H Hs' H' → Rep K Hs' v (.tup zs) → Q v H') : ∀ l, H l = none → Q (.ref l) (upd H l (.tup vs)) := fun l hl =>
  k _ _ _ (Gr.new s hl) (.tup (SqT.of upd_same) (r.mono (Gr.new s hl (o := .tup vs)).sh))
theorem sz_of {n : Nat} (h : n ≤ 100000) : n ≤ sizeLine := Nat.le_trans h (by decide)
theorem sz_lt {n : Nat} (h : n < 100000) : n < sizeLine := Nat.lt_of_lt_of_le h (by decide)
theorem pn_lst (h : PDA X γ es ds) (hz : ds.length ≤ 100000 := by simp) : PN X γ (.List es pos) ds := fun σ Hs H Q s E k =>
  wE_of (pe_lst (wA_ok es)) (h σ Hs H _ s E fun vs Hs' H' g r => ⟨sz_of (by rw [r.length]; exact hz), newL g.sub r fun l us Hs2 H2 g2 h1 h2 h3 r2 => k l us Hs2 H2 (g.trans g2) (g.ext.free h1) h2 h3 r2⟩)
theorem pd_tup {n : Nat} (h : PDA X γ es ds) (hz : ds.length ≤ 100000 := by simp) : PD X γ (.Tuple es n pos) (.tup ds) := fun σ Hs H Q s E k =>
  wE_of (pe_tup (wA_ok es)) (h σ Hs H _ s E fun vs Hs' H' g r => ⟨sz_of (by rw [r.length]; exact hz), newT g.sub r fun w Hs2 H2 g2 r2 => k w Hs2 H2 (g.trans g2) r2⟩)
/-! ### items -/
theorem atI_of {K : PySem.W.Frag} {H : Hp} {vs : List V} {ds : List D} (r : Reps K H vs ds) {d : D} (h : atI ds i = some d) : ∃ v, atI vs i = some v ∧ Rep K H v d := by
  unfold atI at h ⊢
  rw [r.length]
  cases q : ixN ds.length i with
  | none => rw [q] at h; cases h
  | some n =>
    rw [q] at h
    exact r.get h
theorem rd_ixL {K : PySem.W.Frag} (h : atI ds i = some d) : RVD K (rIxL K) (.lst ds) (.int i) d := fun Hs H v u Q s r1 r2 k => by
  cases r1 with
  | lst h1 r1 =>
    cases r2
    obtain ⟨w, hw, rw'⟩ := atI_of r1 h
    exact ⟨_, _, i, w, rfl, rfl, .inl (.inl (s _ _ h1)), hw, k w Hs H (Gr.refl s) rw'⟩
theorem rd_ixR {K : PySem.W.Frag} (h : atI ds i = some d) : RVD K (rIxL K) (.rol ds) (.int i) d := fun Hs H v u Q s r1 r2 k => by
  cases r1 with
  | rol h1 r1 =>
    cases r2
    obtain ⟨w, hw, rw'⟩ := atI_of r1 h
    exact ⟨_, _, i, w, rfl, rfl, sqL_mono s h1, hw, k w Hs H (Gr.refl s) rw'⟩
theorem rd_ixT {K : PySem.W.Frag} (h : atI ds i = some d) : RVD K (rIxT K) (.tup ds) (.int i) d := fun Hs H v u Q s r1 r2 k => by
  cases r1 with
  | tup h1 r1 =>
    cases r2
    obtain ⟨w, hw, rw'⟩ := atI_of r1 h
    exact ⟨_, _, i, w, rfl, rfl, sqT_mono s h1, hw, k w Hs H (Gr.refl s) rw'⟩
theorem rd_ixS {K : PySem.W.Frag} {x : Str} {n : Nat} (hz : x.length ≤ 100000) (h : atI x.cps.toList i = some n) : RVD K rIxS (.str x) (.int i) (.str ⟨#[n]⟩) := fun Hs H v u Q s r1 r2 k => by
  cases r1; cases r2
  exact ⟨_, _, _, rfl, rfl, sz_of hz, h, k _ Hs H (Gr.refl s) (.str _)⟩
theorem pd_ix {r : R2} (hr : IxR X r) (hd : RVD X.K r x y z) (ha : PD X γ a x) (hb : PD X γ b y) (hs : PlainIx b := by exact fun _ _ => rfl) : PD X γ (.Subscript a b pos) z := fun σ Hs H Q s E k =>
  wE_of (pe_ix hr (wE_ok a) (wE_ok b) hs) (bin2 ha hb s E fun v u Hs' H' g r1 r2 => hd Hs' H' v u Q g.sub r1 r2 fun w Hs2 H2 g2 r3 => k w Hs2 H2 (g.trans g2) r3)
theorem pd_ixL (ha : PD X γ a (.lst ds)) (hb : PD X γ b (.int i)) (h : atI ds i = some d) (hs : PlainIx b := by exact fun _ _ => rfl) : PD X γ (.Subscript a b pos) d := pd_ix ix_list (rd_ixL h) ha hb hs
theorem pd_ixR (ha : PD X γ a (.rol ds)) (hb : PD X γ b (.int i)) (h : atI ds i = some d) (hs : PlainIx b := by exact fun _ _ => rfl) : PD X γ (.Subscript a b pos) d := pd_ix ix_list (rd_ixR h) ha hb hs
theorem pd_ixT (ha : PD X γ a (.tup ds)) (hb : PD X γ b (.int i)) (h : atI ds i = some d) (hs : PlainIx b := by exact fun _ _ => rfl) : PD X γ (.Subscript a b pos) d := pd_ix ix_tup (rd_ixT h) ha hb hs
theorem pd_ixS {x : Str} {n : Nat} (ha : PD X γ a (.str x)) (hb : PD X γ b (.int i)) (hz : x.length ≤ 100000) (h : atI x.cps.toList i = some n) (hs : PlainIx b := by exact fun _ _ => rfl) : PD X γ (.Subscript a b pos) (.str ⟨#[n]⟩) := pd_ix ix_str (rd_ixS hz h) ha hb hs
/-! ### slices -/
def PDO (X : Cx) (γ : List Sl) (e : Option Expr) (o : Option Int) : Prop := match e, o with
  | none, none => True
  | some e, some i => PD X γ e (.int i)
  | _, _ => False
def cutD (xs : List D) (lo hi : Option Int) : List D := (xs.drop (HT.sIx xs.length 0 lo)).take (HT.sIx xs.length xs.length hi - HT.sIx xs.length 0 lo)
theorem Reps.cut {K : PySem.W.Frag} {H : Hp} {vs : List V} {ds : List D} (r : Reps K H vs ds) (lo hi : Option Int) : Reps K H (cutV vs lo hi) (cutD ds lo hi) := by
  unfold cutV cutD
  rw [r.length]
  exact (r.drop _).take _
def tO (X : Cx) : Option Expr → TO
  | none => tNoPart
  | some e => tPart (wE X e)
theorem tO_ok {X : Cx} : ∀ (e : Option Expr), PO X e (tO X e)
  | none => po_none
  | some e => po_some (wE_ok e)
theorem po_go {lo : Option Expr} {o : Option Int} {σ : L2.St} {Hs H : Hp} {Q : Option Int → Hp → Prop} (h : PDO X γ lo o) (s : Same Hs H) (E : SE X.K Hs σ γ) (k : ∀ Hs' H', Gr Hs H Hs' H' → Q o H') : tO X lo σ H Q := by
  cases lo with
  | none =>
    cases o with
    | none => exact k Hs H (Gr.refl s)
    | some _ => exact h.elim
  | some e =>
    cases o with
    | none => exact h.elim
    | some i =>
      refine (show PD X γ e (.int i) from h) σ Hs H _ s E fun v Hs' H' g r => ?_
      cases r
      exact ⟨i, rfl, k Hs' H' g⟩
theorem pn_slL {lo hi : Option Expr} {ol oh : Option Int} {p2 : Pos} (ha : PD X γ a (.lst ds)) (hl : PDO X γ lo ol) (hh : PDO X γ hi oh) : PN X γ (.Subscript a (.Slice lo hi none p2) pos) (cutD ds ol oh) := fun σ Hs H Q s E k =>
  wE_of (pe_slice sl_list (wE_ok a) (tO_ok lo) (tO_ok hi)) (ha σ Hs H _ s E fun v Hs1 H1 g1 r1 => po_go hl g1.sub (E.mono g1.sh) fun Hs2 H2 g2 => po_go hh g2.sub (E.mono (g1.trans g2).sh) fun Hs3 H3 g3 => by
    cases r1 with
    | lst h1 r1 =>
      have s3 := g2.sh.trans g3.sh
      exact ⟨_, _, rfl, .inl (.inl (g3.sub _ _ (s3 _ _ h1))), newL g3.sub ((r1.mono s3).cut ol oh) fun l us Hs4 H4 g4 q1 q2 q3 r4 => k l us Hs4 H4 (((g1.trans g2).trans g3).trans g4) (((g1.trans g2).trans g3).ext.free q1) q2 q3 r4⟩)
theorem pd_slT {lo hi : Option Expr} {ol oh : Option Int} {p2 : Pos} (ha : PD X γ a (.tup ds)) (hl : PDO X γ lo ol) (hh : PDO X γ hi oh) (hw : ¬ (HT.sIx ds.length 0 ol = 0 ∧ HT.sIx ds.length ds.length oh = ds.length)) : PD X γ (.Subscript a (.Slice lo hi none p2) pos) (.tup (cutD ds ol oh)) := fun σ Hs H Q s E k =>
  wE_of (pe_slice sl_tup (wE_ok a) (tO_ok lo) (tO_ok hi)) (ha σ Hs H _ s E fun v Hs1 H1 g1 r1 => po_go hl g1.sub (E.mono g1.sh) fun Hs2 H2 g2 => po_go hh g2.sub (E.mono (g1.trans g2).sh) fun Hs3 H3 g3 => by
    cases r1 with
    | tup h1 r1 =>
      have s3 := g2.sh.trans g3.sh
      exact ⟨_, _, rfl, sqT_mono (s3.trans g3.sub) h1, by rw [r1.length]; exact hw, newT g3.sub ((r1.mono s3).cut ol oh) fun w Hs4 H4 g4 r4 => k w Hs4 H4 (((g1.trans g2).trans g3).trans g4) r4⟩)
/-! ### built-ins by name -/
theorem pd_cb {id : String} {n : Str} {r : List V → Hp → VK → Prop} {pn : Pos} (hc : CallR X (.builtin id) r) (hd : RCD X.K r ds z) (hg : Gl X n) (hm : X.mg n = none) (hv : bootBuiltins n = some (.builtin id)) (ha : PDA X γ (e :: es) ds) (hn : n ≠ "__name__" := by decide) (hdb : (n == ("__debug__" : Str)) = false := by decide)
    (he : starEach (e :: es) X.env = (false, eval e X.env) :: starEach es X.env := by rfl) (hpl : (backTo pos (starEach es X.env)).any (·.1) = false := by rfl) : PD X γ (.Call (.Name n pn) (e :: es) [] pos) z := fun σ Hs H Q s E k =>
  wE_of (pe_callB hc hg hm hv (wA_ok _) hn hdb he hpl) (ha σ Hs H _ s E fun vs Hs' H' g r => hd Hs' H' vs Q g.sub r fun w Hs2 H2 g2 r3 => k w Hs2 H2 (g.trans g2) r3)
theorem pd_cty {T : String} {n : Str} {r : List V → Hp → VK → Prop} {pn : Pos} (hc : CallR X (.type T) r) (hd : RCD X.K r ds z) (hg : Gl X n) (hm : X.mg n = none) (hv : bootBuiltins n = some (.type T)) (ha : PDA X γ (e :: es) ds) (hn : n ≠ "__name__" := by decide) (hdb : (n == ("__debug__" : Str)) = false := by decide)
    (he : starEach (e :: es) X.env = (false, eval e X.env) :: starEach es X.env := by rfl) (hpl : (backTo pos (starEach es X.env)).any (·.1) = false := by rfl) : PD X γ (.Call (.Name n pn) (e :: es) [] pos) z := fun σ Hs H Q s E k =>
  wE_of (pe_callTy hc hg hm hv (wA_ok _) hn hdb he hpl) (ha σ Hs H _ s E fun vs Hs' H' g r => hd Hs' H' vs Q g.sub r fun w Hs2 H2 g2 r3 => k w Hs2 H2 (g.trans g2) r3)
theorem pn_cty {T : String} {n : Str} {r : List V → Hp → VK → Prop} {pn : Pos} (hc : CallR X (.type T) r) (hd : RCN X.K r ds zs) (hg : Gl X n) (hm : X.mg n = none) (hv : bootBuiltins n = some (.type T)) (ha : PDA X γ (e :: es) ds) (hn : n ≠ "__name__" := by decide) (hdb : (n == ("__debug__" : Str)) = false := by decide)
    (he : starEach (e :: es) X.env = (false, eval e X.env) :: starEach es X.env := by rfl) (hpl : (backTo pos (starEach es X.env)).any (·.1) = false := by rfl) : PN X γ (.Call (.Name n pn) (e :: es) [] pos) zs := fun σ Hs H Q s E k =>
  wE_of (pe_callTy hc hg hm hv (wA_ok _) hn hdb he hpl) (ha σ Hs H _ s E fun vs Hs' H' g r => hd Hs' H' vs Q g.sub r fun l us Hs2 H2 g2 h1 h2 h3 r3 => k l us Hs2 H2 (g.trans g2) (g.ext.free h1) h2 h3 r3)
theorem rc_one {K : PySem.W.Frag} {r : List V → Hp → VK → Prop} (h : RUD K (fun v => r [v]) x z) : RCD K r [x] z := fun Hs H vs Q s rs k => by
  cases rs with
  | cons r1 rn =>
    cases rn
    exact h Hs H _ Q s r1 k
theorem pd_int1 {pn : Pos} (h : PD X γ e (.int i)) (hm : X.mg "int" = none) (hg : Gl X "int" := by rfl) (he : starEach [e] X.env = (false, eval e X.env) :: starEach [] X.env := by rfl) : PD X γ (.Call (.Name "int" pn) [e] [] pos) (.int i) :=
  pd_cty call_int1 (rc_one fun Hs H v Q s r k => by
    cases r
    exact .inl ⟨i, rfl, k _ Hs H (Gr.refl s) (.int i)⟩) hg hm boot_int (pa_cons h pa_nil he) (by decide) (by decide) he rfl
theorem pd_intB {pn : Pos} (h : PD X γ e (.bl p)) (hm : X.mg "int" = none) (hg : Gl X "int" := by rfl) (he : starEach [e] X.env = (false, eval e X.env) :: starEach [] X.env := by rfl) : PD X γ (.Call (.Name "int" pn) [e] [] pos) (.int (if p then 1 else 0)) :=
  pd_cty call_int1 (rc_one fun Hs H v Q s r k => by
    cases r
    exact .inr ⟨p, rfl, k _ Hs H (Gr.refl s) (.int _)⟩) hg hm boot_int (pa_cons h pa_nil he) (by decide) (by decide) he rfl
theorem pd_len {pn : Pos} {x : D} {n : Nat} (h : PD X γ e x) (hx : (∃ ds, x = .lst ds ∧ n = ds.length) ∨ (∃ ds, x = .rol ds ∧ n = ds.length) ∨ (∃ ds, x = .tup ds ∧ n = ds.length)) (hm : X.mg "len" = none) (hg : Gl X "len" := by rfl) (he : starEach [e] X.env = (false, eval e X.env) :: starEach [] X.env := by rfl) :
    PD X γ (.Call (.Name "len" pn) [e] [] pos) (.int (n : Int)) :=
  pd_cb call_len_seq (rc_one fun Hs H v Q s r k => by
    rcases hx with ⟨ds, rfl, rfl⟩ | ⟨ds, rfl, rfl⟩ | ⟨ds, rfl, rfl⟩
    · cases r with
      | lst h1 r1 => exact ⟨_, _, rfl, .inl (.inl (.inl (s _ _ h1))), by rw [r1.length]; exact k _ Hs H (Gr.refl s) (.int _)⟩
    · cases r with
      | rol h1 r1 => exact ⟨_, _, rfl, .inl (sqL_mono s h1), by rw [r1.length]; exact k _ Hs H (Gr.refl s) (.int _)⟩
    · cases r with
      | tup h1 r1 => exact ⟨_, _, rfl, .inr (sqT_mono s h1), by rw [r1.length]; exact k _ Hs H (Gr.refl s) (.int _)⟩) hg hm boot_len (pa_cons h pa_nil he) (by decide) (by decide) he rfl
theorem pd_lenL {pn : Pos} (h : PD X γ e (.lst ds)) (hm : X.mg "len" = none) (hg : Gl X "len" := by rfl) (he : starEach [e] X.env = (false, eval e X.env) :: starEach [] X.env := by rfl) : PD X γ (.Call (.Name "len" pn) [e] [] pos) (.int (ds.length : Int)) := pd_len h (.inl ⟨_, rfl, rfl⟩) hm hg he
theorem pd_lenR {pn : Pos} (h : PD X γ e (.rol ds)) (hm : X.mg "len" = none) (hg : Gl X "len" := by rfl) (he : starEach [e] X.env = (false, eval e X.env) :: starEach [] X.env := by rfl) : PD X γ (.Call (.Name "len" pn) [e] [] pos) (.int (ds.length : Int)) := pd_len h (.inr (.inl ⟨_, rfl, rfl⟩)) hm hg he
theorem pd_lenT {pn : Pos} (h : PD X γ e (.tup ds)) (hm : X.mg "len" = none) (hg : Gl X "len" := by rfl) (he : starEach [e] X.env = (false, eval e X.env) :: starEach [] X.env := by rfl) : PD X γ (.Call (.Name "len" pn) [e] [] pos) (.int (ds.length : Int)) := pd_len h (.inr (.inr ⟨_, rfl, rfl⟩)) hm hg he
theorem pd_lenS {pn : Pos} {x : Str} (h : PD X γ e (.str x)) (hz : x.length ≤ 100000) (hm : X.mg "len" = none) (hg : Gl X "len" := by rfl) (he : starEach [e] X.env = (false, eval e X.env) :: starEach [] X.env := by rfl) : PD X γ (.Call (.Name "len" pn) [e] [] pos) (.int (x.length : Int)) :=
  pd_cb call_len_str (rc_one fun Hs H v Q s r k => by
    cases r
    exact ⟨_, rfl, sz_of hz, k _ Hs H (Gr.refl s) (.int _)⟩) hg hm boot_len (pa_cons h pa_nil he) (by decide) (by decide) he rfl
theorem pn_list {pn : Pos} {x : D} (h : PD X γ e x) (hx : x = .lst ds ∨ x = .rol ds ∨ x = .tup ds) (hm : X.mg "list" = none) (hg : Gl X "list" := by rfl) (he : starEach [e] X.env = (false, eval e X.env) :: starEach [] X.env := by rfl) : PN X γ (.Call (.Name "list" pn) [e] [] pos) ds :=
  pn_cty call_list_of (fun Hs H vs Q s rs k => by
    cases rs with
    | cons r rn =>
      cases rn
      rcases hx with rfl | rfl | rfl
      · cases r with
        | lst h1 r1 => exact ⟨_, _, rfl, .inl (.inl (.inl (s _ _ h1))), newL s r1 k⟩
      · cases r with
        | rol h1 r1 => exact ⟨_, _, rfl, .inl (sqL_mono s h1), newL s r1 k⟩
      · cases r with
        | tup h1 r1 => exact ⟨_, _, rfl, .inr (sqT_mono s h1), newL s r1 k⟩) hg hm (by decide +kernel) (pa_cons h pa_nil he) (by decide) (by decide) he rfl
theorem pd_tupleL {pn : Pos} (h : PD X γ e (.lst ds)) (hm : X.mg "tuple" = none) (hg : Gl X "tuple" := by rfl) (he : starEach [e] X.env = (false, eval e X.env) :: starEach [] X.env := by rfl) : PD X γ (.Call (.Name "tuple" pn) [e] [] pos) (.tup ds) :=
  pd_cty call_tuple_of (rc_one fun Hs H v Q s r k => by
    cases r with
    | lst h1 r1 => exact ⟨_, _, rfl, .inl ⟨.inl (.inl (s _ _ h1)), newT s r1 k⟩⟩) hg hm boot_tuple (pa_cons h pa_nil he) (by decide) (by decide) he rfl
theorem pd_tupleT {pn : Pos} (h : PD X γ e (.tup ds)) (hm : X.mg "tuple" = none) (hg : Gl X "tuple" := by rfl) (he : starEach [e] X.env = (false, eval e X.env) :: starEach [] X.env := by rfl) : PD X γ (.Call (.Name "tuple" pn) [e] [] pos) (.tup ds) :=
  pd_cty call_tuple_of (rc_one fun Hs H v Q s r k => by
    cases r with
    | tup h1 r1 => exact ⟨_, _, rfl, .inr ⟨sqT_mono s h1, k _ Hs H (Gr.refl s) (.tup h1 r1)⟩⟩) hg hm boot_tuple (pa_cons h pa_nil he) (by decide) (by decide) he rfl
/-- xs + ys -/
theorem pn_cat {es' : List D} (ha : PD X γ a (.lst ds)) (hb : PD X γ b (.lst es')) (hz : ds.length + es'.length ≤ 100000) : PN X γ (.BinOp a .Add b pos) (ds ++ es') :=
  pn_op op_cat (fun Hs H v u Q s r1 r2 k => by
    cases r1 with
    | lst h1 r1 =>
      cases r2 with
      | lst h2 r2 => exact ⟨_, _, _, _, rfl, rfl, s _ _ h1, s _ _ h2, sz_of (by rw [r1.length, r2.length]; exact hz), newL s (r1.append r2) k⟩) ha hb
end
end Pd
end

section
set_option autoImplicit false
set_option Elab.async false
set_option linter.all false
set_option maxRecDepth 100000
set_option maxHeartbeats 4000000
namespace Pd
open PySem PySem.Spec PyProof.Rows L2

/-! ### the state of a body -/
/-- a thing of one's own, as a slot has it -/
def RepO (K : PySem.W.Frag) (Hs : Hp) (l : Addr) (o : HO) : Sl → Prop
  | .ow ds => ∃ vs, o = .lst vs ∧ Reps K Hs vs ds
  | .ob p C fs => p = l ∧ ∃ dx vs, o = .ins C dx vs ∧ RepF K Hs vs fs
  | _ => False
def Sl.isO : Sl → Bool
  | .ow _ => true
  | .ob _ _ _ => true
  | _ => false
/-- looked at as shared -/
def Sl.vw : Sl → Sl
  | .ow ds => .sh (.lst ds)
  | .ob _ C fs => .sh (.obj C fs)
  | s => s
theorem repO_l {K : PySem.W.Frag} {Hs : Hp} {l : Addr} {vs : List V} {ds : List D} (r : Reps K Hs vs ds) : RepO K Hs l (.lst vs) (.ow ds) := ⟨vs, rfl, r⟩
theorem repO_o {K : PySem.W.Frag} {Hs : Hp} {p C dx : Addr} {vs : List (Str × V)} {fs : List (Str × D)} (r : RepF K Hs vs fs) : RepO K Hs p (.ins C dx vs) (.ob p C fs) := ⟨rfl, dx, vs, rfl, r⟩
theorem RepO.mono {K : PySem.W.Frag} {Hs Hs' : Hp} {l : Addr} {o : HO} (e : Same Hs Hs') : ∀ {s : Sl}, RepO K Hs l o s → RepO K Hs' l o s
  | .ow _, ⟨vs, h, r⟩ => ⟨vs, h, r.mono e⟩
  | .ob _ _ _, ⟨hp, dx, vs, h, r⟩ => ⟨hp, dx, vs, h, r.mono e⟩
  | .no, h => h.elim
  | .sh _, h => h.elim
theorem RepO.isO {K : PySem.W.Frag} {Hs : Hp} {l : Addr} {o : HO} : ∀ {s : Sl}, RepO K Hs l o s → s.isO = true
  | .ow _, _ => rfl
  | .ob _ _ _, _ => rfl
  | .no, h => h.elim
  | .sh _, h => h.elim
theorem RepO.vw {K : PySem.W.Frag} {Hs H : Hp} {o : HO} {l : Addr} (e : Same Hs H) (hl : H l = some o) : ∀ {s : Sl}, RepO K Hs l o s → ∃ d, s.vw = .sh d ∧ Rep K H (.ref l) d
  | .ow _, ⟨vs, h, r⟩ => ⟨_, rfl, .lst (by rw [hl, h]) (r.mono e)⟩
  | .ob _ _ _, ⟨_, dx, vs, h, r⟩ => ⟨_, rfl, .obj (by rw [hl, h]) (r.mono e)⟩
  | .no, h => h.elim
  | .sh _, h => h.elim
structure ST (K : PySem.W.Frag) (Hs0 H0 Hr Hs H : Hp) (σ : L2.St) (γ : List Sl) : Prop where
  gr : Gr Hs0 H0 Hs H
  rf : Same Hr Hs
  len : σ.length = γ.length
  shd : ∀ (i : Nat) (d : D), γ[i]? = some (Sl.sh d) → ∃ v, σ[i]? = some (some v) ∧ Rep K Hs v d
  own : ∀ (i : Nat) (s : Sl), γ[i]? = some s → s.isO = true → ∃ l o, σ[i]? = some (some (V.ref l)) ∧ H l = some o ∧ Hs l = none ∧ H0 l = none ∧ RepO K Hs l o s
  dif : ∀ (i j : Nat) (s t : Sl) (l : Addr), i ≠ j → γ[i]? = some s → γ[j]? = some t → s.isO = true → t.isO = true → σ[i]? = some (some (V.ref l)) → σ[j]? ≠ some (some (V.ref l))
/-- what is wanted behind -/
structure Rs where
  nx : List Sl → Prop
  rt : D → Prop
  bk : List Sl → Prop := fun _ => False
  ct : List Sl → Prop := fun _ => False
  rn : List D → Prop := fun _ => False
  xs : Addr → List (Str × D) → List Sl → Prop := fun _ _ _ => False
structure Fit (X : Cx) (Hs0 H0 Hr : Hp) (R : Rs) (E : Ends) : Prop where
  nx : ∀ γ σ Hs H, ST X.K Hs0 H0 Hr Hs H σ γ → R.nx γ → E.nx σ H
  bk : ∀ γ σ Hs H, ST X.K Hs0 H0 Hr Hs H σ γ → R.bk γ → E.bk σ H
  ct : ∀ γ σ Hs H, ST X.K Hs0 H0 Hr Hs H σ γ → R.ct γ → E.ct σ H
  rt : ∀ d v Hs H, Gr Hs0 H0 Hs H → Rep X.K Hs v d → R.rt d → E.rt v H
  rn : ∀ ds l vs Hs H, Gr Hs0 H0 Hs H → H0 l = none → Hs l = none → H l = some (.lst vs) → Reps X.K Hs vs ds → R.rn ds → E.rt (.ref l) H
  xs : (∀ C fs γ, ¬ R.xs C fs γ) ∨ ∃ W : WX, Takes X W ∧ ∀ C fs dd vs γ σ Hs H, ST X.K Hs0 H0 Hr Hs H σ γ → Hs dd = some (.xd vs) → RepF X.K Hs vs fs → R.xs C fs γ → W (.ref C) (some dd) σ H
def wS (X : Cx) (st : Stmt) : TS := fun E σ H => ∀ (pins : List (Addr × Obj)) (s : Shared), Inv X pins σ H s → wpAny (model X.prog X.w) X.A (exec st X.env) (SP X pins E) X.xe s
theorem wS_ok {X : Cx} (st : Stmt) : PS X st (wS X st) := ⟨fun pins s σ H E I h => h pins s I⟩
theorem wS_of {X : Cx} {st : Stmt} {t : TS} (h : PS X st t) {E : Ends} {σ : L2.St} {H : Hp} (q : t E σ H) : wS X st E σ H := fun pins s I => h.run pins s σ H E I q
def wSs (X : Cx) (st : List Stmt) : TS := fun E σ H => ∀ (pins : List (Addr × Obj)) (s : Shared), Inv X pins σ H s → wpAny (model X.prog X.w) X.A (execs st X.env) (SP X pins E) X.xe s
theorem wSs_ok {X : Cx} (st : List Stmt) : PSs X st (wSs X st) := ⟨fun pins s σ H E I h => h pins s I⟩
theorem wSs_of {X : Cx} {st : List Stmt} {t : TS} (h : PSs X st t) {E : Ends} {σ : L2.St} {H : Hp} (q : t E σ H) : wSs X st E σ H := fun pins s I => h.run pins s σ H E I q
/-- a statement, a block: from γ to what R wants -/
def S1 (X : Cx) (st : Stmt) (γ : List Sl) (R : Rs) : Prop := ∀ (Hs0 H0 Hr : Hp) (E : Ends), Fit X Hs0 H0 Hr R E → ∀ σ Hs H, ST X.K Hs0 H0 Hr Hs H σ γ → wS X st E σ H
def SD (X : Cx) (st : List Stmt) (γ : List Sl) (R : Rs) : Prop := ∀ (Hs0 H0 Hr : Hp) (E : Ends), Fit X Hs0 H0 Hr R E → ∀ σ Hs H, ST X.K Hs0 H0 Hr Hs H σ γ → wSs X st E σ H

section
variable {K : PySem.W.Frag} {Hs0 H0 Hr Hs H Hs' H' : Hp} {σ : L2.St} {γ : List Sl}
theorem set_self_of {α : Type} {l : List α} {i : Nat} {a b : α} (q : (l.set i a)[i]? = some b) : a = b := by
  by_cases hl : i < l.length
  · rw [List.getElem?_set_self hl] at q; exact Option.some.inj q
  · rw [List.getElem?_eq_none (by simpa using Nat.le_of_not_lt hl)] at q; cases q
theorem ST.se (t : ST K Hs0 H0 Hr Hs H σ γ) : SE K Hs σ γ := ⟨t.len, t.shd⟩
theorem ST.sub (t : ST K Hs0 H0 Hr Hs H σ γ) : Same Hs H := t.gr.sub
theorem ST.go (t : ST K Hs0 H0 Hr Hs H σ γ) (g : Gr Hs H Hs' H') : ST K Hs0 H0 Hr Hs' H' σ γ where
  gr := t.gr.trans g
  rf := t.rf.trans g.sh
  len := t.len
  shd := fun i d q => let ⟨v, a, b⟩ := t.shd i d q; ⟨v, a, b.mono g.sh⟩
  own := fun i s q w => let ⟨l, o, a, b, c, d, r⟩ := t.own i s q w; ⟨l, o, a, g.ext _ _ b, g.loc l (by rw [b]; intro z; cases z) c, d, r.mono g.sh⟩
  dif := t.dif
/-- a slot is stored -/
theorem ST.set {i : Nat} {v : V} {d : D} (t : ST K Hs0 H0 Hr Hs H σ γ) (r : Rep K Hs v d) : ST K Hs0 H0 Hr Hs H (σ.set i (some v)) (γ.set i (.sh d)) where
  gr := t.gr
  rf := t.rf
  len := by simpa using t.len
  shd := fun j e q => by
    by_cases h : i = j
    · subst h
      have hl : i < γ.length := by
        have := (List.getElem?_eq_some_iff.mp q).1
        simpa using this
      have z := set_self_of q
      cases z
      exact ⟨v, by rw [List.getElem?_set_self (by rw [t.len]; exact hl)], r⟩
    · rw [List.getElem?_set_ne h] at q ⊢
      exact t.shd j e q
  own := fun j s q w => by
    by_cases h : i = j
    · subst h
      have z := set_self_of q
      subst z
      cases w
    · rw [List.getElem?_set_ne h] at q ⊢
      exact t.own j s q w
  dif := fun j k s u l hjk q1 q2 w1 w2 => by
    by_cases h : i = j
    · subst h
      have z := set_self_of q1
      subst z
      cases w1
    · by_cases h2 : i = k
      · subst h2
        have z := set_self_of q2
        subst z
        cases w2
      · rw [List.getElem?_set_ne h] at q1 ⊢
        rw [List.getElem?_set_ne h2] at q2 ⊢
        exact t.dif j k s u l hjk q1 q2 w1 w2
/-- a slot holds a new thing of one's own -/
theorem ST.setO {i : Nat} {l : Addr} {o : HO} {s : Sl} (t : ST K Hs0 H0 Hr Hs H σ γ) (g : Gr Hs H Hs' H') (h1 : H l = none) (h2 : Hs' l = none) (h3 : H' l = some o) (r : RepO K Hs' l o s) : ST K Hs0 H0 Hr Hs' H' (σ.set i (some (.ref l))) (γ.set i s) where
  gr := t.gr.trans g
  rf := t.rf.trans g.sh
  len := by simpa using t.len
  shd := fun j e q => by
    by_cases h : i = j
    · subst h
      have z := set_self_of q
      subst z
      exact r.elim
    · rw [List.getElem?_set_ne h] at q ⊢
      exact (t.go g).shd j e q
  own := fun j u q w => by
    by_cases h : i = j
    · subst h
      have hl : i < γ.length := by
        have := (List.getElem?_eq_some_iff.mp q).1
        simpa using this
      have z := set_self_of q
      subst z
      exact ⟨l, o, by rw [List.getElem?_set_self (by rw [t.len]; exact hl)], h3, h2, t.gr.ext.free h1, r⟩
    · rw [List.getElem?_set_ne h] at q ⊢
      exact (t.go g).own j u q w
  dif := fun j k s' u l' hjk q1 q2 v1 v2 => by
    have old : ∀ (m : Nat) (u'' : Sl) (l'' : Addr), γ[m]? = some u'' → u''.isO = true → σ[m]? = some (some (V.ref l'')) → l'' ≠ l := fun m u'' l'' q v w z => by
      obtain ⟨l2, o2, a, b, _⟩ := t.own m u'' q v
      rw [w] at a
      cases a
      rw [z, h1] at b
      cases b
    by_cases h : i = j
    · subst h
      have h2' : i ≠ k := hjk
      rw [List.getElem?_set_ne h2'] at q2 ⊢
      intro w1 w2
      have z := set_self_of w1
      cases z
      exact old k u l q2 v2 w2 rfl
    · rw [List.getElem?_set_ne h] at q1 ⊢
      by_cases h2' : i = k
      · subst h2'
        intro w1 w2
        have z := set_self_of w2
        cases z
        exact old j s' l q1 v1 w1 rfl
      · rw [List.getElem?_set_ne h2'] at q2 ⊢
        exact t.dif j k s' u l' hjk q1 q2 v1 v2
/-- a thing of one's own is changed -/
theorem ST.upd {i : Nat} {l : Addr} {o : HO} {s u : Sl} (t : ST K Hs0 H0 Hr Hs H σ γ) (q : γ[i]? = some s) (w : s.isO = true) (hl : σ[i]? = some (some (.ref l))) (r : RepO K Hs l o u) : ST K Hs0 H0 Hr Hs (upd H l o) σ (γ.set i u) := by
  obtain ⟨l', o', a, b, c, d, _⟩ := t.own i s q w
  rw [hl] at a
  cases a
  have hi : i < γ.length := (List.getElem?_eq_some_iff.mp q).1
  refine ⟨⟨t.gr.sh, fun x y e => ?_, fun x y e => ?_, t.gr.loc⟩, t.rf, by simpa using t.len, fun j e z => ?_, fun j s' z v => ?_, fun j k s' u' l' hjk q1 q2 v1 v2 => ?_⟩
  · rw [upd_ne (ne_of_none e d)]; exact t.gr.ext x y e
  · rw [upd_ne (ne_of_none e c)]; exact t.gr.sub x y e
  · by_cases h : i = j
    · subst h
      have y := set_self_of z
      subst y
      exact r.elim
    · rw [List.getElem?_set_ne h] at z; exact t.shd j e z
  · by_cases h : i = j
    · subst h
      have y := set_self_of z
      subst y
      exact ⟨l, o, hl, upd_same, c, d, r⟩
    · rw [List.getElem?_set_ne h] at z
      obtain ⟨l2, o2, a2, b2, c2, d2, r2⟩ := t.own j s' z v
      refine ⟨l2, o2, a2, ?_, c2, d2, r2⟩
      rw [upd_ne fun y => t.dif i j s s' l h q z w v hl (by rw [← y]; exact a2)]
      exact b2
  · have q1' : ∃ s'', γ[j]? = some s'' ∧ s''.isO = true := by
      by_cases h : i = j
      · subst h; exact ⟨s, q, w⟩
      · rw [List.getElem?_set_ne h] at q1; exact ⟨_, q1, v1⟩
    have q2' : ∃ s'', γ[k]? = some s'' ∧ s''.isO = true := by
      by_cases h : i = k
      · subst h; exact ⟨s, q, w⟩
      · rw [List.getElem?_set_ne h] at q2; exact ⟨_, q2, v2⟩
    obtain ⟨_, q1', z1⟩ := q1'
    obtain ⟨_, q2', z2⟩ := q2'
    exact t.dif j k _ _ l' hjk q1' q2' z1 z2
/-- a thing of one's own is given away -/
theorem ST.freeze {i : Nat} {s : Sl} (t : ST K Hs0 H0 Hr Hs H σ γ) (q : γ[i]? = some s) (w : s.isO = true) : ∃ Hs', Same Hs Hs' ∧ ST K Hs0 H0 Hr Hs' H σ (γ.set i s.vw) := by
  obtain ⟨l, o, a, b, c, d, r⟩ := t.own i s q w
  have hi : i < γ.length := (List.getElem?_eq_some_iff.mp q).1
  have s1 : Same Hs (L2.upd Hs l o) := fun x u e => by rw [upd_ne (ne_of_none e c)]; exact e
  obtain ⟨dd, hv, rv⟩ := (r.mono s1).vw (Same.refl _) (upd_same (H := Hs) (a := l) (o := o))
  refine ⟨L2.upd Hs l o, s1, ⟨t.gr.sh.trans s1, t.gr.ext, fun x u e => ?_, fun x h1 h2 => ?_⟩, t.rf.trans s1, by simpa using t.len, fun j e z => ?_, fun j u z v => ?_, fun j k s' u l' hjk q1 q2 v1 v2 => ?_⟩
  · by_cases z : x = l
    · subst z; rw [upd_same] at e; rw [← e]; exact b
    · rw [upd_ne z] at e; exact t.gr.sub x u e
  · have z : x ≠ l := fun z => h1 (by rw [z]; exact d)
    rw [upd_ne z]; exact t.gr.loc x h1 h2
  · by_cases h : i = j
    · subst h
      have y := set_self_of z
      rw [hv] at y
      cases y
      exact ⟨_, a, rv⟩
    · rw [List.getElem?_set_ne h] at z
      obtain ⟨v, h1, h2⟩ := t.shd j e z
      exact ⟨v, h1, h2.mono s1⟩
  · by_cases h : i = j
    · subst h
      have y := set_self_of z
      rw [hv] at y
      subst y
      cases v
    · rw [List.getElem?_set_ne h] at z
      obtain ⟨l2, o2, a2, b2, c2, d2, r2⟩ := t.own j u z v
      refine ⟨l2, o2, a2, b2, ?_, d2, r2.mono s1⟩
      rw [upd_ne fun y => t.dif i j s u l h q z w v a (by rw [← y]; exact a2)]
      exact c2
  · have q1' : i ≠ j := fun h => by
      subst h
      have y := set_self_of q1
      rw [hv] at y
      subst y
      cases v1
    have q2' : i ≠ k := fun h => by
      subst h
      have y := set_self_of q2
      rw [hv] at y
      subst y
      cases v2
    rw [List.getElem?_set_ne q1'] at q1
    rw [List.getElem?_set_ne q2'] at q2
    exact t.dif j k _ _ l' hjk q1 q2 v1 v2
/-- a slot forgotten -/
theorem ST.forget {i : Nat} (t : ST K Hs0 H0 Hr Hs H σ γ) : ST K Hs0 H0 Hr Hs H σ (γ.set i .no) where
  gr := t.gr
  rf := t.rf
  len := by simpa using t.len
  shd := fun j e w => by
    by_cases h : i = j
    · subst h
      have z := set_self_of w
      cases z
    · rw [List.getElem?_set_ne h] at w; exact t.shd j e w
  own := fun j e w v => by
    by_cases h : i = j
    · subst h
      have z := set_self_of w
      subst z
      cases v
    · rw [List.getElem?_set_ne h] at w; exact t.own j e w v
  dif := fun j k s u l' hjk q1 q2 v1 v2 => by
    have q1' : i ≠ j := fun h => by
      subst h
      have y := set_self_of q1
      subst y
      cases v1
    have q2' : i ≠ k := fun h => by
      subst h
      have y := set_self_of q2
      subst y
      cases v2
    rw [List.getElem?_set_ne q1'] at q1
    rw [List.getElem?_set_ne q2'] at q2
    exact t.dif j k _ _ l' hjk q1 q2 v1 v2
theorem ST.view (t : ST K Hs0 H0 Hr Hs H σ γ) : SE K H σ (γ.map Sl.vw) := by
  refine ⟨by simpa using t.len, fun i d q => ?_⟩
  rw [List.getElem?_map] at q
  cases e : γ[i]? with
  | none => rw [e] at q; cases q
  | some s =>
    rw [e] at q
    have q' := Option.some.inj q
    cases hO : s.isO with
    | true =>
      obtain ⟨l, o, a, b, c, dd, r⟩ := t.own i s e hO
      obtain ⟨d2, h1, h2⟩ := r.vw t.sub b
      rw [q'] at h1
      cases h1
      exact ⟨_, a, h2⟩
    | false =>
      cases s with
      | no => cases q'
      | sh d' =>
        cases q'
        obtain ⟨v, h1, h2⟩ := t.shd i _ e
        exact ⟨v, h1, h2.mono t.sub⟩
      | ow ds => cases hO
      | ob p C fs => cases hO
end

section
variable {X : Cx} {γ : List Sl} {R : Rs} {st : Stmt} {sts rest : List Stmt} {e a b c : Expr} {es : List Expr} {d : D} {ds : List D} {pos : Pos} {i : Nat} {p : Bool}
theorem sd_nil (h : R.nx γ) : SD X [] γ R := fun Hs0 H0 Hr E F σ Hs H t => wSs_of pss_nil (F.nx γ σ Hs H t h)
theorem sd_cons (h : S1 X st γ { R with nx := fun γ' => SD X rest γ' R }) : SD X (st :: rest) γ R := fun Hs0 H0 Hr E F σ Hs H t =>
  wSs_of (pss_cons (wS_ok st) (wSs_ok rest)) (h Hs0 H0 Hr { E with nx := wSs X rest E } ⟨fun γ' σ' Hs' H' t' n => n Hs0 H0 Hr E F σ' Hs' H' t', F.bk, F.ct, F.rt, F.rn, F.xs⟩ σ Hs H t)
theorem sd_one (h : S1 X st γ R) : SD X [st] γ R := fun Hs0 H0 Hr E F σ Hs H t => wSs_of (pss_one (wS_ok st)) (h Hs0 H0 Hr E F σ Hs H t)
theorem sd_freeze (i : Nat) (q : γ[i]? = some (.ow ds)) (h : SD X sts (γ.set i (.sh (.lst ds))) R) : SD X sts γ R := fun Hs0 H0 Hr E F σ Hs H t => by
  obtain ⟨Hs', s, t'⟩ := t.freeze q rfl
  exact h Hs0 H0 Hr E F σ Hs' H t'
theorem s1_freeze (i : Nat) (q : γ[i]? = some (.ow ds)) (h : S1 X st (γ.set i (.sh (.lst ds))) R) : S1 X st γ R := fun Hs0 H0 Hr E F σ Hs H t => by
  obtain ⟨Hs', s, t'⟩ := t.freeze q rfl
  exact h Hs0 H0 Hr E F σ Hs' H t'
theorem sd_forget (i : Nat) (h : SD X sts (γ.set i .no) R) : SD X sts γ R := fun Hs0 H0 Hr E F σ Hs H t => h Hs0 H0 Hr E F σ Hs H t.forget
theorem sd_to {γ' : List Sl} (h : SD X sts γ' R) (e : γ = γ') : SD X sts γ R := by rw [e]; exact h
theorem SD.imp {R' : Rs} (h : SD X sts γ R) (nx : ∀ γ, R.nx γ → R'.nx γ) (rt : ∀ d, R.rt d → R'.rt d) (bk : ∀ γ, R.bk γ → R'.bk γ) (ct : ∀ γ, R.ct γ → R'.ct γ) (rn : ∀ d, R.rn d → R'.rn d) (xs : ∀ C fs γ, R.xs C fs γ → R'.xs C fs γ) : SD X sts γ R' := fun Hs0 H0 Hr E F =>
  h Hs0 H0 Hr E ⟨fun γ σ Hs H t q => F.nx γ σ Hs H t (nx γ q), fun γ σ Hs H t q => F.bk γ σ Hs H t (bk γ q), fun γ σ Hs H t q => F.ct γ σ Hs H t (ct γ q), fun d v Hs H g r q => F.rt d v Hs H g r (rt d q), fun ds l vs Hs H g h1 h2 h3 r q => F.rn ds l vs Hs H g h1 h2 h3 r (rn ds q), F.xs.elim (fun h => .inl fun C fs γ q => h C fs γ (xs C fs γ q)) fun ⟨W, a, b⟩ => .inr ⟨W, a, fun C fs dd vs γ σ Hs H t h1 h2 q => b C fs dd vs γ σ Hs H t h1 h2 (xs C fs γ q)⟩⟩
theorem s1_pass (h : R.nx γ) : S1 X (.Pass pos) γ R := fun Hs0 H0 Hr E F σ Hs H t => wS_of ps_pass (F.nx γ σ Hs H t h)
theorem s1_continue (h : R.ct γ) : S1 X (.Continue pos) γ R := fun Hs0 H0 Hr E F σ Hs H t => wS_of ps_continue (F.ct γ σ Hs H t h)
theorem s1_break (h : R.bk γ) : S1 X (.Break pos) γ R := fun Hs0 H0 Hr E F σ Hs H t => wS_of ps_break (F.bk γ σ Hs H t h)
theorem s1_ret (h : PD X γ e d) (k : R.rt d) : S1 X (.Return (some e) pos) γ R := fun Hs0 H0 Hr E F σ Hs H t =>
  wS_of (ps_ret (wE_ok e)) (h σ Hs H _ t.sub t.se fun v Hs' H' g r => F.rt d v Hs' H' (t.gr.trans g) r k)
/-- a list of one's own, a new list handed back -/
theorem s1_retO {n : Str} {p' : Pos} (i : Nat) (q : γ[i]? = some (.ow ds)) (k : R.rn ds) (hN : X.N[i]? = some n := by rfl) (hv : Vis X.env.scope n := by first | exact Or.inl rfl | exact Or.inr (Or.inl rfl) | exact Or.inr (Or.inr rfl))
    (hd : (n == ("__debug__" : Str)) = false := by decide) (hcd : (n == ("__classdict__" : Str)) = false := by decide) : S1 X (.Return (some (.Name n p')) pos) γ R := fun Hs0 H0 Hr E F σ Hs H t => by
  obtain ⟨l, o, a, b, c, d, vs, rfl, r⟩ := t.own i _ q rfl
  exact wS_of (ps_ret (pe_var hN hv hd hcd)) ⟨_, a, F.rn ds l vs Hs H t.gr d c b r k⟩
theorem s1_retNw (h : PN X γ e ds) (k : R.rn ds) : S1 X (.Return (some e) pos) γ R := fun Hs0 H0 Hr E F σ Hs H t =>
  wS_of (ps_ret (wE_ok e)) (h σ Hs H _ t.sub t.se fun l vs Hs' H' g h1 h2 h3 r => F.rn ds l vs Hs' H' (t.gr.trans g) (t.gr.ext.free h1) h2 h3 r k)
/-- scalars hang on no list -/
def D.sc : D → Bool
  | .non => true | .bl _ => true | .int _ => true | .str _ => true
  | _ => false
theorem Rep.sc {K : PySem.W.Frag} {H H' : Hp} {v : V} {d : D} (r : Rep K H v d) (h : d.sc = true) : Rep K H' v d := by
  cases r with
  | non => exact .non
  | bl b => exact .bl b
  | int i => exact .int i
  | str x => exact .str x
  | _ => cases h
/-- a scalar over one's own lists -/
theorem s1_retV (h : PD X (γ.map Sl.vw) e d) (hd : d.sc = true) (k : R.rt d) : S1 X (.Return (some e) pos) γ R := fun Hs0 H0 Hr E F σ Hs H t =>
  wS_of (ps_ret (wE_ok e)) (h σ H H _ (Same.refl _) t.view fun v Hs' H' g r => F.rt d v Hs H' ⟨t.gr.sh, t.gr.ext.trans g.ext, t.gr.sub.trans g.ext, t.gr.loc⟩ (r.sc hd) k)
theorem s1_retN (k : R.rt .non) : S1 X (.Return none pos) γ R := fun Hs0 H0 Hr E F σ Hs H t => wS_of ps_retN (F.rt .non .non Hs H t.gr .non k)
theorem ST.scal {K : PySem.W.Frag} {Hs0 H0 Hr Hs H Hs' H' : Hp} {σ : L2.St} (t : ST K Hs0 H0 Hr Hs H σ γ) (g : Gr H H Hs' H') : ST K Hs0 H0 Hr Hs H' σ γ :=
  t.go ⟨Same.refl _, g.ext, t.sub.trans g.ext, fun _ _ h => h⟩
theorem s1_asg {n : Str} {p' : Pos} (i : Nat) (h : PD X γ e d) (k : R.nx (γ.set i (.sh d))) (hN : X.N.Nodup) (hi : X.N[i]? = some n := by rfl) (hx : Loc X.env.scope n := by first | exact Or.inl rfl | exact Or.inr rfl) (hs : swapsWith e (some (.Name n p')) pos.line X.env = pure false := by rfl)
    (hf : X.fn n = true ∨ X.env.scope.names.lookup n = some .local := by first | exact .inl rfl | exact .inr rfl) : S1 X (.Assign [.Name n p'] e pos) γ R := fun Hs0 H0 Hr E F σ Hs H t =>
  wS_of (ps_set hN hi hx (wE_ok e) hs hf) (h σ Hs H _ t.sub t.se fun v Hs' H' g r => F.nx _ _ Hs' H' ((t.go g).set r) k)
theorem s1_asgV {n : Str} {p' : Pos} (i : Nat) (h : PD X (γ.map Sl.vw) e d) (hd : d.sc = true) (k : R.nx (γ.set i (.sh d))) (hN : X.N.Nodup) (hi : X.N[i]? = some n := by rfl) (hx : Loc X.env.scope n := by first | exact Or.inl rfl | exact Or.inr rfl) (hs : swapsWith e (some (.Name n p')) pos.line X.env = pure false := by rfl)
    (hf : X.fn n = true ∨ X.env.scope.names.lookup n = some .local := by first | exact .inl rfl | exact .inr rfl) : S1 X (.Assign [.Name n p'] e pos) γ R := fun Hs0 H0 Hr E F σ Hs H t =>
  wS_of (ps_set hN hi hx (wE_ok e) hs hf) (h σ H H _ (Same.refl _) t.view fun v Hs' H' g r => F.nx _ _ Hs H' ((t.scal g).set (r.sc hd)) k)
theorem s1_asgN {n : Str} {p' : Pos} (i : Nat) (h : PN X γ e ds) (k : R.nx (γ.set i (.ow ds))) (hN : X.N.Nodup) (hi : X.N[i]? = some n := by rfl) (hx : Loc X.env.scope n := by first | exact Or.inl rfl | exact Or.inr rfl) (hs : swapsWith e (some (.Name n p')) pos.line X.env = pure false := by rfl)
    (hf : X.fn n = true ∨ X.env.scope.names.lookup n = some .local := by first | exact .inl rfl | exact .inr rfl) : S1 X (.Assign [.Name n p'] e pos) γ R := fun Hs0 H0 Hr E F σ Hs H t =>
  wS_of (ps_set hN hi hx (wE_ok e) hs hf) (h σ Hs H _ t.sub t.se fun l vs Hs' H' g h1 h2 h3 r => F.nx _ _ Hs' H' (t.setO g h1 h2 h3 (repO_l r)) k)
theorem s1_drop (h : PD X γ e d) (k : R.nx γ) (hs : swapsWith e none pos.line X.env = pure false := by rfl) : S1 X (.Expr e pos) γ R := fun Hs0 H0 Hr E F σ Hs H t =>
  wS_of (ps_expr (wE_ok e) hs) (h σ Hs H _ t.sub t.se fun v Hs' H' g r => F.nx _ _ Hs' H' (t.go g) k)
theorem s1_if (h : PDT X γ c p) (h1 : p = true → SD X sts γ R) (h2 : p = false → SD X rest γ R) : S1 X (.If c sts rest pos) γ R := fun Hs0 H0 Hr E F σ Hs H t =>
  wS_of (ps_if (wT_ok c) (wSs_ok sts) (wSs_ok rest)) (h σ Hs H _ t.sub t.se fun Hs' H' g => by
    cases p with
    | true => exact h1 rfl Hs0 H0 Hr E F σ Hs' H' (t.go g)
    | false => exact h2 rfl Hs0 H0 Hr E F σ Hs' H' (t.go g))
theorem s1_ifV (h : PDT X (γ.map Sl.vw) c p) (h1 : p = true → SD X sts γ R) (h2 : p = false → SD X rest γ R) : S1 X (.If c sts rest pos) γ R := fun Hs0 H0 Hr E F σ Hs H t =>
  wS_of (ps_if (wT_ok c) (wSs_ok sts) (wSs_ok rest)) (h σ H H _ (Same.refl _) t.view fun Hs' H' g => by
    cases p with
    | true => exact h1 rfl Hs0 H0 Hr E F σ Hs H' (t.scal g)
    | false => exact h2 rfl Hs0 H0 Hr E F σ Hs H' (t.scal g))
/-- x.append(e), x a list of one's own -/
theorem s1_app {n : Str} {ap p' : Pos} (i : Nat) (q : γ[i]? = some (.ow ds)) (h : PD X γ e d) (k : R.nx (γ.set i (.ow (ds ++ [d])))) (hz : ds.length < 100000) (hN : X.N[i]? = some n := by rfl) (hv : Vis X.env.scope n := by first | exact Or.inl rfl | exact Or.inr (Or.inl rfl) | exact Or.inr (Or.inr rfl))
    (hd : (n == ("__debug__" : Str)) = false := by decide) (hcd : (n == ("__classdict__" : Str)) = false := by decide)
    (hs : swapsWith (.Call (.Attribute (.Name n p') "append" ap) [e] [] pos) none pos.line X.env = pure false := by rfl)
    (hbase : attributeBase (.Name n p') "append" X.env (eval (.Name n p') X.env) = eval (.Name n p') X.env := by rfl)
    (hfew : ((backTo pos (starEach [e] X.env)).all (fun x => !x.1) && (backToKw pos (keywordEach [] X.env)).all (fun x => x.1.isSome)
      && decide (([e] : List Expr).length + ([] : List Keyword).length + (if ([] : List Keyword).isEmpty then 0 else 1) < 30)) = true := by rfl)
    (hline : (ap.endLine == pos.line) = true := by rfl) (hst : starEach [e] X.env = (false, eval e X.env) :: starEach [] X.env := by rfl) (hpl : (backTo pos (starEach [] X.env)).any (·.1) = false := by rfl) :
    S1 X (.Expr (.Call (.Attribute (.Name n p') "append" ap) [e] [] pos) pos) γ R := fun Hs0 H0 Hr E F σ Hs H t => by
  obtain ⟨l, o, a, b, c, dd, vs, rfl, r⟩ := t.own i _ q rfl
  refine wS_of (ps_expr (pe_bm PySem.F.plainAttrs_list PySem.F.slot_list_append PySem.F.type_list_append mt_append (pe_var hN hv hd hcd) (L2.pa_cons (wE_ok e) L2.pa_nil hst) hbase hfew hline hst hpl) hs) ?_
  refine ⟨.ref l, a, .inl ⟨rfl, _, SqL.of b⟩, ?_⟩
  refine h σ Hs H _ t.sub t.se fun v Hs' H' g r' => ?_
  have t' := t.go g
  refine ⟨l, vs, v, rfl, rfl, g.ext _ _ b, sz_lt (by rw [r.length]; exact hz), ?_⟩
  exact F.nx _ _ Hs' _ (t'.upd q rfl a (repO_l ((r.mono g.sh).append (.cons r' .nil)))) k
/-- x[k] = e, x a list of one's own -/
theorem s1_setO {n : Str} {p' p2 : Pos} {j : Nat} {ji : Int} (i : Nat) (q : γ[i]? = some (.ow ds)) (h : PD X γ e d) (hix : PD X γ b (.int ji)) (hj : ixN ds.length ji = some j) (k : R.nx (γ.set i (.ow (ds.set j d)))) (hN : X.N[i]? = some n := by rfl) (hv : Vis X.env.scope n := by first | exact Or.inl rfl | exact Or.inr (Or.inl rfl) | exact Or.inr (Or.inr rfl))
    (hd : (n == ("__debug__" : Str)) = false := by decide) (hcd : (n == ("__classdict__" : Str)) = false := by decide)
    (ha : ∀ v, assign (.Subscript (.Name n p') b p2) X.env v = (do
      let ov ← holding [v] (eval (.Name n p') X.env)
      let iv ← holding [v, ov] (eval b X.env)
      standAt p2
      holding [v, ov, iv] (setItem ov iv v)
      release [v, ov, iv] []) := by intro _; rfl)
    (hs : swapsWithSole [.Subscript (.Name n p') b p2] e pos.line X.env = pure false := by rfl) (hw : swappedStores [.Subscript (.Name n p') b p2] e X.env = pure none := by rfl)
    (h1 : (assignEach [.Subscript (.Name n p') b p2] X.env).map (·.2) = [assign (.Subscript (.Name n p') b p2) X.env] := by rfl) : S1 X (.Assign [.Subscript (.Name n p') b p2] e pos) γ R := fun Hs0 H0 Hr E F σ Hs H t => by
  obtain ⟨l, o, a, bb, c, dd, vs, rfl, r⟩ := t.own i _ q rfl
  refine wS_of (ps_asg (wE_ok e) (pg_sub (pe_var hN hv hd hcd) (wE_ok b) set_list ha) hs hw h1) ?_
  refine h σ Hs H _ t.sub t.se fun v Hs1 H1 g1 r1 => ?_
  refine ⟨.ref l, a, ?_⟩
  refine hix σ Hs1 H1 _ g1.sub (t.se.mono g1.sh) fun u Hs2 H2 g2 r2 => ?_
  cases r2
  have g := g1.trans g2
  refine ⟨l, vs, ji, j, rfl, rfl, g.ext _ _ bb, by rw [r.length]; exact hj, ?_⟩
  exact F.nx _ _ Hs2 _ ((t.go g).upd q rfl a (repO_l ((r.mono g.sh).set (r1.mono g2.sh) j))) k
end

/-! ### defs -/
/-- from data to data -/
def spD (K : PySem.W.Frag) (G : List D → D → Prop) : Sp := fun vs H Q _ => ∃ Hs ds d, Same Hs H ∧ Reps K Hs vs ds ∧ G ds d ∧ ∀ v Hs' H', Gr Hs H Hs' H' → Rep K Hs' v d → Q v H'
/-- to a new list -/
def spN (K : PySem.W.Frag) (G : List D → List D → Prop) : Sp := fun vs H Q _ => ∃ Hs ds es, Same Hs H ∧ Reps K Hs vs ds ∧ G ds es ∧ ∀ l us Hs' H', Gr Hs H Hs' H' → H l = none → Hs' l = none → H' l = some (.lst us) → Reps K Hs' us es → Q (.ref l) H'
/-- a def of the module's, called by its name -/
structure DF (P : Program) (w : World) (K : PySem.W.Frag) (mg : Str → Option Value) (base : Heap) (k : Nat) (x : Str) (sp : Sp) : Prop where
  ex : ∃ f fd ps, FnOk P w K mg base CX0 k f fd ps sp ∧ mg x = some (.ref f) ∧ PySem.W.keepIn K (.ref f) = true ∧ Binds K fd ps []
theorem DF.mono {P : Program} {w : World} {K : PySem.W.Frag} {mg : Str → Option Value} {base : Heap} {k j : Nat} {x : Str} {sp : Sp} (h : DF P w K mg base k x sp) (l : k ≤ j) : DF P w K mg base j x sp := by
  obtain ⟨f, fd, ps, a, b, c, d⟩ := h.ex
  exact ⟨f, fd, ps, a.mono l, b, c, d⟩
section
variable {X : Cx} {γ : List Sl} {e : Expr} {es : List Expr} {d : D} {ds zs : List D} {pos pn : Pos} {k : Nat} {n : Str}
theorem pd_f {G : List D → D → Prop} (F : DF X.prog X.w X.K X.mg X.base k n (spD X.K G)) (hr : Room k X.A) (ha : PDA X γ (e :: es) ds) (hG : G ds d) (hg : Gl X n := by rfl) (hdb : (n == ("__debug__" : Str)) = false := by decide)
    (he : starEach (e :: es) X.env = (false, eval e X.env) :: starEach es X.env := by rfl) (hpl : (backTo pos (starEach es X.env)).any (·.1) = false := by rfl) : PD X γ (.Call (.Name n pn) (e :: es) [] pos) d := fun σ Hs H Q s E kk => by
  obtain ⟨f, fd, ps, a, b, c, dd⟩ := F.ex
  refine wE_of (pe_call a hr hg b c dd .nil pass0 (wA_ok _) hdb he hpl) (ha σ Hs H _ s E fun vs Hs' H' g r => ?_)
  rw [List.append_nil]
  exact ⟨Hs', ds, d, g.sub, r, hG, fun v Hs2 H2 g2 r2 => kk v Hs2 H2 (g.trans g2) r2⟩
theorem pn_f {G : List D → List D → Prop} (F : DF X.prog X.w X.K X.mg X.base k n (spN X.K G)) (hr : Room k X.A) (ha : PDA X γ (e :: es) ds) (hG : G ds zs) (hg : Gl X n := by rfl) (hdb : (n == ("__debug__" : Str)) = false := by decide)
    (he : starEach (e :: es) X.env = (false, eval e X.env) :: starEach es X.env := by rfl) (hpl : (backTo pos (starEach es X.env)).any (·.1) = false := by rfl) : PN X γ (.Call (.Name n pn) (e :: es) [] pos) zs := fun σ Hs H Q s E kk => by
  obtain ⟨f, fd, ps, a, b, c, dd⟩ := F.ex
  refine wE_of (pe_call a hr hg b c dd .nil pass0 (wA_ok _) hdb he hpl) (ha σ Hs H _ s E fun vs Hs' H' g r => ?_)
  rw [List.append_nil]
  exact ⟨Hs', ds, zs, g.sub, r, hG, fun l us Hs2 H2 g2 h1 h2 h3 r2 => kk l us Hs2 H2 (g.trans g2) (g.ext.free h1) h2 h3 r2⟩
end
/-- the start of a def's body -/
def st0 (N : List Str) (ds : List D) : List Sl := ds.map Sl.sh ++ List.replicate (N.length - ds.length) .no
theorem st_start {K : PySem.W.Frag} {Hs H : Hp} {N : List Str} {vs : List V} {ds : List D} (s : Same Hs H) (r : Reps K Hs vs ds) : ST K Hs H Hs Hs H (L2.start N vs) (st0 N ds) := by
  have hl := r.length
  have no : ∀ (i : Nat) x, (st0 N ds)[i]? = some x → (∃ d, ds[i]? = some d ∧ x = Sl.sh d) ∨ x = Sl.no := fun i x q => by
    unfold st0 at q
    by_cases h : i < (ds.map Sl.sh).length
    · rw [List.getElem?_append_left h, List.getElem?_map] at q
      cases e : ds[i]? with
      | none => rw [e] at q; cases q
      | some d => rw [e] at q; cases q; exact .inl ⟨d, rfl, rfl⟩
    · rw [List.getElem?_append_right (Nat.le_of_not_lt h), List.getElem?_replicate] at q
      split at q
      · cases q; exact .inr rfl
      · cases q
  refine ⟨Gr.refl s, Same.refl _, ?_, fun i d q => ?_, fun i u q w => ?_, fun i j u u' l _ q _ w => ?_⟩
  · unfold L2.start st0; simp [hl]
  · rcases no i _ q with ⟨d', h1, h2⟩ | h
    · cases h2
      obtain ⟨v, hv, rv⟩ := r.get h1
      refine ⟨v, ?_, rv⟩
      unfold L2.start
      have : i < (vs.map some).length := by
        rw [List.length_map]; exact (List.getElem?_eq_some_iff.mp hv).1
      rw [List.getElem?_append_left this, List.getElem?_map, hv] <;> rfl
    · cases h
  · rcases no i _ q with ⟨d', h1, h2⟩ | h
    · subst h2; cases w
    · subst h; cases w
  · rcases no i _ q with ⟨d', h1, h2⟩ | h
    · subst h2; cases w
    · subst h; cases w
end Pd
end

section
set_option autoImplicit false
set_option Elab.async false
set_option linter.all false
set_option maxRecDepth 100000
set_option maxHeartbeats 4000000
namespace Pd
open PySem PySem.Spec PyProof.Rows L2

/-! ### a def's body -/
section
variable {P : Program} {w : World} {K : PySem.W.Frag} {mg : Str → Option Value} {base : Heap} {x qual : Str} {params : Arguments} {body : List Stmt} {scope : Scope} {f : Addr} {fd : FuncData} {N ps : List Str} {k : Nat}
/-- the context of a def that lets no exception out -/
abbrev BX (P : Program) (w : World) (K : PySem.W.Frag) (mg : Str → Option Value) (base : Heap) (N : List Str) (qual : Str) (scope : Scope) (f : Addr) (cdv : Value) (A : Around) (outer : List Env) (s : Shared) (H : Hp) (E : XK) : Cx := (cxOf CX0 P w K mg base N qual scope f cdv A outer s H E).nox
theorem fnD {dvs : List V} {kws : List (Str × V)} {G : List D → D → Prop} (F : FunD K x qual params body scope dvs kws f fd) (S : FnScope N ps scope) (len : ∀ ds d, G ds d → ds.length = ps.length)
    (hbody : ∀ cdv A outer s H E, Room k (BX P w K mg base N qual scope f cdv A outer s H E).A → ∀ ds d, G ds d → SD (BX P w K mg base N qual scope f cdv A outer s H E) body (st0 N ds) { nx := fun _ => d = .non, rt := fun d' => d' = d, rn := fun es => d = .lst es }) :
    FnOk P w K mg base CX0 (k + 1) f fd ps (spD K G) := by
  refine F.ok S (fun vs H Q E h => ?_) (fun cdv A outer s H vs Q E hr h => ?_)
  · obtain ⟨Hs, ds, d, _, r, hG, _⟩ := h
    rw [r.length, len ds d hG]
  · obtain ⟨Hs, ds, d, sm, r, hG, kk⟩ := h
    refine ⟨_, PSs.nox (wSs_ok _), ?_⟩
    refine hbody cdv A outer s H E hr ds d hG Hs H Hs { nx := fun _ H' => Q .non H', rt := Q } ⟨fun γ σ Hs' H' t q => ?_, fun _ _ _ _ _ q => q.elim, fun _ _ _ _ _ q => q.elim, fun d' v Hs' H' g r' q => ?_, fun es l us Hs' H' g h1 h2 h3 r' q => ?_, .inl fun _ _ _ q => q⟩ _ Hs H (st_start sm r)
    · subst q
      exact kk _ Hs' H' t.gr .non
    · subst q
      exact kk v Hs' H' g r'
    · subst q
      obtain ⟨g', r2⟩ := share sm g h1 h2 h3 r'
      exact kk _ _ _ g' r2
theorem fnN {dvs : List V} {kws : List (Str × V)} {G : List D → List D → Prop} (F : FunD K x qual params body scope dvs kws f fd) (S : FnScope N ps scope) (len : ∀ ds d, G ds d → ds.length = ps.length)
    (hbody : ∀ cdv A outer s H E, Room k (BX P w K mg base N qual scope f cdv A outer s H E).A → ∀ ds es, G ds es → SD (BX P w K mg base N qual scope f cdv A outer s H E) body (st0 N ds) { nx := fun _ => False, rt := fun _ => False, rn := fun es' => es' = es }) :
    FnOk P w K mg base CX0 (k + 1) f fd ps (spN K G) := by
  refine F.ok S (fun vs H Q E h => ?_) (fun cdv A outer s H vs Q E hr h => ?_)
  · obtain ⟨Hs, ds, d, _, r, hG, _⟩ := h
    rw [r.length, len ds d hG]
  · obtain ⟨Hs, ds, es, sm, r, hG, kk⟩ := h
    refine ⟨_, PSs.nox (wSs_ok _), ?_⟩
    refine hbody cdv A outer s H E hr ds es hG Hs H Hs { nx := fun _ H' => Q .non H', rt := Q } ⟨fun γ σ Hs' H' t q => q.elim, fun _ _ _ _ _ q => q.elim, fun _ _ _ _ _ q => q.elim, fun d' v Hs' H' g r' q => q.elim, fun es' l us Hs' H' g h1 h2 h3 r' q => ?_, .inl fun _ _ _ q => q⟩ _ Hs H (st_start sm r)
    subst q
    exact kk l us Hs' H' g h1 h2 h3 r'
end

/-! ### what is walked -/
def Feeds (K : PySem.W.Frag) (J : It) (ds : List D) (Hs : Hp) : Prop := ∀ Hs' H', Same Hs Hs' → Same Hs' H' →
  (∀ (i : Nat) d, ds[i]? = some d → J.go i H' ∧ ∀ x H'', J.yld i H' x H'' → ∃ Hs'', Gr Hs' H' Hs'' H'' ∧ Rep K Hs'' x d) ∧ J.stop ds.length H'
structure PDI (X : Cx) (γ : List Sl) (iter : Expr) (ds : List D) : Prop where
  ex : ∃ wi : TI, (∀ tg, PI X tg iter wi) ∧ ∀ σ Hs H (R : It → Hp → Prop), Same Hs H → SE X.K Hs σ γ → (∀ J Hs' H', Gr Hs H Hs' H' → Feeds X.K J ds Hs' → R J H') → wi σ H R
section
variable {X : Cx} {γ : List Sl} {e a b : Expr} {es : List Expr} {d : D} {ds : List D} {pos pn : Pos}
theorem PDI.is {ds' : List D} (h : PDI X γ e ds) (q : ds = ds') : PDI X γ e ds' := by rw [← q]; exact h
theorem feeds_l {K : PySem.W.Frag} {Hs : Hp} {l : Addr} {vs : List V} (h1 : SqL K Hs l vs) (r : Reps K Hs vs ds) : Feeds K (Itl K l) ds Hs := fun Hs' H' s1 s2 => by
  have q := sqL_mono (s1.trans s2) h1
  refine ⟨fun i d hd => ?_, vs, q, Nat.le_of_eq r.length⟩
  obtain ⟨v, hv, rv⟩ := r.get hd
  refine ⟨⟨vs, v, q, hv⟩, fun x H'' y => ?_⟩
  obtain ⟨e, y⟩ := y
  subst e
  have e2 := y vs q
  rw [hv] at e2
  cases e2
  exact ⟨Hs', Gr.refl s2, rv.mono s1⟩
theorem feeds_t {K : PySem.W.Frag} {Hs : Hp} {l : Addr} {vs : List V} (h1 : SqT K Hs l vs) (r : Reps K Hs vs ds) : Feeds K (Itt K l) ds Hs := fun Hs' H' s1 s2 => by
  have q := sqT_mono (s1.trans s2) h1
  refine ⟨fun i d hd => ?_, vs, q, Nat.le_of_eq r.length⟩
  obtain ⟨v, hv, rv⟩ := r.get hd
  refine ⟨⟨vs, v, q, hv⟩, fun x H'' y => ?_⟩
  obtain ⟨e, y⟩ := y
  subst e
  have e2 := y vs q
  rw [hv] at e2
  cases e2
  exact ⟨Hs', Gr.refl s2, rv.mono s1⟩
theorem it_l (h : PD X γ e (.lst ds)) : PDI X γ e ds := ⟨iList X.K (wE X e), fun tg => pi_list (wE_ok e), fun σ Hs H R s E k => h σ Hs H _ s E fun v Hs' H' g r => by
  cases r with
  | lst h1 r1 => exact ⟨_, rfl, ⟨_, SqL.of (g.sub _ _ h1)⟩, k _ Hs' H' g (feeds_l (SqL.of h1) r1)⟩⟩
theorem it_r (h : PD X γ e (.rol ds)) : PDI X γ e ds := ⟨iList X.K (wE X e), fun tg => pi_list (wE_ok e), fun σ Hs H R s E k => h σ Hs H _ s E fun v Hs' H' g r => by
  cases r with
  | rol h1 r1 => exact ⟨_, rfl, ⟨_, sqL_mono g.sub h1⟩, k _ Hs' H' g (feeds_l h1 r1)⟩⟩
theorem it_t (h : PD X γ e (.tup ds)) : PDI X γ e ds := ⟨iTup X.K (wE X e), fun tg => pi_tup (wE_ok e), fun σ Hs H R s E k => h σ Hs H _ s E fun v Hs' H' g r => by
  cases r with
  | tup h1 r1 => exact ⟨_, rfl, ⟨_, sqT_mono g.sub h1⟩, k _ Hs' H' g (feeds_t h1 r1)⟩⟩
def rngD (lo : Int) (n : Nat) : List D := (List.range n).map fun (i : Nat) => D.int (lo + (i : Int))
theorem rngD_at {lo : Int} {n i : Nat} {d : D} (h : (rngD lo n)[i]? = some d) : i < n ∧ d = .int (lo + (i : Int)) := by
  unfold rngD at h
  rw [List.getElem?_map] at h
  by_cases q : i < n
  · rw [List.getElem?_eq_getElem (by simpa using q)] at h
    simp at h
    exact ⟨q, h.symm⟩
  · rw [List.getElem?_eq_none (by simpa using Nat.le_of_not_lt q)] at h
    cases h
theorem rngD_len {lo : Int} {n : Nat} : (rngD lo n).length = n := by unfold rngD; simp
theorem feeds_r {K : PySem.W.Frag} {Hs : Hp} {lo : Int} {n : Nat} : Feeds K (Itr lo n) (rngD lo n) Hs := fun Hs' H' s1 s2 => by
  refine ⟨fun i d hd => ?_, Nat.le_of_eq (by rw [rngD_len])⟩
  obtain ⟨hi, rfl⟩ := rngD_at hd
  refine ⟨hi, fun x H'' y => ?_⟩
  obtain ⟨e, e2⟩ := y
  subst e e2
  exact ⟨Hs', Gr.refl s2, .int _⟩
theorem it_range1 {j : Int} (h : PD X γ a (.int j)) (hm : X.mg "range" = none) (h0 : -(2 ^ 62) ≤ j) (h1 : j < 2 ^ 62) (hg : Gl X "range" := by rfl) (hs : starEach [a] X.env = [(false, eval a X.env)] := by rfl) : PDI X γ (.Call (.Name "range" pn) [a] [] pos) (rngD 0 j.toNat) :=
  ⟨iRng1 (wA X [a]), fun tg => pi_range1 hg hm (wA_ok _) hs, fun σ Hs H R s E k => pa_cons h pa_nil hs σ Hs H _ s E fun vs Hs' H' g r => by
    cases r with
    | cons r1 rn =>
      cases rn
      cases r1
      exact ⟨j, rfl, h0, h1, k _ Hs' H' g feeds_r⟩⟩
theorem it_range2 {i j : Int} (h : PD X γ a (.int i)) (h2 : PD X γ b (.int j)) (hm : X.mg "range" = none) (hb : -(2 ^ 62) ≤ i ∧ i < 2 ^ 62 ∧ -(2 ^ 62) ≤ j ∧ j < 2 ^ 62) (hg : Gl X "range" := by rfl)
    (hs : starEach [a, b] X.env = [(false, eval a X.env), (false, eval b X.env)] := by rfl) (hs2 : starEach [b] X.env = [(false, eval b X.env)] := by rfl) : PDI X γ (.Call (.Name "range" pn) [a, b] [] pos) (rngD i (j - i).toNat) :=
  ⟨iRng2 (wA X [a, b]), fun tg => pi_range2 hg hm (wA_ok _) hs hs2, fun σ Hs H R s E k => pa_cons h (pa_cons h2 pa_nil hs2) (by rw [hs, hs2]) σ Hs H _ s E fun vs Hs' H' g r => by
    cases r with
    | cons r1 rn =>
      cases rn with
      | cons r2 rn =>
        cases rn
        cases r1
        cases r2
        exact ⟨i, j, rfl, hb, k _ Hs' H' g feeds_r⟩⟩
end

/-! ### targets -/
def wG (X : Cx) (tg : Expr) : TG := fun v σ H Q => ∀ (pins : List (Addr × Obj)) (s : Shared) (u : Value), Inv X pins σ H s → RelV v u → wpAny (model X.prog X.w) X.A (assign tg X.env u) (fun _ s' => ∃ σ' H', Inv X pins σ' H' s' ∧ Q σ' H') X.xe s
theorem wG_ok {X : Cx} (tg : Expr) : PG X tg (wG X tg) := ⟨fun pins s σ H v u Q I r h => h pins s u I r⟩
theorem wG_of {X : Cx} {tg : Expr} {t : TG} (h : PG X tg t) {v : V} {σ : L2.St} {H : Hp} {Q : L2.St → Hp → Prop} (q : t v σ H Q) : wG X tg v σ H Q := fun pins s u I r => h.run pins s σ H v u Q I r q
/-- storing d turns γ to γ', in the slots js -/
def PDG (X : Cx) (γ : List Sl) (tg : Expr) (d : D) (γ' : List Sl) (js : List Nat) : Prop := ∀ (Hs0 H0 Hr Hs H : Hp) (σ : L2.St) (v : V) (Q : L2.St → Hp → Prop), ST X.K Hs0 H0 Hr Hs H σ γ → Rep X.K Hs v d →
  (∀ σ' Hs' H', ST X.K Hs0 H0 Hr Hs' H' σ' γ' → Gr Hs H Hs' H' → σ'.length = σ.length → (∀ i : Nat, i ∉ js → σ'[i]? = σ[i]?) → Q σ' H') → wG X tg v σ H Q
section
variable {X : Cx} {γ : List Sl} {R : Rs} {tg iter e : Expr} {body rest : List Stmt} {d : D} {ds : List D} {pos pn : Pos}
theorem pg_n {n : Str} (i : Nat) (hN : X.N.Nodup) (hi : X.N[i]? = some n := by rfl) (hx : Loc X.env.scope n := by first | exact Or.inl rfl | exact Or.inr rfl) (hf : X.fn n = true ∨ X.env.scope.names.lookup n = some .local := by first | exact .inl rfl | exact .inr rfl) :
    PDG X γ (.Name n pn) d (γ.set i (.sh d)) [i] := fun Hs0 H0 Hr Hs H σ v Q t r k =>
  wG_of (pg_name hN hi hx hf) (k _ Hs H (t.set r) (Gr.refl t.sub) (by simp) fun j hj => by
    rw [List.getElem?_set_ne (fun z => hj (by rw [z]; exact List.mem_singleton.mpr rfl))])
/-- for: the invariant by the turn -/
theorem s1_for {α : Type} {emb : α → D} (as : List α) (Iv : Nat → List Sl → Prop) (hi : PDI X γ iter (as.map emb)) (h0 : Iv 0 γ)
    (hs : ∀ (i : Nat) a γ1, as[i]? = some a → Iv i γ1 → ∃ γ2 js, PDG X γ1 tg (emb a) γ2 js ∧ SD X body γ2 { nx := Iv (i + 1), ct := Iv (i + 1), bk := R.nx, rt := R.rt, rn := R.rn, xs := R.xs })
    (hd : ∀ γ1, Iv as.length γ1 → R.nx γ1) (hc : X.calm = true := by rfl) (hp : PassesOwn (model X.prog X.w) X.A X.env X.xe := by exact PassesOwn.never) (hsi : ∀ x, foldedSetIterable iter X.env x = pure x := by intro _; rfl) : S1 X (.For tg iter body [] pos) γ R := fun Hs0 H0 Hr E F σ Hs H t => by
  obtain ⟨wi, hpi, hfe⟩ := hi.ex
  refine wS_of (ps_for hp hc (hpi tg) (wG_ok tg) (wSs_ok body) hsi) ?_
  refine hfe σ Hs H _ t.sub t.se fun J Hs1 H1 g1 fe => ?_
  refine ⟨fun i m σ' H' => m = as.length - i ∧ i ≤ as.length ∧ ∃ γ' Hs', ST X.K Hs0 H0 Hs1 Hs' H' σ' γ' ∧ Iv i γ', ⟨as.length, by simp, Nat.zero_le _, γ, Hs1, ?_, h0⟩, ?_⟩
  · have t1 := t.go g1
    exact ⟨t1.gr, Same.refl _, t1.len, t1.shd, t1.own, t1.dif⟩
  rintro i m σ' H' ⟨rfl, hle, γ', Hs', t', iv⟩
  obtain ⟨f1, f2⟩ := fe Hs' H' t'.rf t'.sub
  have back : ∀ {γ2 : List Sl} {σ2 : L2.St} {Hs2 H2 : Hp}, ST X.K Hs0 H0 Hs1 Hs2 H2 σ2 γ2 → ST X.K Hs0 H0 Hr Hs2 H2 σ2 γ2 := fun {γ2 σ2 Hs2 H2} t2 => ⟨t2.gr, (t.rf.trans g1.sh).trans t2.rf, t2.len, t2.shd, t2.own, t2.dif⟩
  by_cases hlt : i < as.length
  · have ha : as[i]? = some as[i] := by simp [hlt]
    have hd' : (as.map emb)[i]? = some (emb as[i]) := by rw [List.getElem?_map, ha] <;> rfl
    obtain ⟨go, yld⟩ := f1 i _ hd'
    refine .inr ⟨go, fun σ2 H2 => ∃ γ2 Hs2, ST X.K Hs0 H0 Hs1 Hs2 H2 σ2 γ2 ∧ Iv (i + 1) γ2, fun σ2 H2 ⟨γ2, Hs2, t2, iv2⟩ => ⟨as.length - (i + 1), by omega, rfl, hlt, γ2, Hs2, t2, iv2⟩, fun x H2 y => ?_⟩
    obtain ⟨Hs2, g2, r2⟩ := yld x H2 y
    obtain ⟨γ2, js, hg, hb⟩ := hs i _ γ' ha iv
    refine hg Hs0 H0 Hs1 Hs2 H2 σ' x _ (t'.go g2) r2 fun σ3 Hs3 H3 t3 _ _ _ => ?_
    exact hb Hs0 H0 Hs1 { E with nx := fun σ2 H2 => ∃ γ2 Hs2, ST X.K Hs0 H0 Hs1 Hs2 H2 σ2 γ2 ∧ Iv (i + 1) γ2, ct := fun σ2 H2 => ∃ γ2 Hs2, ST X.K Hs0 H0 Hs1 Hs2 H2 σ2 γ2 ∧ Iv (i + 1) γ2, bk := E.nx } ⟨fun γ4 σ4 Hs4 H4 t4 q => ⟨γ4, Hs4, t4, q⟩, fun γ4 σ4 Hs4 H4 t4 q => F.nx γ4 σ4 Hs4 H4 (back t4) q, fun γ4 σ4 Hs4 H4 t4 q => ⟨γ4, Hs4, t4, q⟩, F.rt, F.rn, F.xs.elim .inl fun ⟨W, a, b⟩ => .inr ⟨W, a, fun C fs dd vs γ4 σ4 Hs4 H4 t4 h1 h2 q => b C fs dd vs γ4 σ4 Hs4 H4 (back t4) h1 h2 q⟩⟩ σ3 Hs3 H3 t3
  · have e : i = as.length := by omega
    subst e
    refine .inl ⟨?_, F.nx γ' σ' Hs' H' (back t') (hd γ' iv)⟩
    rw [List.length_map] at f2
    exact f2
end

/-! ### comprehensions -/
def wTs (X : Cx) (ifs : List Expr) (t : TT) : Prop := PTs X ifs t
def PDTs (X : Cx) (γ : List Sl) (ifs : List Expr) (b : Bool) : Prop := match ifs with
  | [] => b = true
  | [c] => PDT X γ c b
  | _ => False
def tTs (X : Cx) : List Expr → TT
  | [] => tYes
  | [c] => wT X c
  | _ => fun _ _ _ => False
theorem tTs_ok {X : Cx} : ∀ {ifs : List Expr}, ifs.length ≤ 1 → PTs X ifs (tTs X ifs)
  | [], _ => pts_nil
  | [c], _ => pts_one (wT_ok c)
  | _ :: _ :: _, h => absurd h (by simp)
theorem ts_go {X : Cx} {γ : List Sl} {ifs : List Expr} {b : Bool} {σ : L2.St} {Hs H : Hp} {Q : Bool → Hp → Prop} (h : PDTs X γ ifs b) (s : Same Hs H) (E : SE X.K Hs σ γ) (k : ∀ Hs' H', Gr Hs H Hs' H' → Q b H') : tTs X ifs σ H Q := by
  match ifs, h with
  | [], h =>
    have e : b = true := h
    subst e
    exact k Hs H (Gr.refl s)
  | [c], h => exact (show PDT X γ c b from h) σ Hs H Q s E k
def wipeS (γ : List Sl) : List Nat → List Sl
  | [] => γ
  | v :: vs => (wipeS γ vs).set v .no
theorem wipeS_len (γ : List Sl) : ∀ vs, (wipeS γ vs).length = γ.length
  | [] => rfl
  | v :: vs => by unfold wipeS; rw [List.length_set, wipeS_len]
theorem wipeS_at {γ : List Sl} {i : Nat} {d : D} : ∀ {vs : List Nat}, (wipeS γ vs)[i]? = some (.sh d) → γ[i]? = some (.sh d) ∧ i ∉ vs
  | [], h => ⟨h, by simp⟩
  | v :: vs, h => by
    unfold wipeS at h
    by_cases hi : v = i
    · subst hi
      by_cases hv : v < (wipeS γ vs).length
      · rw [List.getElem?_set_self hv] at h; cases h
      · rw [List.getElem?_eq_none (by simpa using hv)] at h; cases h
    · rw [List.getElem?_set_ne hi] at h
      obtain ⟨h1, h2⟩ := wipeS_at h
      exact ⟨h1, by simp only [List.mem_cons, not_or]; exact ⟨fun e => hi e.symm, h2⟩⟩
theorem wipe_out {σ : L2.St} {i : Nat} : ∀ {vs : List Nat}, i ∉ vs → (wipe σ vs)[i]? = σ[i]?
  | [], _ => rfl
  | v :: vs, h => by
    unfold wipe
    simp only [List.mem_cons, not_or] at h
    rw [List.getElem?_set_ne (Ne.symm h.1), wipe_out h.2]
theorem wipe_in {σ : L2.St} {i : Nat} : ∀ {vs : List Nat}, i ∈ vs → i < σ.length → (wipe σ vs)[i]? = some none
  | v :: vs, h, hl => by
    unfold wipe
    by_cases e : v = i
    · subst e
      rw [List.getElem?_set_self (by rw [wipe_length]; exact hl)]
    · rw [List.getElem?_set_ne e]
      rcases List.mem_cons.mp h with z | z
      · exact absurd z.symm e
      · exact wipe_in z hl
theorem wipe_eq {σ σ' : L2.St} {vs : List Nat} (hl : σ'.length = σ.length) (h : ∀ i : Nat, i ∉ vs → σ'[i]? = σ[i]?) : wipe σ' vs = wipe σ vs := by
  apply List.ext_getElem?
  intro i
  by_cases q : i ∈ vs
  · by_cases hi : i < σ.length
    · rw [wipe_in q hi, wipe_in q (by rw [hl]; exact hi)]
    · rw [List.getElem?_eq_none (by rw [wipe_length, hl]; exact Nat.le_of_not_lt hi), List.getElem?_eq_none (by rw [wipe_length]; exact Nat.le_of_not_lt hi)]
  · rw [wipe_out q, wipe_out q, h i q]
/-- no list of one's own is seen -/
def Sl.hd : Sl → Sl
  | .ow _ => .no
  | .ob _ _ _ => .no
  | s => s
/-- what a comprehension's block sees -/
def blkS (γ : List Sl) (vs : List Nat) : List Sl := wipeS (γ.map Sl.hd) vs
theorem blkS_st {K : PySem.W.Frag} {Hs H : Hp} {σ : L2.St} {γ : List Sl} {vs : List Nat} (s : Same Hs H) (E : SE K Hs σ γ) : ST K Hs H Hs Hs H (wipe σ vs) (blkS γ vs) := by
  have no : ∀ (i : Nat) (u : Sl), (blkS γ vs)[i]? = some u → u.isO = false := fun i u => by
    have : ∀ vs : List Nat, (wipeS (γ.map Sl.hd) vs)[i]? = some u → u.isO = false := fun vs => by
      induction vs with
      | nil =>
        intro q
        unfold wipeS at q
        rw [List.getElem?_map] at q
        cases e : γ[i]? with
        | none => rw [e] at q; cases q
        | some z => rw [e] at q; cases z <;> cases q <;> rfl
      | cons v vs ih =>
        intro q
        unfold wipeS at q
        by_cases hi : v = i
        · subst hi
          have z := set_self_of q
          subst z
          rfl
        · rw [List.getElem?_set_ne hi] at q
          exact ih q
    exact this vs
  refine ⟨Gr.refl s, Same.refl _, ?_, fun i d q => ?_, fun i u q w => (by rw [no i u q] at w; cases w), fun i j u u' l _ q _ w => (by rw [no i u q] at w; cases w)⟩
  · rw [wipe_length]; unfold blkS; rw [wipeS_len]; simpa using E.len
  · obtain ⟨q1, q2⟩ := wipeS_at q
    rw [List.getElem?_map] at q1
    cases e : γ[i]? with
    | none => rw [e] at q1; cases q1
    | some z =>
      rw [e] at q1
      cases z with
      | no => cases q1
      | ow _ => cases q1
      | ob _ _ _ => cases q1
      | sh d' =>
        cases q1
        obtain ⟨v, h1, h2⟩ := E.sh i _ e
        exact ⟨v, by rw [wipe_out q2]; exact h1, h2⟩
section
variable {X : Cx} {γ : List Sl} {R : Rs} {tg iter elt : Expr} {ifs : List Expr} {d : D} {ds : List D} {pos pn : Pos} {scope : Scope} {own : List (Str × Nat)}
/-- the context of a comprehension's block -/
abbrev KX (X : Cx) (scope : Scope) (s : Shared) (H : Hp) (C : Addr) (cl : List (Str × Addr)) (fp : List Addr) : Cx := X.blk s H scope (compEnvC scope cl C X.env) fp
/-- what the block gives of a, at every context -/
def Turns {α : Type} (X : Cx) (γ : List Sl) (scope : Scope) (own : List (Str × Nat)) (tg elt : Expr) (ifs : List Expr) (emb : α → D) (as : List α) (f : α → Option D) : Prop := ∀ a, a ∈ as → ∃ γ2 js p, (∀ j ∈ js, j ∈ own.map (·.2)) ∧ (p = false → f a = none) ∧
  ∃ y, (p = true → f a = some y) ∧ ∀ (s : Shared) (H : Hp) (C : Addr) (cl : List (Str × Addr)) (fp : List Addr),
    PDG (KX X scope s H C cl fp) (blkS γ (own.map (·.2))) tg (emb a) γ2 js ∧ PDTs (KX X scope s H C cl fp) γ2 ifs p ∧ (p = true → PD (KX X scope s H C cl fp) γ2 elt y)
/-- the readings over all contexts: the pieces that pe_lc wants -/
def cG (X : Cx) (scope : Scope) (tg : Expr) : TG := fun v σ H Q => ∀ s H1 C cl fp, wG (KX X scope s H1 C cl fp) tg v σ H Q
def cT (X : Cx) (scope : Scope) (ifs : List Expr) : TT := fun σ H Q => ∀ s H1 C cl fp, tTs (KX X scope s H1 C cl fp) ifs σ H Q
def cE (X : Cx) (scope : Scope) (e : Expr) : TE := fun σ H Q => ∀ s H1 C cl fp, wE (KX X scope s H1 C cl fp) e σ H Q
theorem filterMap_take_succ {α β : Type} {as : List α} {f : α → Option β} {i : Nat} {a : α} (h : as[i]? = some a) : (as.take (i + 1)).filterMap f = (as.take i).filterMap f ++ (match f a with | some y => [y] | none => []) := by
  rw [List.take_add_one, h]
  simp only [Option.toList, List.filterMap_append]
  cases e : f a with
  | none => simp [e]
  | some y => simp [e]
/-- the reading of [elt for tg in iter if ..] -/
theorem lc_go {α : Type} {emb : α → D} {as : List α} {f : α → Option D} {wi : TI} {σ : L2.St} {Hs H : Hp} {Q : VK} (hfe : ∀ σ Hs H (R : It → Hp → Prop), Same Hs H → SE X.K Hs σ γ → (∀ J Hs' H', Gr Hs H Hs' H' → Feeds X.K J (as.map emb) Hs' → R J H') → wi σ H R)
    (ht : Turns X γ scope own tg elt ifs emb as f) (hz : as.length ≤ 50000) (s : Same Hs H) (E : SE X.K Hs σ γ)
    (k : ∀ l vs Hs' H', Gr Hs H Hs' H' → H l = none → Hs' l = none → H' l = some (.lst vs) → Reps X.K Hs' vs (as.filterMap f) → Q (.ref l) H') :
    tLc wi (cG X scope tg) (cT X scope ifs) (cE X scope elt) (own.map (·.2)) σ H Q := by
  refine hfe σ Hs H _ s E fun J Hs1 H1 g1 fe => fun Dl hD => ?_
  have gn : Gr Hs1 H1 Hs1 (upd H1 Dl (.lst [])) := ⟨Same.refl _, fun a u e => by rw [upd_ne (ne_of_none e hD)]; exact e, fun a u e => by rw [upd_ne (ne_of_none (g1.sub a u e) hD)]; exact g1.sub a u e, fun _ _ h => h⟩
  refine ⟨fun i m H' => m = as.length - i ∧ i ≤ as.length ∧ ∃ Hs' acc, Gr Hs1 H1 Hs' H' ∧ H' Dl = some (.lst acc) ∧ Hs' Dl = none ∧ Reps X.K Hs' acc ((as.take i).filterMap f), ⟨as.length, by simp, Nat.zero_le _, Hs1, [], gn, upd_same, g1.sub.free hD, .nil⟩, ?_⟩
  rintro i m H' ⟨rfl, hle, Hs', acc, g2, h1, h2, r⟩
  obtain ⟨f1, f2⟩ := fe Hs' H' g2.sh g2.sub
  by_cases hlt : i < as.length
  · have ha : as[i]? = some as[i] := by simp [hlt]
    have hd' : (as.map emb)[i]? = some (emb as[i]) := by rw [List.getElem?_map, ha] <;> rfl
    obtain ⟨go, yld⟩ := f1 i _ hd'
    obtain ⟨γ2, js, p, hjs, hp0, y, hp1, hall⟩ := ht as[i] (List.getElem_mem hlt)
    have hacc : acc.length ≤ i := by
      rw [r.length]
      exact Nat.le_trans (List.length_filterMap_le _ _) (by rw [List.length_take]; omega)
    refine .inr ⟨go, fun H2 => ∃ Hs2 acc2, Gr Hs1 H1 Hs2 H2 ∧ H2 Dl = some (.lst acc2) ∧ Hs2 Dl = none ∧ Reps X.K Hs2 acc2 ((as.take (i + 1)).filterMap f), fun H2 ⟨Hs2, acc2, q1, q2, q3, q4⟩ => ⟨as.length - (i + 1), by omega, rfl, hlt, Hs2, acc2, q1, q2, q3, q4⟩, fun x H2 yy => ?_⟩
    obtain ⟨Hs2, g3, r2⟩ := yld x H2 yy
    have g23 := g2.trans g3
    have E2 : SE X.K Hs2 σ γ := E.mono (g1.sh.trans g23.sh)
    intro s5 H5 C5 cl5 fp5
    refine (hall s5 H5 C5 cl5 fp5).1 Hs2 H2 Hs2 Hs2 H2 (wipe σ (own.map (·.2))) x _ (blkS_st g3.sub E2) r2 fun σ3 Hs3 H3 t3 g4 hlen hout => ?_
    refine ⟨?_, ?_⟩
    · have e := wipe_eq (vs := own.map (·.2)) hlen fun i hi => hout i fun z => hi (hjs i z)
      rw [e]
      apply List.ext_getElem?
      intro n
      by_cases q : n ∈ own.map (·.2)
      · by_cases hn : n < σ.length
        · rw [wipe_in q hn, wipe_in q (by rw [wipe_length]; exact hn)]
        · rw [List.getElem?_eq_none (by rw [wipe_length, wipe_length]; exact Nat.le_of_not_lt hn), List.getElem?_eq_none (by rw [wipe_length]; exact Nat.le_of_not_lt hn)]
      · rw [wipe_out q]
    have g24 := g23.trans g4
    intro s6 H6 C6 cl6 fp6
    refine ts_go (hall s6 H6 C6 cl6 fp6).2.1 g4.sub t3.se fun Hs4 H4 g5 => ?_
    have g25 := g24.trans g5
    have hDl : ∀ {Hs9 H9 : Hp}, Gr Hs' H' Hs9 H9 → Hs9 Dl = none ∧ H9 Dl = some (.lst acc) := fun {Hs9 H9} g => ⟨g.loc Dl (by rw [h1]; intro z; cases z) h2, g.ext _ _ h1⟩
    cases p with
    | false =>
      rw [if_neg Bool.false_ne_true]
      obtain ⟨d1, d2⟩ := hDl ((g3.trans g4).trans g5)
      refine ⟨Hs4, acc, g25, d2, d1, ?_⟩
      rw [filterMap_take_succ ha, hp0 rfl, List.append_nil]
      exact r.mono ((g3.trans g4).trans g5).sh
    | true =>
      rw [if_pos rfl]
      intro s7 H7 C7 cl7 fp7
      refine (hall s7 H7 C7 cl7 fp7).2.2 rfl σ3 Hs4 H4 _ g5.sub (t3.se.mono g5.sh) fun v Hs5 H5' g6 r5 => ?_
      obtain ⟨d1, d2⟩ := hDl (((g3.trans g4).trans g5).trans g6)
      have g26 := g25.trans g6
      refine ⟨acc, d2, sz_lt (by omega), Hs5, acc ++ [v], ⟨g26.sh, fun a u e => ?_, fun a u e => ?_, g26.loc⟩, upd_same, d1, ?_⟩
      · rw [upd_ne (ne_of_none e hD)]; exact g26.ext a u e
      · rw [upd_ne (ne_of_none e d1)]; exact g26.sub a u e
      · rw [filterMap_take_succ ha, hp1 rfl]
        exact (r.mono (((g3.trans g4).trans g5).trans g6).sh).append (.cons r5 .nil)
  · have e : i = as.length := by omega
    subst e
    refine .inl ⟨by rw [List.length_map] at f2; exact f2, k Dl acc Hs' H' (g1.trans g2) (g1.ext.free hD) h2 h1 ?_⟩
    rw [List.take_length] at r
    exact r
theorem pn_lc {α : Type} {emb : α → D} (as : List α) (f : α → Option D) (hi : PDI X γ iter (as.map emb)) (ht : Turns X γ scope own tg elt ifs emb as f) (hN : X.N.Nodup) (ok : BlkOk X.N X.env.scope scope own) (hz : as.length ≤ 50000) (hl : ifs.length ≤ 1 := by decide) (hc : X.calm = true := by rfl)
    (hs : ∀ x, foldedSetIterable iter X.env x = pure x := by intro _; rfl) : PN X γ (.ListComp elt [⟨tg, iter, ifs, 0⟩] scope pos) (as.filterMap f) := fun σ Hs H Q s E k => by
  obtain ⟨wi, hpi, hfe⟩ := hi.ex
  exact wE_of (pe_lc hc hN (hpi tg) ok (fun s5 H5 C5 cl5 fp5 => ⟨fun pins s σ H v u Q I r h => h s5 H5 C5 cl5 fp5 pins s u I r⟩) (fun s5 H5 C5 cl5 fp5 => ⟨fun pins s σ H Q I h => (tTs_ok hl).run pins s σ H Q I (h s5 H5 C5 cl5 fp5)⟩) (fun s5 H5 C5 cl5 fp5 => ⟨fun pins s σ H Q I h => h s5 H5 C5 cl5 fp5 pins s I⟩) hs)
    (lc_go hfe ht hz s E k)
/-- y = [elt for ..] on one line -/
theorem s1_asgLc {α : Type} {emb : α → D} {y : Str} {py spos : Pos} (i : Nat) (as : List α) (f : α → Option D) (hi : PDI X γ iter (as.map emb)) (ht : Turns X γ scope own tg elt ifs emb as f) (k : R.nx (γ.set i (.ow (as.filterMap f)))) (hN : X.N.Nodup) (ok : BlkOk X.N X.env.scope scope own) (hz : as.length ≤ 50000)
    (hsw : swapsWith (.ListComp elt [⟨tg, iter, ifs, 0⟩] scope pos) (some (.Name y py)) spos.line X.env = pure true) (hy : X.N[i]? = some y := by rfl) (hyl : X.env.scope.names.lookup y = some .local := by rfl) (hl : ifs.length ≤ 1 := by decide) (hc : X.calm = true := by rfl)
    (hs : ∀ x, foldedSetIterable iter X.env x = pure x := by intro _; rfl) : S1 X (.Assign [.Name y py] (.ListComp elt [⟨tg, iter, ifs, 0⟩] scope pos) spos) γ R := fun Hs0 H0 Hr E F σ Hs H t => by
  obtain ⟨wi, hpi, hfe⟩ := hi.ex
  refine wS_of (ps_setLc (wi := wi) (g := cG X scope tg) (tt := cT X scope ifs) (te := cE X scope elt) hc hN hy hyl hsw (hpi tg) ok (fun s5 H5 C5 cl5 fp5 => ⟨fun pins s σ H v u Q I r h => h s5 H5 C5 cl5 fp5 pins s u I r⟩) (fun s5 H5 C5 cl5 fp5 => ⟨fun pins s σ H Q I h => (tTs_ok hl).run pins s σ H Q I (h s5 H5 C5 cl5 fp5)⟩) (fun s5 H5 C5 cl5 fp5 => ⟨fun pins s σ H Q I h => h s5 H5 C5 cl5 fp5 pins s I⟩) hs) ?_
  exact lc_go hfe ht hz t.sub t.se fun l vs Hs' H' g h1 h2 h3 r => F.nx _ _ Hs' H' (t.setO g h1 h2 h3 (repO_l r)) k
end
end Pd
end

section
set_option autoImplicit false
set_option Elab.async false
set_option linter.all false
set_option maxRecDepth 100000
set_option maxHeartbeats 4000000
namespace Pd
open PySem PySem.Spec PyProof.Rows L2
section
variable {X : Cx} {γ : List Sl} {a b c e : Expr} {es : List Expr} {x y z d : D} {ds zs : List D} {pos pn : Pos} {i j : Int} {p q : Bool}
/-! ### is None, is True, is False -/
theorem is_bl {M : Model} {A : Around} {E : Value → Shared → Prop} {s : Shared} {x : V} {v : Value} {q : Bool} {Q : Value → Shared → Prop} (r : RelV x v) (h : Q (.bool (decide (x = .bl q))) s) : wpAny M A (compareOp .Is v (.bool q)) Q E s := by
  cases x with
  | non => cases (show v = Value.none from r); exact wpAny_is_plain rfl h
  | bl b =>
    cases (show v = Value.bool b from r)
    refine wpAny_is_plain rfl ?_
    have e : (Value.bool b == Value.bool q) = decide (V.bl b = V.bl q) := by cases b <;> cases q <;> rfl
    rw [e]; exact h
  | int i => obtain ⟨t, rfl⟩ := (show ∃ t, v = Value.int i t from r); exact wpAny_is_plain rfl h
  | str i => obtain ⟨t, rfl⟩ := (show ∃ t, v = Value.str i t from r); exact wpAny_is_plain rfl h
  | byt i => obtain ⟨t, rfl⟩ := (show ∃ t, v = Value.bytes i t from r); exact wpAny_is_plain rfl h
  | flt i => obtain ⟨t, rfl⟩ := (show ∃ t, v = Value.float i t from r); exact wpAny_is_plain rfl h
  | ref i => cases (show v = Value.ref i from r); exact wpAny_is_plain rfl h
  | ty i => cases (show v = Value.type i from r); exact wpAny_is_plain rfl h
def rIsBl (q : Bool) : R2 := fun x y H Q => y = .bl q ∧ Q (.bl (decide (x = .bl q))) H
theorem op_isBq (q : Bool) : OpR X (compareOp .Is) (rIsBl q) := by
  intro pins s σ H x y v u Q I r1 r2 ⟨e, h⟩
  subst e
  cases (show u = Value.bool q from r2)
  exact is_bl r1 ⟨.bl _, H, I, rfl, h⟩
def D.isBl (q : Bool) : D → Bool
  | .bl b => b == q
  | _ => false
def D.isNon : D → Bool
  | .non => true
  | _ => false
theorem Rep.bl_iff {K : PySem.W.Frag} {H : Hp} {v : V} {d : D} (r : Rep K H v d) : decide (v = .bl q) = d.isBl q := by
  cases r with
  | bl b => cases b <;> cases q <;> rfl
  | _ => rfl
theorem Rep.non_iff {K : PySem.W.Frag} {H : Hp} {v : V} {d : D} (r : Rep K H v d) : decide (v = .non) = d.isNon := by
  cases r <;> rfl
theorem pd_isBl {k : Nat} {p2 : Pos} (h : PD X γ e x) : PD X γ (.Compare e [.Is] [.Constant (.bool q) k p2] pos) (.bl (x.isBl q)) :=
  pd_cmp (op_isBq q) (fun Hs H v u Q s r1 r2 kk => by
    cases r2
    exact ⟨rfl, kk _ Hs H (Gr.refl s) (by rw [r1.bl_iff]; exact .bl _)⟩) h pd_bl
theorem pt_isBl {k : Nat} {p2 : Pos} (h : PD X γ e x) : PDT X γ (.Compare e [.Is] [.Constant (.bool q) k p2] pos) (x.isBl q) :=
  pt_cmp (op_isBq q) (fun Hs H v u Q s r1 r2 kk => by
    cases r2
    exact ⟨rfl, kk _ Hs H (Gr.refl s) (by rw [r1.bl_iff]; exact .bl _)⟩) h pd_bl
theorem pd_isN {k : Nat} {p2 : Pos} (h : PD X γ e x) : PD X γ (.Compare e [.Is] [.Constant .none k p2] pos) (.bl x.isNon) :=
  pd_cmp op_isN (fun Hs H v u Q s r1 r2 kk => by
    cases r2
    exact ⟨rfl, kk _ Hs H (Gr.refl s) (by rw [r1.non_iff]; exact .bl _)⟩) h pd_non
theorem pt_isN {k : Nat} {p2 : Pos} (h : PD X γ e x) : PDT X γ (.Compare e [.Is] [.Constant .none k p2] pos) x.isNon :=
  pt_cmp op_isN (fun Hs H v u Q s r1 r2 kk => by
    cases r2
    exact ⟨rfl, kk _ Hs H (Gr.refl s) (by rw [r1.non_iff]; exact .bl _)⟩) h pd_non
theorem pt_notN {k : Nat} {p2 : Pos} (h : PD X γ e x) : PDT X γ (.Compare e [.IsNot] [.Constant .none k p2] pos) (!x.isNon) :=
  pt_cmp op_notN (fun Hs H v u Q s r1 r2 kk => by
    cases r2
    exact ⟨rfl, kk _ Hs H (Gr.refl s) (by rw [r1.non_iff]; exact .bl _)⟩) h pd_non
/-! ### isinstance with a built-in type -/
def D.tyN : D → Option String
  | .non => some "NoneType" | .bl _ => some "bool" | .int _ => some "int" | .str _ => some "str" | .lst _ => some "list" | .tup _ => some "tuple" | .dK _ => some "dict" | .dT _ => some "dict"
  | _ => none
theorem Rep.tyX {K : PySem.W.Frag} {H Hs : Hp} {v : V} {d : D} {t : String} (s : Same Hs H) (r : Rep K Hs v d) (h : d.tyN = some t) : TyX K H v (.type t) := by
  cases r with
  | non => cases h; exact .base .non
  | bl b => cases h; exact .base (.bl b)
  | int i => cases h; exact .base (.int i)
  | str x => cases h; exact .base (.str x)
  | ty n => cases h
  | adr a => cases h
  | rol _ _ => cases h
  | obj _ _ => cases h
  | exc _ _ => cases h
  | ev0 _ => cases h
  | ev1 _ _ _ => cases h
  | lst h1 _ => cases h; exact .base (.lst (s _ _ h1))
  | tup h1 _ =>
    cases h
    rcases h1 with (h1 | ⟨o, h1⟩) | ⟨o, its, n, hk, hc, _⟩
    · exact .base (.tup (s _ _ h1))
    · exact .fTuple (s _ _ h1)
    · exact .kTuple hk hc
  | dK h1 _ => cases h; exact .base (.dK (s _ _ h1))
  | dT h1 _ => cases h; exact .base (.dT (s _ _ h1))
theorem pd_ty {T : String} {n : Str} (hm : X.mg n = none) (hv : bootBuiltins n = some (.type T)) (hg : Gl X n := by rfl) (hn : n ≠ "__name__" := by decide) (hd : (n == ("__debug__" : Str)) = false := by decide) : PD X γ (.Name n pos) (.ty T) :=
  fun σ Hs H Q s E k => wE_of (pe_bltn hg hm hv (v := .ty T) rfl hn hd) (k _ Hs H (Gr.refl s) (.ty T))
theorem rc_isi {K : PySem.W.Frag} {t T : String} (hx : x.tyN = some t) (hk : kitB t T = some p) : RCD K (rIsi K) [x, .ty T] (.bl p) := fun Hs H vs Q s rs k => by
  cases rs with
  | cons r1 rn =>
    cases rn with
    | cons r2 rn =>
      cases rn
      cases r2
      exact ⟨_, _, _, _, p, rfl, .ty T, r1.tyX s hx, kit_ty hk, k _ Hs H (Gr.refl s) (.bl p)⟩
theorem pd_isi {t T : String} {n : Str} {p2 : Pos} (h : PD X γ e x) (hx : x.tyN = some t) (hk : kitB t T = some p) (hm : X.mg "isinstance" = none) (hmT : X.mg n = none) (hv : bootBuiltins n = some (.type T)) (hg : Gl X "isinstance" := by rfl) (hgT : Gl X n := by rfl) (hn : n ≠ "__name__" := by decide) (hd : (n == ("__debug__" : Str)) = false := by decide)
    (he : starEach [e, .Name n p2] X.env = (false, eval e X.env) :: starEach [.Name n p2] X.env := by rfl) (he2 : starEach [.Name n p2] X.env = (false, eval (.Name n p2) X.env) :: starEach [] X.env := by rfl) (hpl : (backTo pos (starEach [.Name n p2] X.env)).any (·.1) = false := by rfl) :
    PD X γ (.Call (.Name "isinstance" pn) [e, .Name n p2] [] pos) (.bl p) :=
  pd_cb call_isi (rc_isi hx hk) hg hm (by decide +kernel) (pa_cons h (pa_cons (pd_ty hmT hv hgT hn hd) pa_nil he2) he) (by decide) (by decide) he hpl
/-! ### texts -/
theorem rd_eqS {K : PySem.W.Frag} {u v : Str} : RVD K rEq (.str u) (.str v) (.bl (decide (u = v))) := fun Hs H _ _ Q s r1 r2 k => by
  cases r1; cases r2
  refine ⟨rfl, k _ _ _ (Gr.refl s) ?_⟩
  have : decide (V.str u = V.str v) = decide (u = v) := by simp
  rw [this]
  exact .bl _
theorem pd_eqS {u v : Str} (ha : PD X γ a (.str u)) (hb : PD X γ b (.str v)) : PD X γ (.Compare a [.Eq] [b] pos) (.bl (decide (u = v))) := pd_cmp op_eq rd_eqS ha hb
theorem pt_eqS {u v : Str} (ha : PD X γ a (.str u)) (hb : PD X γ b (.str v)) : PDT X γ (.Compare a [.Eq] [b] pos) (decide (u = v)) := pt_cmp op_eq rd_eqS ha hb
theorem rd_neB {K : PySem.W.Frag} : RVD K rNe (.bl p) (.bl q) (.bl (!decide (p = q))) := fun Hs H _ _ Q s r1 r2 k => by
  cases r1; cases r2
  refine ⟨rfl, k _ _ _ (Gr.refl s) ?_⟩
  have : decide (V.bl p = V.bl q) = decide (p = q) := by simp
  rw [this]
  exact .bl _
theorem pt_neB (ha : PD X γ a (.bl p)) (hb : PD X γ b (.bl q)) : PDT X γ (.Compare a [.NotEq] [b] pos) (!decide (p = q)) := pt_cmp op_ne rd_neB ha hb
end
end Pd
end

section
set_option autoImplicit false
set_option Elab.async false
set_option linter.all false
set_option maxRecDepth 100000
set_option maxHeartbeats 4000000
namespace Pd
open PySem PySem.Spec PyProof.Rows L2

/-! ### objects -/
section
variable {X : Cx} {γ : List Sl} {R : Rs} {e o a b : Expr} {es : List Expr} {x y z d : D} {ds : List D} {pos pn apos : Pos} {C : Addr} {fs : List (Str × D)} {f m : Str} {k : Nat}
theorem pd_fld (h : PD X γ e (.obj C fs)) (hl : fs.lookup f = some d) (cl : Cls X.K C) (na : NoAttr X.K C f) (hb : attributeBase e f X.env (eval e X.env) = eval e X.env := by rfl) : PD X γ (.Attribute e f pos) d := fun σ Hs H Q s E kk =>
  wE_of (pe_fld (wE_ok e) hb) (h σ Hs H _ s E fun v Hs' H' g r => by
    cases r with
    | obj h1 r1 =>
      obtain ⟨u, hu, ru⟩ := r1.get hl
      exact ⟨_, _, _, _, u, rfl, g.sub _ _ h1, cl, na, hu, kk u Hs' H' g ru⟩)
/-- o.f = e, o one's own, e shared; e a scalar over what is one's own -/
theorem s1_fldO {n : Str} {p : Addr} {p' p2 : Pos} (i : Nat) (q : γ[i]? = some (.ob p C fs)) (h : PD X γ e d) (k : R.nx (γ.set i (.ob p C (putFD f d fs)))) (cl : Cls X.K C) (na : NoAttr X.K C f) (hz : fs.length < 1000) (hN : X.N[i]? = some n := by rfl)
    (hv : Vis X.env.scope n := by first | exact Or.inl rfl | exact Or.inr (Or.inl rfl) | exact Or.inr (Or.inr rfl)) (hd : (n == ("__debug__" : Str)) = false := by decide) (hcd : (n == ("__classdict__" : Str)) = false := by decide)
    (hs : swapsWith e (some (.Attribute (.Name n p') f p2)) pos.line X.env = pure false := by rfl) : S1 X (.Assign [.Attribute (.Name n p') f p2] e pos) γ R := fun Hs0 H0 Hr E F σ Hs H t => by
  obtain ⟨l, ob, a, bb, c, dd, rfl, dx, vs, rfl, r⟩ := t.own i _ q rfl
  refine wS_of (ps_fld (pe_var hN hv hd hcd) (wE_ok e) hs) (h σ Hs H _ t.sub t.se fun v Hs' H' g r' => ?_)
  refine ⟨_, a, _, C, dx, vs, rfl, g.ext _ _ bb, cl, na, by rw [r.length]; exact hz, ?_⟩
  exact F.nx _ _ Hs' _ ((t.go g).upd q rfl a (repO_o ((r.mono g.sh).put r'))) k
theorem s1_fldOV {n : Str} {p : Addr} {p' p2 : Pos} (i : Nat) (q : γ[i]? = some (.ob p C fs)) (h : PD X (γ.map Sl.vw) e d) (hsc : d.sc = true) (k : R.nx (γ.set i (.ob p C (putFD f d fs)))) (cl : Cls X.K C) (na : NoAttr X.K C f) (hz : fs.length < 1000) (hN : X.N[i]? = some n := by rfl)
    (hv : Vis X.env.scope n := by first | exact Or.inl rfl | exact Or.inr (Or.inl rfl) | exact Or.inr (Or.inr rfl)) (hd : (n == ("__debug__" : Str)) = false := by decide) (hcd : (n == ("__classdict__" : Str)) = false := by decide)
    (hs : swapsWith e (some (.Attribute (.Name n p') f p2)) pos.line X.env = pure false := by rfl) : S1 X (.Assign [.Attribute (.Name n p') f p2] e pos) γ R := fun Hs0 H0 Hr E F σ Hs H t => by
  obtain ⟨l, ob, a, bb, c, dd, rfl, dx, vs, rfl, r⟩ := t.own i _ q rfl
  refine wS_of (ps_fld (pe_var hN hv hd hcd) (wE_ok e) hs) (h σ H H _ (Same.refl _) t.view fun v Hs' H' g r' => ?_)
  refine ⟨_, a, _, C, dx, vs, rfl, g.ext _ _ bb, cl, na, by rw [r.length]; exact hz, ?_⟩
  exact F.nx _ _ Hs _ ((t.scal g).upd q rfl a (repO_o (r.put (r'.sc hsc)))) k
/-- a constant of the class, read off the class -/
theorem pd_cval {n : Str} {mc : Value} {v : V} {u : Value} {pc : Pos} (c : ClX.CRead X.K C mc) (cv : ClX.CVal X.K C mc f v u) (h : PD X γ (.Name n pc) (.adr C)) (hr : ∀ H, Rep X.K H v d) (hb : attributeBase (.Name n pc) f X.env (eval (.Name n pc) X.env) = eval (.Name n pc) X.env := by rfl) :
    PD X γ (.Attribute (.Name n pc) f pos) d := fun σ Hs H Q s E kk =>
  wE_of (ClX.pe_cval (wE_ok _) hb) (h σ Hs H _ s E fun w Hs' H' g r => by
    cases r
    exact ⟨_, _, _, _, rfl, c, cv, kk v Hs' H' g (hr _)⟩)
end

/-! ### objects made -/
/-- __init__ from data to fields: Hs, H1 stand ahead of the object's making -/
def spI (K : PySem.W.Frag) (C : Addr) (G : List D → List (Str × D) → Prop) : Sp := fun vs H Q _ => ∃ Hs H1 p dx ws ds fs, vs = .ref p :: ws ∧ H = upd (upd H1 dx (.own p)) p (.ins C dx []) ∧ H1 p = none ∧ H1 dx = none ∧ dx ≠ p ∧ Same Hs H1 ∧ Reps K Hs ws ds ∧ G ds fs ∧
  ∀ Hs' H' dx' us, Gr Hs H1 Hs' H' → Hs' p = none → H' p = some (.ins C dx' us) → RepF K Hs' us fs → Q .non H'
/-- a class of the module's, called by its name -/
structure DC (P : Program) (w : World) (K : PySem.W.Frag) (mg : Str → Option Value) (base : Heap) (k : Nat) (x : Str) (C : Addr) (G : List D → List (Str × D) → Prop) : Prop where
  ex : ∃ f fd ps, FnOk P w K mg base CX0 k f fd ps (spI K C G) ∧ mg x = some (.ref C) ∧ Mk K C f ∧ Binds K fd ps []
section
variable {X : Cx} {γ : List Sl} {R : Rs} {e : Expr} {es : List Expr} {d : D} {ds : List D} {pos pn : Pos} {k : Nat} {n : Str} {C : Addr} {fs : List (Str × D)}
theorem pd_make {G : List D → List (Str × D) → Prop} (F : DC X.prog X.w X.K X.mg X.base k n C G) (hr : Room (k + 1) X.A) (ha : PDA X γ (e :: es) ds) (hG : G ds fs) (hg : Gl X n := by rfl) (hdb : (n == ("__debug__" : Str)) = false := by decide)
    (he : starEach (e :: es) X.env = (false, eval e X.env) :: starEach es X.env := by rfl) (hpl : (backTo pos (starEach es X.env)).any (·.1) = false := by rfl) : PD X γ (.Call (.Name n pn) (e :: es) [] pos) (.obj C fs) := fun σ Hs H Q s E kk => by
  obtain ⟨f, fd, ps, a, b, c, dd⟩ := F.ex
  refine wE_of (pe_make c a hr hg b dd .nil pass0 (wA_ok _) hdb he hpl) (ha σ Hs H _ s E fun vs Hs' H' g r => ?_)
  intro p dx np ndx nex
  rw [List.append_nil]
  refine ⟨Hs', H', p, dx, vs, ds, fs, rfl, rfl, np, ndx, nex, g.sub, r, hG, fun Hs2 H2 dx' us g2 h1 h2 r2 => ⟨rfl, ?_⟩⟩
  have s1 : Same Hs2 (upd Hs2 p (.ins C dx' us)) := fun x u e => by rw [upd_ne (ne_of_none e h1)]; exact e
  refine kk _ (upd Hs2 p (.ins C dx' us)) H2 ⟨g.sh.trans (g2.sh.trans s1), g.ext.trans g2.ext, fun x u e => ?_, fun x q1 q2 => ?_⟩ (.obj upd_same (r2.mono s1))
  · by_cases q : x = p
    · subst q; rw [upd_same] at e; rw [← e]; exact h2
    · rw [upd_ne q] at e; exact g2.sub x u e
  · have q1' : H' x ≠ none := fun z => by
      cases hx : H x with
      | none => exact q1 hx
      | some o => rw [g.ext x o hx] at z; cases z
    have : x ≠ p := fun q => q1' (by rw [q]; exact np)
    rw [upd_ne this]
    exact g2.loc x q1' (g.loc x q1 q2)
end
/-- the start of an __init__'s body -/
theorem st_init {K : PySem.W.Frag} {Hs H1 : Hp} {N : List Str} {p dx C : Addr} {ws : List V} {ds : List D} (s : Same Hs H1) (np : H1 p = none) (ndx : H1 dx = none) (nex : dx ≠ p) (r : Reps K Hs ws ds) :
    ST K Hs H1 Hs Hs (upd (upd H1 dx (.own p)) p (.ins C dx [])) (L2.start N (.ref p :: ws)) (Sl.ob p C [] :: (ds.map Sl.sh ++ List.replicate (N.length - (ds.length + 1)) .no)) := by
  have e1 : Same H1 (upd (upd H1 dx (.own p)) p (.ins C dx [])) := fun x u e => by rw [upd_ne (ne_of_none e np), upd_ne (ne_of_none e ndx)]; exact e
  have base := st_start (N := N.tail) s r
  have hl := r.length
  have get : ∀ (i : Nat), (L2.start N (V.ref p :: ws))[i + 1]? = (ws.map some ++ List.replicate (N.length - (ws.length + 1)) none)[i]? := fun i => rfl
  refine ⟨⟨Same.refl _, e1, s.trans e1, fun _ _ h => h⟩, Same.refl _, ?_, fun i d q => ?_, fun i u q w => ?_, fun i j u u' l hij q q' w w' => ?_⟩
  · unfold L2.start; simp [hl]
  · cases i with
    | zero => cases q
    | succ i =>
      have q : (ds.map Sl.sh ++ List.replicate (N.length - (ds.length + 1)) .no)[i]? = some (Sl.sh d) := q
      rw [get]
      by_cases h : i < ds.length
      · rw [List.getElem?_append_left (by simpa using h), List.getElem?_map] at q
        cases e : ds[i]? with
        | none => rw [e] at q; cases q
        | some d' =>
          rw [e] at q
          cases q
          obtain ⟨v, hv, rv⟩ := r.get e
          refine ⟨v, ?_, rv⟩
          rw [List.getElem?_append_left (by rw [List.length_map, hl]; exact h), List.getElem?_map, hv] <;> rfl
      · rw [List.getElem?_append_right (by simpa using Nat.le_of_not_lt h), List.getElem?_replicate] at q
        split at q <;> cases q
  · cases i with
    | zero =>
      cases q
      exact ⟨p, _, rfl, upd_same, s.free np, np, rfl, dx, [], rfl, .nil⟩
    | succ i =>
      have q : (ds.map Sl.sh ++ List.replicate (N.length - (ds.length + 1)) .no)[i]? = some u := q
      by_cases h : i < ds.length
      · rw [List.getElem?_append_left (by simpa using h), List.getElem?_map] at q
        cases e : ds[i]? with
        | none => rw [e] at q; cases q
        | some d' => rw [e] at q; cases q; cases w
      · rw [List.getElem?_append_right (by simpa using Nat.le_of_not_lt h), List.getElem?_replicate] at q
        split at q <;> cases q
        cases w
  · have only : ∀ (i : Nat) (u : Sl), (Sl.ob p C [] :: (ds.map Sl.sh ++ List.replicate (N.length - (ds.length + 1)) Sl.no))[i]? = some u → u.isO = true → i = 0 := fun i u q w => by
      cases i with
      | zero => rfl
      | succ i =>
        have q : (ds.map Sl.sh ++ List.replicate (N.length - (ds.length + 1)) .no)[i]? = some u := q
        by_cases h : i < ds.length
        · rw [List.getElem?_append_left (by simpa using h), List.getElem?_map] at q
          cases e : ds[i]? with
          | none => rw [e] at q; cases q
          | some d' => rw [e] at q; cases q; cases w
        · rw [List.getElem?_append_right (by simpa using Nat.le_of_not_lt h), List.getElem?_replicate] at q
          split at q <;> cases q
          cases w
    exact absurd ((only i u q w).trans (only j u' q' w').symm) hij
/-- an __init__ that raises nothing -/
theorem fnI {P : Program} {w : World} {K : PySem.W.Frag} {mg : Str → Option Value} {base : Heap} {x qual : Str} {params : Arguments} {body : List Stmt} {scope : Scope} {f C : Addr} {fd : FuncData} {N ps : List Str} {k : Nat} {dvs : List V} {kws : List (Str × V)} {G : List D → List (Str × D) → Prop}
    (F : FunD K x qual params body scope dvs kws f fd) (S : FnScope N ps scope) (len : ∀ ds fs, G ds fs → ds.length + 1 = ps.length)
    (hbody : ∀ cdv A outer s H E, Room k (BX P w K mg base N qual scope f cdv A outer s H E).A → ∀ p ds fs, G ds fs → SD (BX P w K mg base N qual scope f cdv A outer s H E) body (Sl.ob p C [] :: (ds.map Sl.sh ++ List.replicate (N.length - (ds.length + 1)) .no)) { nx := fun γ => γ[0]? = some (.ob p C fs), rt := fun _ => False }) :
    FnOk P w K mg base CX0 (k + 1) f fd ps (spI K C G) := by
  refine F.ok S (fun vs H Q E h => ?_) (fun cdv A outer s H vs Q E hr h => ?_)
  · obtain ⟨Hs, H1, p, dx, ws, ds, fs, rfl, _, _, _, _, _, r, hG, _⟩ := h
    rw [List.length_cons, r.length]
    exact len ds fs hG
  · obtain ⟨Hs, H1, p, dx, ws, ds, fs, rfl, rfl, np, ndx, nex, sm, r, hG, kk⟩ := h
    refine ⟨_, PSs.nox (wSs_ok _), ?_⟩
    refine hbody cdv A outer s _ E hr p ds fs hG Hs H1 Hs { nx := fun _ H' => Q .non H', rt := Q } ⟨fun γ σ Hs' H' t q => ?_, fun _ _ _ _ _ q => q.elim, fun _ _ _ _ _ q => q.elim, fun d' v Hs' H' g r' q => q.elim, fun es l us Hs' H' g h1 h2 h3 r' q => q.elim, .inl fun _ _ _ q => q⟩ _ Hs _ (st_init sm np ndx nex r)
    obtain ⟨l, o, a, b, c, d0, rfl, dx', us, rfl, r'⟩ := t.own 0 _ q rfl
    exact kk Hs' H' dx' us t.gr c b r'
end Pd
end

section
set_option autoImplicit false
set_option Elab.async false
set_option linter.all false
set_option maxRecDepth 100000
set_option maxHeartbeats 4000000
namespace Pd
open PySem PySem.Spec PyProof.Rows L2

/-! ### errors of one field -/
/-- __init__(self, x): self.f = x -/
def spE1 (K : PySem.W.Frag) (C : Addr) (f : Str) : Sp := fun vs H Q _ => ∃ (a : Addr) (v : V), vs = [.ref a, v] ∧ H a = some (exo a C none) ∧ ∀ dx, H dx = none → dx ≠ a → Q .non (upd (upd H dx (exd dx [(f, v)])) a (exo a C (some dx)))
/-- an error class of the module's, its __init__ of one field -/
structure DE (P : Program) (w : World) (K : PySem.W.Frag) (mg : Str → Option Value) (base : Heap) (x : Str) (C : Addr) (f : Str) : Prop where
  T : OexC K C
  m : mg x = some (.ref C)
  ex : ∃ fI fd ps, PySem.W.findIn K (.ref C) "__init__" = some (some (.ref fI)) ∧ PySem.W.typeIn K (.ref fI) = some (.type "function") ∧ FnOk P w K mg base CX0 1 fI fd ps (spE1 K C f) ∧ Binds K fd ps []
theorem okE {P : Program} {w : World} {K : PySem.W.Frag} {mg : Str → Option Value} {base : Heap} {qual : Str} {params : Arguments} {scope : Scope} {f C : Addr} {fd : FuncData} {s x fl : Str} {p1 p2 p3 p4 : Pos}
    (F : FunD K "__init__" qual params [.Assign [.Attribute (.Name s p1) fl p2] (.Name x p3) p4] scope [] [] f fd) (S : FnScope [s, x] [s, x] scope) (T : OexC K C) (hno : PySem.W.findIn K (.ref C) fl = some none) (v0 : Vis scope s) (v1 : Vis scope x)
    (d0 : (s == ("__debug__" : Str)) = false) (d1 : (x == ("__debug__" : Str)) = false) (c0 : (s == ("__classdict__" : Str)) = false) (c1 : (x == ("__classdict__" : Str)) = false) : FnOk P w K mg base CX0 1 f fd [s, x] (spE1 K C fl) := by
  refine F.ok S (fun vs H Q E h => ?_) (fun cdv A outer st H vs Q E hr h => ?_)
  · obtain ⟨a, v, rfl, _⟩ := h
    rfl
  · obtain ⟨a, v, rfl, ha, k⟩ := h
    refine ⟨_, PSs.nox (pss_one (ps_ost (pe_var (i := 0) rfl v0 d0 c0) (pe_var (i := 1) rfl v1 d1 c1))), ?_⟩
    exact ⟨v, rfl, _, rfl, a, C, rfl, T, hno, .inl ⟨ha, k⟩⟩
section
variable {X : Cx} {γ : List Sl} {R : Rs} {e o a b : Expr} {es : List Expr} {x y z d : D} {ds : List D} {pos pn apos : Pos} {C : Addr} {fs : List (Str × D)} {f m n : Str} {k : Nat}
theorem s1_raise (T : DE X.prog X.w X.K X.mg X.base n C f) (hr : Room 2 X.A) (h : PD X γ e d) (kx : R.xs C [(f, d)] γ) (hc : X.calm = true := by rfl) (hg : Gl X n := by rfl) (hdb : (n == ("__debug__" : Str)) = false := by decide) (he : starEach [e] X.env = (false, eval e X.env) :: starEach [] X.env := by rfl)
    (hpl : (backTo pn (starEach [] X.env)).any (·.1) = false := by rfl) : S1 X (.Raise (some (.Call (.Name n apos) [e] [] pn)) none pos) γ R := fun Hs0 H0 Hr E F σ Hs H t => by
  obtain ⟨fI, fd, ps, i1, i2, ok, bd⟩ := T.ex
  rcases F.xs with no | ⟨W, tk, hW⟩
  · exact absurd kx (no _ _ _)
  refine wS_of (ps_raise hc tk (pmk_oex T.T i1 i2 ok hr bd .nil (fun _ _ _ _ _ _ _ z => z.elim) hg T.m (wA_ok [e]) hdb he hpl)) ?_
  refine pa_cons h pa_nil he σ Hs H _ t.sub t.se fun vs Hs' H' g r => ?_
  cases r with
  | @cons v _ _ _ r1 rn =>
    cases rn
    refine ⟨by simp, fun a na => ?_⟩
    refine ⟨a, v, rfl, upd_same, fun dx ndx nex => ⟨rfl, dx, [(f, v)], upd_same, ?_, ?_, ?_⟩⟩
    · rw [upd_ne nex, upd_same]
    · rw [upd_ne nex] at ndx; exact ndx
    · rw [upd_ne nex] at ndx
      have e1 : upd (del (upd (upd (upd H' a (exo a C none)) dx (exd dx [(f, v)])) a (exo a C (some dx))) a) dx (.xd [(f, v)]) = upd H' dx (.xd [(f, v)]) := by
        funext b
        by_cases hb : b = dx
        · rw [hb, upd_same, upd_same]
        · rw [upd_ne hb, upd_ne hb]
          by_cases ha : b = a
          · rw [ha, del_same, na]
          · rw [del_ne ha, upd_ne ha, upd_ne hb, upd_ne ha]
      show W (.ref C) (some dx) σ _
      rw [e1]
      have gn := Gr.new g.sub ndx (o := .xd [(f, v)])
      exact hW C [(f, d)] dx [(f, v)] γ σ _ _ (t.go (g.trans gn)) upd_same (.cons (r1.mono gn.sh) .nil) kx
end

/-! ### expressions that raise -/
def PDX (X : Cx) (γ : List Sl) (e : Expr) (C : Addr) (fs : List (Str × D)) : Prop := ∀ (W : WX), Takes X W → ∀ (σ : L2.St) (Hs H : Hp) (Q : VK), Same Hs H → SE X.K Hs σ γ →
  (∀ dd us Hs' H', Gr Hs H Hs' H' → Hs' dd = some (.xd us) → RepF X.K Hs' us fs → W (.ref C) (some dd) σ H') → wE X e σ H Q
def PAX (X : Cx) (γ : List Sl) (es : List Expr) (C : Addr) (fs : List (Str × D)) : Prop := ∀ (W : WX), Takes X W → ∀ (σ : L2.St) (Hs H : Hp) (Q : List V → Hp → Prop), Same Hs H → SE X.K Hs σ γ →
  (∀ dd us Hs' H', Gr Hs H Hs' H' → Hs' dd = some (.xd us) → RepF X.K Hs' us fs → W (.ref C) (some dd) σ H') → wA X es σ H Q
/-- a def that raises -/
def spX (K : PySem.W.Frag) (G : List D → Addr → List (Str × D) → Prop) : Sp := fun vs H _ E => ∃ Hs ds C fs, Same Hs H ∧ Reps K Hs vs ds ∧ G ds C fs ∧ ∀ dd us Hs' H', Gr Hs H Hs' H' → Hs' dd = some (.xd us) → RepF K Hs' us fs → E (.ref C) (some dd) H'
/-- an __init__ that raises -/
def spIX (K : PySem.W.Frag) (C : Addr) (G : List D → Addr → List (Str × D) → Prop) : Sp := fun vs H _ E => ∃ Hs H1 p dx ws ds CE fs, vs = .ref p :: ws ∧ H = upd (upd H1 dx (.own p)) p (.ins C dx []) ∧ H1 p = none ∧ H1 dx = none ∧ dx ≠ p ∧ Same Hs H1 ∧ Reps K Hs ws ds ∧ G ds CE fs ∧
  ∀ dd us Hs' H', Gr Hs H1 Hs' H' → Hs' dd = some (.xd us) → RepF K Hs' us fs → E (.ref CE) (some dd) H'
/-- the context of a def that may raise -/
abbrev RX (P : Program) (w : World) (K : PySem.W.Frag) (mg : Str → Option Value) (base : Heap) (N : List Str) (qual : Str) (scope : Scope) (f : Addr) (cdv : Value) (A : Around) (outer : List Env) (s : Shared) (H : Hp) (E : XK) : Cx := cxOf (L2.CX P w) P w K mg base N qual scope f cdv A outer s H E
structure DFX (P : Program) (w : World) (K : PySem.W.Frag) (mg : Str → Option Value) (base : Heap) (k : Nat) (x : Str) (sp : Sp) : Prop where
  ex : ∃ f fd ps, FnOk P w K mg base (L2.CX P w) k f fd ps sp ∧ mg x = some (.ref f) ∧ PySem.W.keepIn K (.ref f) = true ∧ Binds K fd ps []
structure DCX (P : Program) (w : World) (K : PySem.W.Frag) (mg : Str → Option Value) (base : Heap) (k : Nat) (x : Str) (C : Addr) (G : List D → Addr → List (Str × D) → Prop) : Prop where
  ex : ∃ f fd ps, FnOk P w K mg base (L2.CX P w) k f fd ps (spIX K C G) ∧ mg x = some (.ref C) ∧ Mk K C f ∧ Binds K fd ps []
section
variable {P : Program} {w : World} {K : PySem.W.Frag} {mg : Str → Option Value} {base : Heap} {x qual : Str} {params : Arguments} {body : List Stmt} {scope : Scope} {f C : Addr} {fd : FuncData} {N ps : List Str} {k : Nat} {dvs : List V} {kws : List (Str × V)}
theorem fnX {G : List D → Addr → List (Str × D) → Prop} (F : FunD K x qual params body scope dvs kws f fd) (S : FnScope N ps scope) (len : ∀ ds C fs, G ds C fs → ds.length = ps.length)
    (hbody : ∀ cdv A outer s H E, Room k (RX P w K mg base N qual scope f cdv A outer s H E).A → ∀ ds C fs, G ds C fs → SD (RX P w K mg base N qual scope f cdv A outer s H E) body (st0 N ds) { nx := fun _ => False, rt := fun _ => False, xs := fun C' fs' _ => C' = C ∧ fs' = fs }) :
    FnOk P w K mg base (L2.CX P w) (k + 1) f fd ps (spX K G) := by
  refine F.ok S (fun vs H Q E h => ?_) (fun cdv A outer s H vs Q E hr h => ?_)
  · obtain ⟨Hs, ds, C, fs, _, r, hG, _⟩ := h
    rw [r.length, len ds C fs hG]
  · obtain ⟨Hs, ds, C, fs, sm, r, hG, kk⟩ := h
    refine ⟨_, wSs_ok _, ?_⟩
    refine hbody cdv A outer s H E hr ds C fs hG Hs H Hs { nx := fun _ H' => Q .non H', rt := Q } ⟨fun γ σ Hs' H' t q => q.elim, fun _ _ _ _ _ q => q.elim, fun _ _ _ _ _ q => q.elim, fun d' v Hs' H' g r' q => q.elim, fun es l us Hs' H' g h1 h2 h3 r' q => q.elim,
      .inr ⟨fun cls d _ H' => E cls d H', takes_of rfl rfl rfl rfl, fun C' fs' dd us γ σ Hs' H' t h1 h2 q => ?_⟩⟩ _ Hs H (st_start sm r)
    obtain ⟨rfl, rfl⟩ := q
    exact kk dd us Hs' H' t.gr h1 h2
theorem fnIX {G : List D → Addr → List (Str × D) → Prop} (F : FunD K x qual params body scope dvs kws f fd) (S : FnScope N ps scope) (len : ∀ ds C fs, G ds C fs → ds.length + 1 = ps.length)
    (hbody : ∀ cdv A outer s H E, Room k (RX P w K mg base N qual scope f cdv A outer s H E).A → ∀ p ds CE fs, G ds CE fs → SD (RX P w K mg base N qual scope f cdv A outer s H E) body (Sl.ob p C [] :: (ds.map Sl.sh ++ List.replicate (N.length - (ds.length + 1)) .no)) { nx := fun _ => False, rt := fun _ => False, xs := fun C' fs' _ => C' = CE ∧ fs' = fs }) :
    FnOk P w K mg base (L2.CX P w) (k + 1) f fd ps (spIX K C G) := by
  refine F.ok S (fun vs H Q E h => ?_) (fun cdv A outer s H vs Q E hr h => ?_)
  · obtain ⟨Hs, H1, p, dx, ws, ds, CE, fs, rfl, _, _, _, _, _, r, hG, _⟩ := h
    rw [List.length_cons, r.length]
    exact len ds CE fs hG
  · obtain ⟨Hs, H1, p, dx, ws, ds, CE, fs, rfl, rfl, np, ndx, nex, sm, r, hG, kk⟩ := h
    refine ⟨_, wSs_ok _, ?_⟩
    refine hbody cdv A outer s _ E hr p ds CE fs hG Hs H1 Hs { nx := fun _ H' => Q .non H', rt := Q } ⟨fun γ σ Hs' H' t q => q.elim, fun _ _ _ _ _ q => q.elim, fun _ _ _ _ _ q => q.elim, fun d' v Hs' H' g r' q => q.elim, fun es l us Hs' H' g h1 h2 h3 r' q => q.elim,
      .inr ⟨fun cls d _ H' => E cls d H', takes_of rfl rfl rfl rfl, fun C' fs' dd us γ σ Hs' H' t h1 h2 q => ?_⟩⟩ _ Hs _ (st_init sm np ndx nex r)
    obtain ⟨rfl, rfl⟩ := q
    exact kk dd us Hs' H' t.gr h1 h2
end
section
variable {X : Cx} {γ : List Sl} {R : Rs} {e o a b c : Expr} {es : List Expr} {sts : List Stmt} {x y z d : D} {ds : List D} {pos pn apos : Pos} {C CO : Addr} {fs : List (Str × D)} {f m n : Str} {k : Nat}
theorem pass_of {W : WX} (tk : Takes X W) (C : Addr) (fs : List (Str × D)) (σ : L2.St) (H0 : Hp) : PassesAt (L2.CX X.prog X.w) X σ (WE W σ) := passAt tk σ
theorem px_f {G : List D → Addr → List (Str × D) → Prop} (F : DFX X.prog X.w X.K X.mg X.base k n (spX X.K G)) (hr : Room k X.A) (ha : PDA X γ (e :: es) ds) (hG : G ds C fs) (hg : Gl X n := by rfl) (hdb : (n == ("__debug__" : Str)) = false := by decide)
    (he : starEach (e :: es) X.env = (false, eval e X.env) :: starEach es X.env := by rfl) (hpl : (backTo pos (starEach es X.env)).any (·.1) = false := by rfl) : PDX X γ (.Call (.Name n pn) (e :: es) [] pos) C fs := fun W tk σ Hs H Q s E kk => by
  obtain ⟨f, fd, ps, a, b, c, dd⟩ := F.ex
  refine wE_of (pe_callS a hr hg b c dd (fun σ => passAt tk σ) (wA_ok _) hdb he hpl) (ha σ Hs H _ s E fun vs Hs' H' g r => ?_)
  exact ⟨Hs', ds, C, fs, g.sub, r, hG, fun dd us Hs2 H2 g2 h1 h2 => kk dd us Hs2 H2 (g.trans g2) h1 h2⟩
theorem px_arg0 (h : PDX X γ e C fs) (hs : starEach (e :: es) X.env = (false, eval e X.env) :: starEach es X.env := by rfl) : PAX X γ (e :: es) C fs := fun W tk σ Hs H Q s E kk =>
  wA_of (L2.pa_cons (wE_ok e) (wA_ok es) hs) (h W tk σ Hs H _ s E kk)
theorem px_arg1 (h : PD X γ e d) (h2 : PAX X γ es C fs) (hs : starEach (e :: es) X.env = (false, eval e X.env) :: starEach es X.env := by rfl) : PAX X γ (e :: es) C fs := fun W tk σ Hs H Q s E kk =>
  wA_of (L2.pa_cons (wE_ok e) (wA_ok es) hs) (h σ Hs H _ s E fun v Hs' H' g r => h2 W tk σ Hs' H' _ g.sub (E.mono g.sh) fun dd us Hs2 H2 g2 q1 q2 => kk dd us Hs2 H2 (g.trans g2) q1 q2)
theorem px_tup {j : Nat} (h : PAX X γ es C fs) : PDX X γ (.Tuple es j pos) C fs := fun W tk σ Hs H Q s E kk => wE_of (pe_tup (wA_ok es)) (h W tk σ Hs H _ s E kk)
theorem px_att (h : PDX X γ e C fs) (hb : attributeBase e f X.env (eval e X.env) = eval e X.env := by rfl) : PDX X γ (.Attribute e f pos) C fs := fun W tk σ Hs H Q s E kk => wE_of (pe_fld (wE_ok e) hb) (h W tk σ Hs H _ s E kk)
theorem s1_retX (h : PDX X γ e C fs) (k : R.xs C fs γ) : S1 X (.Return (some e) pos) γ R := fun Hs0 H0 Hr E F σ Hs H t => by
  rcases F.xs with no | ⟨W, tk, hW⟩
  · exact absurd k (no _ _ _)
  exact wS_of (ps_ret (wE_ok e)) (h W tk σ Hs H _ t.sub t.se fun dd us Hs' H' g h1 h2 => hW C fs dd us γ σ Hs' H' (t.go g) h1 h2 k)
theorem s1_dropX (h : PDX X γ e C fs) (k : R.xs C fs γ) (hs : swapsWith e none pos.line X.env = pure false := by rfl) : S1 X (.Expr e pos) γ R := fun Hs0 H0 Hr E F σ Hs H t => by
  rcases F.xs with no | ⟨W, tk, hW⟩
  · exact absurd k (no _ _ _)
  exact wS_of (ps_expr (wE_ok e) hs) (h W tk σ Hs H _ t.sub t.se fun dd us Hs' H' g h1 h2 => hW C fs dd us γ σ Hs' H' (t.go g) h1 h2 k)
theorem s1_asgX {p' : Pos} (i : Nat) (h : PDX X γ e C fs) (k : R.xs C fs γ) (hN : X.N.Nodup) (hi : X.N[i]? = some n := by rfl) (hx : Loc X.env.scope n := by first | exact Or.inl rfl | exact Or.inr rfl) (hs : swapsWith e (some (.Name n p')) pos.line X.env = pure false := by rfl)
    (hf : X.fn n = true ∨ X.env.scope.names.lookup n = some .local := by first | exact .inl rfl | exact .inr rfl) : S1 X (.Assign [.Name n p'] e pos) γ R := fun Hs0 H0 Hr E F σ Hs H t => by
  rcases F.xs with no | ⟨W, tk, hW⟩
  · exact absurd k (no _ _ _)
  exact wS_of (ps_set hN hi hx (wE_ok e) hs hf) (h W tk σ Hs H _ t.sub t.se fun dd us Hs' H' g h1 h2 => hW C fs dd us γ σ Hs' H' (t.go g) h1 h2 k)
/-- making, what is raised told at the slots -/
theorem make_at {pins : List (Addr × Obj)} {σ : L2.St} {H : Hp} {s : Shared} {Q : VK} {us : List Value} {vs : List V} {fI : Addr} {fd : FuncData} {ps : List Str} {sp : Sp} {W : WX} (tk : Takes X W) (M : Mk X.K CO fI)
    (F : FnOk X.prog X.w X.K X.mg X.base (L2.CX X.prog X.w) k fI fd ps sp) (hr : Room (k + 1) X.A) (hb : Binds X.K fd ps []) (I : Inv X pins σ H s) (r : Vals vs us)
    (h : ∀ p dx, H p = none → H dx = none → dx ≠ p → sp (.ref p :: vs) (upd (upd H dx (.own p)) p (.ins CO dx [])) (fun v H2 => v = .non ∧ Q (.ref p) H2) (fun cls d H' => W cls d σ H')) :
    wpAny (model X.prog X.w) X.A (call (.ref CO) us) (EP X pins σ Q) X.xe s := by
  let z := s.heap.objs.size
  have I2 := Inv.made (C := CO) I
  have hq := h (z + 1) z (I.hok.fresh (Nat.le_succ z)) (I.hok.fresh (Nat.le_refl z)) (Nat.ne_of_lt (Nat.lt_succ_self z))
  have rr : Vals (V.ref (z + 1) :: vs) (Value.ref (z + 1) :: us) := .cons rfl r
  have hl : (Value.ref (z + 1) :: us).length = ps.length := by
    have q := rr.length
    rw [F.len _ _ _ _ hq] at q
    exact q.symm
  have bd := hb _ (Value.ref (z + 1) :: us) I2.kIn (by rw [List.append_nil]; exact hl)
  rw [List.append_nil] at bd
  have run := F.run _ X.stack _ _ ⟨Value.ref (z + 1) :: us, []⟩ (Value.ref (z + 1) :: us) _ _ (fun cls d H' => W cls d σ H') (hr.make CO us []) (I2.env0.make CO us []) bd rr hq
  refine wpAny_call (make_map (f := fI) I.kIn M.makes M.init (beq_iff_eq.mp M.fn) (codeAny_mono run fun res s' hq' => ?_))
  match res, hq' with
  | .error er, hq' => exact passAt tk σ pins _ _ er s' I2 hq'
  | .ok (.ret u), hq' =>
    obtain ⟨v, H', I3, rv, ev, q3⟩ := I2.after hq'
    subst ev
    exact ⟨rv, V.ref (z + 1), H', I3, rfl, q3⟩
  | .ok .next, hq' => exact hq'.elim
  | .ok .brk, hq' => exact hq'.elim
  | .ok .cont, hq' => exact hq'.elim
/-- C(e, ..) that raises -/
theorem px_make {G : List D → Addr → List (Str × D) → Prop} (F : DCX X.prog X.w X.K X.mg X.base k n CO G) (hr : Room (k + 1) X.A) (ha : PDA X γ (e :: es) ds) (hG : G ds C fs) (hg : Gl X n := by rfl) (hdb : (n == ("__debug__" : Str)) = false := by decide)
    (he : starEach (e :: es) X.env = (false, eval e X.env) :: starEach es X.env := by rfl) (hpl : (backTo pos (starEach es X.env)).any (·.1) = false := by rfl) : PDX X γ (.Call (.Name n pn) (e :: es) [] pos) C fs := fun W tk σ Hs H Q s E kk => by
  obtain ⟨f, fd, ps, a, b, c, dd⟩ := F.ex
  intro pins st I
  refine wpAny_Call_Name_kw (ld_glob I hg b ?_ hdb)
  refine PySem.W.callWith_K (h₀ := X.base) I.ok.mod.kin c.kp (thn ((wA_ok (e :: es)).run pos pins st σ H _ I (ha σ Hs H (fun vs H1 => ∃ Hs1, Gr Hs H Hs1 H1 ∧ Reps X.K Hs1 vs ds) s E fun vs Hs1 H1 g r => ⟨Hs1, g, r⟩)) fun us s1 ⟨vs, H1, I1, r, Hs1, g, r'⟩ => ⟨I1.kIn, ?_⟩) he hpl
  exact make_at tk c a hr dd I1 r fun p dx np ndx nex => ⟨Hs1, H1, p, dx, vs, ds, C, fs, rfl, rfl, np, ndx, nex, g.sub, r', hG, fun dd us Hs2 H2 g2 h1 h2 => kk dd us Hs2 H2 (g.trans g2) h1 h2⟩
end

/-! ### try: .. except X as n: .. -/
theorem ST.clear {K : PySem.W.Frag} {Hs0 H0 Hr Hs H : Hp} {σ : L2.St} {γ : List Sl} {i : Nat} (t : ST K Hs0 H0 Hr Hs H σ γ) : ST K Hs0 H0 Hr Hs H (σ.set i none) (γ.set i .no) := by
  have q := t.forget (i := i)
  refine ⟨q.gr, q.rf, by simpa using t.len, fun j d h => ?_, fun j u h w => ?_, fun j k u v l hjk h1 h2 w1 w2 => ?_⟩
  · have ne : i ≠ j := fun z => by
      subst z
      cases set_self_of h
    rw [List.getElem?_set_ne ne]
    exact q.shd j d h
  · have ne : i ≠ j := fun z => by
      subst z
      have y := set_self_of h
      subst y
      cases w
    rw [List.getElem?_set_ne ne]
    exact q.own j u h w
  · have ne : i ≠ j := fun z => by
      subst z
      have y := set_self_of h1
      subst y
      cases w1
    have ne2 : i ≠ k := fun z => by
      subst z
      have y := set_self_of h2
      subst y
      cases w2
    rw [List.getElem?_set_ne ne, List.getElem?_set_ne ne2]
    exact q.dif j k u v l hjk h1 h2 w1 w2
section
variable {X : Cx} {γ : List Sl} {R : Rs} {body suite : List Stmt} {b0 : Stmt} {pos pos' np : Pos} {x n : Str} {c : Value}
def tbW (X : Cx) (body : List Stmt) (W : WX) : TS := fun D σ H => ∀ (pn : List (Addr × Obj)) (xe : Value → Shared → Prop), Takes (X.tr pn xe) W → PassesOwn (model X.prog X.w) X.A X.env xe → wSs (X.tr pn xe) body D σ H
def tsW (X : Cx) (suite : List Stmt) (a : Addr) (cls : Value) (d : Option Addr) : TS := fun D σ H => ∀ (oe : Obj) (pn : List (Addr × Obj)), Zc cls d oe → (∃ vs, oe.data = .fields vs) → wSs (X.suite a ((a, oe) :: pn)) suite D σ H
/-- Xs: what the body may raise, and the slots then -/
theorem s1_try (i : Nat) (Xs : Addr → List (Str × D) → List Sl → Prop)
    (hb : ∀ (pn : List (Addr × Obj)) (xe : Value → Shared → Prop), PassesOwn (model X.prog X.w) X.A X.env xe → SD (X.tr pn xe) body γ { R with xs := Xs })
    (hsu : ∀ C fs γ', Xs C fs γ' → PySem.W.exmOne X.K (.ref C) c = some true ∧ ∀ (a dd : Addr) (oe : Obj) (pn : List (Addr × Obj)), Zc (.ref C) (some dd) oe → (∃ vs, oe.data = .fields vs) → SD (X.suite a ((a, oe) :: pn)) (b0 :: suite) (γ'.set i (.sh (.exc a dd fs))) { nx := fun g => R.nx (g.set i .no), rt := R.rt, rn := R.rn })
    (hN : X.N.Nodup) (hc : Names X x c) (hi : X.N[i]? = some n := by rfl) (hln : X.env.kindOf n = some .local := by rfl) (hs : X.stack = X.env :: X.outer := by rfl) (hf : X.env.frame = some X.env.locals := by rfl) :
    S1 X (.Try body [.ExceptHandler (some (.Name x np)) (some n) (b0 :: suite) pos'] [] [] pos) γ R := fun Hs0 H0 Hr E F σ Hs H t => by
  refine wS_of (ps_try_as (tb := tbW X body) (ts := tsW X (b0 :: suite)) (Wout := fun _ _ _ _ => False) hs hf hN hi hln hc (fun _ _ z => by
      obtain ⟨_, _, _, _, _, _, _, _, _, _, _, _, _, _, _, _, y⟩ := z
      exact y.elim)
    (fun W pn xe tk po => ⟨fun pins s σ H D I h => h pn xe tk po pins s I⟩) (fun a oe cls d pn hz hd => ⟨fun pins s σ H D I h => h oe pn hz hd pins s I⟩)) ?_
  intro pn xe tk po
  refine hb pn xe po Hs0 H0 Hr E ⟨F.nx, F.bk, F.ct, F.rt, F.rn, .inr ⟨_, tk, fun C fs dd us γ' σ' Hs' H' t' h1 h2 q => ?_⟩⟩ σ Hs H t
  obtain ⟨h3, h4⟩ := hsu C fs γ' q
  refine ⟨true, h3, fun _ a na => ?_, fun z => by cases z⟩
  intro oe pn' hz hd
  exact h4 a dd oe pn' hz hd Hs0 H0 Hr { nx := fun σ' H' => E.nx (σ'.set i none) H', rt := E.rt, bk := fun σ' H' => E.bk (σ'.set i none) H', ct := fun σ' H' => E.ct (σ'.set i none) H' }
    ⟨fun g σ2 Hs2 H2 t2 q2 => F.nx _ _ Hs2 H2 t2.clear q2, fun _ _ _ _ _ z => z.elim, fun _ _ _ _ _ z => z.elim, F.rt, F.rn, .inl fun _ _ _ z => z⟩ _ Hs' H' (t'.set (.exc h1 h2))
end
/-! ### in an except suite: n.f, isinstance(n, T) -/
section
variable {X : Cx} {γ : List Sl} {e : Expr} {d : D} {pos pn' : Pos} {a dd C : Addr} {oe : Obj} {pn : List (Addr × Obj)} {fs : List (Str × D)} {f : Str}
theorem pd_xf (T : XfC X.K C) (hno : PySem.W.findIn X.K (.ref C) f = some none) (hz : Zc (.ref C) (some dd) oe) (hf : ∃ vs, oe.data = .fields vs) (h : PD (X.suite a ((a, oe) :: pn)) γ e (.exc a dd fs)) (hl : fs.lookup f = some d)
    (hb : attributeBase e f (X.suite a ((a, oe) :: pn)).env (eval e (X.suite a ((a, oe) :: pn)).env) = eval e (X.suite a ((a, oe) :: pn)).env := by rfl) : PD (X.suite a ((a, oe) :: pn)) γ (.Attribute e f pos) d := fun σ Hs H Q s E kk =>
  wE_of (pe_xf T hno hz hf (wE_ok e) hb) (h σ Hs H _ s E fun v Hs' H' g r => by
    cases r with
    | exc h1 r1 =>
      obtain ⟨u, hu, ru⟩ := r1.get hl
      exact ⟨rfl, rfl, dd, _, u, rfl, g.sub _ _ h1, hu, kk u Hs' H' g ru⟩)
end
end Pd
end

section
set_option autoImplicit false
set_option Elab.async false
set_option linter.all false
set_option maxRecDepth 100000
set_option maxHeartbeats 4000000
namespace Pd
open PySem PySem.Spec PyProof.Rows L2
/-! ### errors as values: their class -/
section
open PySem.W PySem.Calls
variable {prog : Program} {w : World} {A : Around} {E : Value → Shared → Prop} {s : Shared} {K : Frag} {x D : Addr} {ox : Obj} {od : Option Obj}
theorem cls_ev {Q : Option Value → Shared → Prop} (T : ExcC K D) (X : K.In s.heap) (I : InstAt s.heap x ox D od) (h : Q (some (.ref D)) { s with toks := s.toks + 1 }) :
    wpAny (model prog w) A (getAttr? (.ref x) "__class__") Q E s := by
  obtain ⟨cdD, hcD, _⟩ := any_some T.hd
  have hf : findObj K D od "__class__" = some (.bind (.builtin "getset_descriptor.__get__") (.builtin "object.__class__")) := by
    cases od with
    | none => exact findObj_dataN (by rw [hcD]; rfl) T.ha T.hn T.ht
    | some o => exact findObj_data (by rw [hcD]; rfl) T.ha T.hn T.ht
  obtain ⟨hp, g, d, t, os⟩ := s
  have l0 := I.type (M := model prog w); have l1 := looks_findIn (M := model prog w) X T.hg; have l2 := looks_findIn (M := model prog w) X T.hk
  have l3 := looks_find (M := model prog w) X I hf
  have sb : Looks (model prog w) hp (isInstance (.ref x) (.type "BaseException")) true := l0.andThen (looks_subIn X T.hs)
  have ne1 : (Value.builtin "BaseException.__getattribute__" == Value.builtin "object.__getattribute__") = false := by decide +kernel
  have ne0 : (onTheHeap (Value.ref D) && Value.builtin "BaseException.__getattribute__" == Value.builtin "object.__getattribute__") = false := by rw [ne1, Bool.and_false]
  unfold getAttr? getAttrBy? getAttrBy
  refine wpAny_bind (wpAny_mkText (wpAny_bind (wpAny_attempt (wpAny_holding (wpAny_bind (l0.at (wpAny_bind (l1.at ?_))))))))
  show wpAny _ _ (if (onTheHeap (Value.ref D) && Value.builtin "BaseException.__getattribute__" == Value.builtin "object.__getattribute__") = true then _ else _) _ _ _
  rw [ne0, if_neg Bool.false_ne_true]; unfold getAttrByItsOwn hookBefore; refine wpAny_bind ?_
  rw [if_pos (show onTheHeap (Value.ref D) = true from rfl)]; refine l2.at ?_
  refine wpAny_bind (wpAny_attempt (wpAny_holding ?_)); unfold callGetattribute
  rw [show (false && onTheHeap (Value.builtin "BaseException.__getattribute__")) = false from rfl, if_neg Bool.false_ne_true]; unfold boundAndCalled
  rw [PySem.F.excAttr_ValueError.ga.bind (.ref x)]; refine wpAny_bind (wpAny_pure ?_)
  show wpAny _ _ (call (.builtin "BaseException.__getattribute__") [.ref x, .str "__class__" t]) _ _ _
  refine wpAny_call (codeAny_call_builtin PySem.F.excAttr_ValueError.ga.plain PySem.F.entry_bexc_ga (@check_slot (model prog w) _ _ ⟨hp, g, d, t + 1, os⟩ "BaseException.__getattribute__" "BaseException" "__getattribute__" (.ref x) [.str "__class__" t] [] _ (by decide +kernel) (by decide +kernel) sb (PySem.F.args_bexc_ga (.ref x) (.str "__class__" t)) ?_))
  unfold Builtin.«object.__getattribute__»
  refine wpAny_bind (wpAny_of_eq (a := ((Value.ref x : Value), [Value.str "__class__" t])) (by first | rfl | (simp only [slotArgs]; rfl)) (wpAny_bind (wpAny_pure (wpAny_bind (l0.at (wpAny_bind (l3.at ?_)))))))
  show wpAny _ _ (holding [Value.builtin "object.__class__"] (call (.builtin "getset_descriptor.__get__") [.builtin "object.__class__", .ref x, .ref D]) >>= ret) _ _ _
  refine wpAny_bind (wpAny_holding (wpAny_call (class_get (s := ⟨hp, g, d, t + 1, os⟩) (ox := ox) (od := od) X I T.hm (wpAny_pure ?_))))
  show wpAny _ _ (handedOut (.ref D)) _ _ _
  rw [handedOut_of (v := .ref D) rfl]
  first | exact wpAny_pure (wpAny_pure h) | exact wpAny_pure h | exact wpAny_pure (wpAny_bind (wpAny_pure (wpAny_pure h)))
theorem kit_ev (T : ExcC K D) : KitX K (.ref x) (.ref D) (fun h => ∃ ox od, InstAt h x ox D od) where
  ty := fun _ _ _ ⟨_, _, I⟩ => I.type
  it := fun _ _ X _ => by
    obtain ⟨cdD, hcD, _⟩ := any_some T.hd
    unfold clsIn at hcD
    split at hcD
    · next ho => exact fun _ _ _ _ k q => by unfold isType loadHead; exact wpAny_bind (wpAny_loadPart (k _ _ (X _ _ ho)) (wpAny_pure q))
    · cases hcD
  ne := fun h tp dd its n sl X htp => by
    obtain ⟨cdD, hcD, _⟩ := any_some T.hd
    cases e : (Value.ref D == Value.ref tp) with
    | false => rfl
    | true =>
      obtain rfl : D = tp := Value.ref.inj (beq_iff_eq.mp e)
      unfold clsIn at hcD
      split at hcD
      · next ho => cases (X _ _ ho).symm.trans htp
      · cases hcD
  ca := fun X ⟨_, _, I⟩ k => cls_ev T X I k
end
/-! ### the object of an error that is held -/
section
variable {X : Cx} {γ : List Sl} {R : Rs} {e o a b : Expr} {es : List Expr} {x y z d : D} {ds : List D} {pos pn apos : Pos} {C D' : Addr} {fs : List (Str × D)} {f m n : Str} {k : Nat} {p q : Bool}
theorem inst_ev {P : Program} {w : World} {K : PySem.W.Frag} {Hs H : Hp} {h : Heap} {v : V} (hok : HOk P w H h) (s : Same Hs H) (r : Rep K Hs v (.ev C fs)) : ∃ a, v = .ref a ∧ ∃ ox od, PySem.W.InstAt h a ox C od := by
  cases r with
  | ev0 h1 =>
    obtain ⟨t1, e1⟩ := exo_at hok (s _ _ h1)
    exact ⟨_, rfl, _, none, e1, rfl, rfl, trivial⟩
  | ev1 h1 h2 r1 =>
    obtain ⟨t1, e1⟩ := exo_at hok (s _ _ h1)
    obtain ⟨mA, hns, rel⟩ := exd_at hok (s _ _ h2)
    obtain ⟨od, ho, _⟩ := lookIn_ns hns
    exact ⟨_, rfl, _, some od, e1, rfl, rfl, ho⟩
/-- isinstance(e, c) of such a thing -/
def rIsV (K : PySem.W.Frag) : List V → Hp → VK → Prop := fun xs H Q => ∃ (Hs : Hp) (v c : V) (C : Addr) (fs : List (Str × D)) (cv : Value) (b : Bool), xs = [v, c] ∧ Same Hs H ∧ Rep K Hs v (.ev C fs) ∧ ExcC K C ∧ (∀ u, RelV c u → u = cv) ∧ PySem.W.kitOne K (.ref C) cv = some b ∧ Q (.bl b) H
theorem call_isV : CallR X (.builtin "isinstance") (rIsV X.K) := by
  intro pins s σ H xs us Q I r h
  obtain ⟨Hs, v, c, C, fs, cv, b, rfl, sm, rv, T, hcv, hk, q⟩ := h
  obtain ⟨a, rfl, J⟩ := inst_ev I.hok sm rv
  cases r with
  | cons rx rr =>
    cases rr with
    | cons rt rr =>
      cases rr
      cases rx
      have ec := hcv _ rt
      subst ec
      exact PySem.W.kia_one (kit_ev T) I.kIn J hk (fun z => nomatch z) fun tk => ⟨.bl b, H, I.tok tk, rfl, q⟩
/-- isinstance(e, C): a class of the module's, by its name -/
theorem pd_isvC {p2 : Pos} (h : PD X γ e (.ev C fs)) (T : ExcC X.K C) (hmC : X.mg n = some (.ref D')) (hk : PySem.W.kitOne X.K (.ref C) (.ref D') = some q) (hm : X.mg "isinstance" = none) (hg : Gl X "isinstance" := by rfl) (hgC : Gl X n := by rfl) (hd : (n == ("__debug__" : Str)) = false := by decide)
    (he : starEach [e, .Name n p2] X.env = (false, eval e X.env) :: starEach [.Name n p2] X.env := by rfl) (he2 : starEach [.Name n p2] X.env = (false, eval (.Name n p2) X.env) :: starEach [] X.env := by rfl) (hpl : (backTo pos (starEach [.Name n p2] X.env)).any (·.1) = false := by rfl) :
    PD X γ (.Call (.Name "isinstance" pn) [e, .Name n p2] [] pos) (.bl q) :=
  pd_cb call_isV (fun Hs H vs Q s rs kk => by
    cases rs with
    | cons r1 rn =>
      cases rn with
      | cons r2 rn =>
        cases rn
        cases r2
        exact ⟨Hs, _, _, C, fs, .ref D', q, rfl, s, r1, T, fun u hu => hu, hk, kk _ Hs H (Gr.refl s) (.bl q)⟩) hg hm (by decide +kernel) (pa_cons h (pa_cons (pd_glob (v := .ref D') hgC hmC rfl (fun _ => .adr D') hd) pa_nil he2) he) (by decide) (by decide) he hpl
/-- isinstance(e, T): a built-in type -/
theorem pd_isvT {t : String} {p2 : Pos} (h : PD X γ e (.ev C fs)) (T : ExcC X.K C) (hmT : X.mg n = none) (hv : bootBuiltins n = some (.type t)) (hk : PySem.W.kitOne X.K (.ref C) (.type t) = some q) (hm : X.mg "isinstance" = none) (hg : Gl X "isinstance" := by rfl) (hgT : Gl X n := by rfl) (hn : n ≠ "__name__" := by decide) (hd : (n == ("__debug__" : Str)) = false := by decide)
    (he : starEach [e, .Name n p2] X.env = (false, eval e X.env) :: starEach [.Name n p2] X.env := by rfl) (he2 : starEach [.Name n p2] X.env = (false, eval (.Name n p2) X.env) :: starEach [] X.env := by rfl) (hpl : (backTo pos (starEach [.Name n p2] X.env)).any (·.1) = false := by rfl) :
    PD X γ (.Call (.Name "isinstance" pn) [e, .Name n p2] [] pos) (.bl q) :=
  pd_cb call_isV (fun Hs H vs Q s rs kk => by
    cases rs with
    | cons r1 rn =>
      cases rn with
      | cons r2 rn =>
        cases rn
        cases r2
        exact ⟨Hs, _, _, C, fs, .type t, q, rfl, s, r1, T, fun u hu => hu, hk, kk _ Hs H (Gr.refl s) (.bl q)⟩) hg hm (by decide +kernel) (pa_cons h (pa_cons (pd_ty hmT hv hgT hn hd) pa_nil he2) he) (by decide) (by decide) he hpl
/-- e.f -/
theorem pd_evf (h : PD X γ e (.ev C fs)) (T : XfC X.K C) (hno : PySem.W.findIn X.K (.ref C) f = some none) (hl : fs.lookup f = some d) (hb : attributeBase e f X.env (eval e X.env) = eval e X.env := by rfl) : PD X γ (.Attribute e f pos) d := fun σ Hs H Q s E kk => by
  intro pins st I
  refine attr_of hb (thn ((wE_ok e).run pins st σ H _ I (h σ Hs H (fun v H1 => ∃ Hs1, Gr Hs H Hs1 H1 ∧ Rep X.K Hs1 v (.ev C fs)) s E fun v Hs1 H1 g r => ⟨Hs1, g, r⟩)) fun u s1 hh => ?_)
  obtain ⟨v, H1, I1, rx, Hs1, g, r⟩ := hh
  cases r with
  | ev0 _ => cases hl
  | ev1 h1 h2 r1 =>
    cases rx
    obtain ⟨t1, e1⟩ := exo_at I1.hok (g.sub _ _ h1)
    obtain ⟨mA, hns, rel⟩ := exd_at I1.hok (g.sub _ _ h2)
    obtain ⟨od, ho, hlk⟩ := lookIn_ns hns
    obtain ⟨v, hv, rv⟩ := r1.get hl
    obtain ⟨u, hu, ru⟩ := RelO.some_of (v := v) (o := mA f) (by rw [← hv]; exact rel f)
    have J : PySem.W.InstAt s1.heap _ _ C (some od) := ⟨e1, rfl, rfl, ho⟩
    exact HandSPX.exc_get I1.kIn J T.ga T.gg T.exC (PySem.W.findObj_own T.hdC hno rfl (by rw [hlk, hu])) (handed_of ru) ⟨v, H1, I1.tok _, ru, kk v Hs1 H1 g rv⟩
end
end Pd
end

section
set_option autoImplicit false
set_option Elab.async false
set_option linter.all false
set_option maxRecDepth 100000
set_option maxHeartbeats 4000000
namespace Pd
open PySem PySem.Spec PyProof.Rows L2
/-! ### an error is made and held -/
def tMkV (C : Addr) (sp : Sp) (ta : TA) : TE := fun σ H Q => ta σ H fun vs H1 => vs.length ≤ 1000 ∧ ∀ a, H1 a = none → sp (.ref a :: vs) (upd H1 a (exo a C none)) (fun v H2 => v = .non ∧ Q (.ref a) H2) (fun _ _ _ => False)
section
variable {X : Cx} {CX : CXT} {x : Str} {C fI : Addr} {k : Nat} {fd : FuncData} {ps : List Str} {sp : Sp} {e : Expr} {es : List Expr} {ta : TA} {p pos : Pos}
theorem pe_oexV (T : OexC X.K C) (iC : PySem.W.findIn X.K (.ref C) "__init__" = some (some (.ref fI))) (tI : PySem.W.typeIn X.K (.ref fI) = some (.type "function")) (F1 : FnOk X.prog X.w X.K X.mg X.base CX k fI fd ps sp) (hr : Room (k + 1) X.A) (hb : Binds X.K fd ps []) (hx : Passes CX X (fun _ _ _ => False))
    (hg : Gl X x) (hm : X.mg x = some (.ref C)) (ha : PA X (e :: es) ta) (hdb : (x == ("__debug__" : Str)) = false := by decide) (he : starEach (e :: es) X.env = (false, eval e X.env) :: starEach es X.env := by rfl) (hpl : (backTo pos (starEach es X.env)).any (·.1) = false := by rfl) :
    PE X (.Call (.Name x p) (e :: es) [] pos) (tMkV C sp ta) := by
  refine ⟨fun pins s σ H Q I h => ?_⟩
  obtain ⟨nm, q, N, bs, bm, sn, sub, ab, col, dd, k0, k1, k2, k3, k5, hC, hbm⟩ := T.cls
  refine wpAny_Call_Name_kw (ld_glob I hg hm (PySem.W.callWith_K (h₀ := X.base) I.ok.mod.kin T.kC (thn (ha.run pos pins s σ H _ I h) fun us s1 ⟨vs, H1, I1, r1, hz, q1⟩ => ⟨I1.kIn, ?_⟩) he hpl) hdb)
  show wpAny _ _ (call (.ref C) us) _ _ _
  obtain ⟨hp, g, dr, tk, os⟩ := s1
  let z := hp.objs.size + 1
  have hn : H1 z = none := I1.hok.fresh (Nat.le_succ _)
  have hq := q1 z hn
  have hget : ((hp.push (PySem.W.kdv_tup us)).push (PySem.HandSPX.excO C hp.objs.size)).get? (hp.objs.size + 1) = some (PySem.HandSPX.excO C hp.objs.size) := by heap_get
  have I2 : Inv X pins σ (upd H1 z (exo z C none)) ⟨(hp.push (PySem.W.kdv_tup us)).push (PySem.HandSPX.excO C hp.objs.size), g, dr, tk, os⟩ :=
    I1.laid (t' := tk) (a := z) (o := exo z C none) (h' := (hp.push (PySem.W.kdv_tup us)).push (PySem.HandSPX.excO C hp.objs.size)) (fun b o e => Heap.get?_push_of_some _ (Heap.get?_push_of_some _ e)) (Nat.le_succ _) (exo_ok hget)
  have r2 : Vals (V.ref z :: vs) (Value.ref z :: us) := .cons rfl r1
  have hl : (Value.ref z :: us).length = ps.length := by
    have y := r2.length
    rw [F1.len _ _ _ _ hq] at y
    exact y.symm
  have bd := hb _ (Value.ref z :: us) I2.kIn (by rw [List.append_nil]; exact hl)
  rw [List.append_nil] at bd
  have hus : us.length ≤ sizeLine := by
    have y := Paired.length r1
    rw [sizeLine_eq]; omega
  have run := F1.run _ X.stack _ _ ⟨Value.ref z :: us, []⟩ (Value.ref z :: us) _ _ (fun _ _ _ => False) (hr.make C us []) (I2.env0.make C us []) bd r2 hq
  refine wpAny_call (PySem.HandSPX.call_own PySem.F.excBase_ValueError (fun Y => PySem.HandSPX.refsVE_contains Y bm hbm) (I1.kIn _ _ hC) (PySem.W.looks_findIn I1.kIn iC) (fun self => PySem.W.bind_fn I1.kIn self tI) hus (codeAny_mono run fun r s' hq' => ?_))
  match r, hq' with
  | .error er, hq' => exact hx pins σ _ _ er s' I2 hq'
  | .ok (.ret u), hq' =>
    obtain ⟨v, H', I3, rv, ev, q3⟩ := I2.after hq'
    subst ev
    exact ⟨rv, V.ref z, H', I3, rfl, q3⟩
  | .ok .next, hq' => exact hq'.elim
  | .ok .brk, hq' => exact hq'.elim
  | .ok .cont, hq' => exact hq'.elim
/-- X(), without an own __init__ -/
theorem pe_exc0 {bmB : List Value} {B newId initId : String} (F : ExcBaseFacts B newId initId bmB) (q : PySem.W.excIn X.K C bmB newId = true) (gC : X.mg x = some (.ref C)) (kC : PySem.W.keepIn X.K (.ref C) = true) (hg : Gl X x) (hdb : (x == ("__debug__" : Str)) = false := by decide) :
    PE X (.Call (.Name x p) [] [] pos) (fun σ H Q => ∀ a, H a = none → Q (.ref a) (upd H a (exo a C none))) := by
  refine ⟨fun pins s σ H Q I h => ?_⟩
  refine wpAny_Call_Name_kw (ld_glob I hg gC (PySem.W.callWith_K0 I.kIn kC ?_) hdb)
  obtain ⟨bm, N, nm, qn, bs, hdct, sn, sub, ab, col, dd, k0, k1, k2, k3, k5, mN, hC, hN, hni, T⟩ := exc_obj I.kIn q
  refine wpAny_call_exc_subT F T hC hN hni (fun h' a hm => ?_) (by show 0 ≤ sizeLine; omega)
  have hn : H a = none := I.hok.gone hm.new
  obtain ⟨t, ht, _, _⟩ := hm.there
  exact ⟨.ref a, upd H a (exo a C none), I.laidN hm.keeps hm.new hn (exo_ok ht), rfl, h a hn⟩
end
/-- __init__(self, x, ..) of an error: its fields by its arguments -/
def spEV (K : PySem.W.Frag) (C : Addr) (G : List D → List (Str × D) → Prop) : Sp := fun vs H Q _ => ∃ (Hs H1 : Hp) (a : Addr) (ws : List V) (ds : List D) (fs : List (Str × D)), vs = .ref a :: ws ∧ H1 a = none ∧ H = upd H1 a (exo a C none) ∧ Same Hs H1 ∧ Reps K Hs ws ds ∧ G ds fs ∧
  ∀ Hs' H', Gr Hs H1 Hs' H' → Rep K Hs' (.ref a) (.ev C fs) → Q .non H'
structure DV (P : Program) (w : World) (K : PySem.W.Frag) (mg : Str → Option Value) (base : Heap) (x : Str) (C : Addr) (G : List D → List (Str × D) → Prop) : Prop where
  T : OexC K C
  m : mg x = some (.ref C)
  ex : ∃ fI fd ps, PySem.W.findIn K (.ref C) "__init__" = some (some (.ref fI)) ∧ PySem.W.typeIn K (.ref fI) = some (.type "function") ∧ FnOk P w K mg base CX0 1 fI fd ps (spEV K C G) ∧ Binds K fd ps []
section
variable {X : Cx} {γ : List Sl} {R : Rs} {e o a b : Expr} {es : List Expr} {x y z d : D} {ds : List D} {pos pn apos : Pos} {C D' : Addr} {fs : List (Str × D)} {f m n : Str} {k : Nat} {p q : Bool}
theorem pd_mkev {G : List D → List (Str × D) → Prop} (T : DV X.prog X.w X.K X.mg X.base n C G) (hr : Room 2 X.A) (ha : PDA X γ (e :: es) ds) (hG : G ds fs) (hz : ds.length ≤ 1000 := by simp) (hg : Gl X n := by rfl) (hdb : (n == ("__debug__" : Str)) = false := by decide)
    (he : starEach (e :: es) X.env = (false, eval e X.env) :: starEach es X.env := by rfl) (hpl : (backTo pos (starEach es X.env)).any (·.1) = false := by rfl) : PD X γ (.Call (.Name n pn) (e :: es) [] pos) (.ev C fs) := fun σ Hs H Q s E kk => by
  obtain ⟨fI, fd, ps, i1, i2, ok, bd⟩ := T.ex
  refine wE_of (pe_oexV T.T i1 i2 ok hr bd (fun _ _ _ _ _ _ _ z => z.elim) hg T.m (wA_ok _) hdb he hpl) ?_
  refine ha σ Hs H _ s E fun vs Hs' H' g r => ⟨by rw [r.length]; exact hz, fun a na => ?_⟩
  exact ⟨Hs', H', a, vs, ds, fs, rfl, na, rfl, g.sub, r, hG, fun Hs2 H2 g2 r2 => ⟨rfl, kk _ Hs2 H2 (g.trans g2) r2⟩⟩
theorem pd_mkev0 (q : PySem.W.excIn X.K C He.veBase "ValueError.__new__" = true) (kC : PySem.W.keepIn X.K (.ref C) = true) (hm : X.mg n = some (.ref C)) (hg : Gl X n := by rfl) (hdb : (n == ("__debug__" : Str)) = false := by decide) : PD X γ (.Call (.Name n pn) [] [] pos) (.ev C []) := fun σ Hs H Q s E kk =>
  wE_of (pe_exc0 PySem.F.excBase_ValueError q hm kC hg hdb) fun a na => by
    have g := Gr.new s na (o := exo a C none)
    exact kk _ _ _ g (.ev0 upd_same)
end
/-! ### __init__ of one, of two fields -/
section
variable {P : Program} {w : World} {K : PySem.W.Frag} {mg : Str → Option Value} {base : Heap} {qual : Str} {params : Arguments} {scope : Scope} {f C : Addr} {fd : FuncData} {s x y f1 f2 : Str} {p1 p2 p3 p4 q1 q2 q3 q4 : Pos}
theorem ev_end {Hs H1 : Hp} {a dx : Addr} {vs : List (Str × V)} {ds : List (Str × D)} (sm : Same Hs H1) (na : H1 a = none) (ndx : H1 dx = none) (ne : dx ≠ a) (r : RepF K Hs vs ds) :
    ∃ Hs', Gr Hs H1 Hs' (upd (upd H1 dx (exd dx vs)) a (exo a C (some dx))) ∧ Rep K Hs' (.ref a) (.ev C ds) := by
  have g1 := Gr.new sm ndx (o := exd dx vs)
  have na2 : upd H1 dx (exd dx vs) a = none := by rw [upd_ne (Ne.symm ne)]; exact na
  have g2 := Gr.new g1.sub na2 (o := exo a C (some dx))
  refine ⟨_, g1.trans g2, .ev1 upd_same ?_ (RepF.mono (g1.sh.trans g2.sh) r)⟩
  rw [upd_ne ne, upd_same]
theorem upd_2 {H : Hp} {a b : Addr} {o u v : HO} (ne : b ≠ a) : upd (upd (upd H a o) b u) a v = upd (upd H b u) a v := by
  funext c
  by_cases h1 : c = a
  · subst h1; rw [upd_same, upd_same]
  · rw [upd_ne h1, upd_ne h1]
    by_cases h2 : c = b
    · subst h2; rw [upd_same, upd_same]
    · rw [upd_ne h2, upd_ne h2, upd_ne h1]
theorem upd_3 {H : Hp} {a b : Addr} {u v w : HO} (ne : b ≠ a) : upd (upd (upd H b u) a v) b w = upd (upd H b w) a v := by
  funext c
  by_cases h1 : c = b
  · subst h1; rw [upd_same, upd_ne ne, upd_same]
  · rw [upd_ne h1]
    by_cases h2 : c = a
    · subst h2; rw [upd_same, upd_same]
    · rw [upd_ne h2, upd_ne h2, upd_ne h1, upd_ne h1]
def gE1 (f1 : Str) : List D → List (Str × D) → Prop := fun ds fs => ∃ d, ds = [d] ∧ fs = [(f1, d)]
def gE2 (f1 f2 : Str) : List D → List (Str × D) → Prop := fun ds fs => ∃ d e, ds = [d, e] ∧ fs = [(f2, e), (f1, d)]
theorem okEV1 (F : FunD K "__init__" qual params [.Assign [.Attribute (.Name s p1) f1 p2] (.Name x p3) p4] scope [] [] f fd) (S : FnScope [s, x] [s, x] scope) (T : OexC K C) (hno : PySem.W.findIn K (.ref C) f1 = some none) (v0 : Vis scope s) (v1 : Vis scope x)
    (d0 : (s == ("__debug__" : Str)) = false) (d1 : (x == ("__debug__" : Str)) = false) (c0 : (s == ("__classdict__" : Str)) = false) (c1 : (x == ("__classdict__" : Str)) = false) : FnOk P w K mg base CX0 1 f fd [s, x] (spEV K C (gE1 f1)) := by
  refine F.ok S (fun vs H Q E h => ?_) (fun cdv A outer st H vs Q E hr h => ?_)
  · obtain ⟨Hs, H1, a, ws, ds, fs, rfl, _, _, _, r, ⟨d, rfl, _⟩, _⟩ := h
    show ws.length + 1 = 2
    rw [r.length] <;> rfl
  · obtain ⟨Hs, H1, a, ws, ds, fs, rfl, na, rfl, sm, r, ⟨d, rfl, rfl⟩, kk⟩ := h
    cases r with
    | @cons v _ _ _ r1 rn =>
      cases rn
      refine ⟨_, PSs.nox (pss_one (ps_ost (pe_var (i := 0) rfl v0 d0 c0) (pe_var (i := 1) rfl v1 d1 c1))), ?_⟩
      refine ⟨v, rfl, _, rfl, a, C, rfl, T, hno, .inl ⟨upd_same, fun dx ndx ne => ?_⟩⟩
      rw [upd_ne ne] at ndx
      obtain ⟨Hs', g, rr⟩ := ev_end (C := C) sm na ndx ne (RepF.cons (x := f1) r1 RepF.nil)
      show Q .non _
      rw [upd_2 ne]
      exact kk Hs' _ g rr
theorem okEV2 (F : FunD K "__init__" qual params [.Assign [.Attribute (.Name s p1) f1 p2] (.Name x p3) p4, .Assign [.Attribute (.Name s q1) f2 q2] (.Name y q3) q4] scope [] [] f fd) (S : FnScope [s, x, y] [s, x, y] scope) (T : OexC K C) (hno : PySem.W.findIn K (.ref C) f1 = some none) (hno2 : PySem.W.findIn K (.ref C) f2 = some none) (v0 : Vis scope s) (v1 : Vis scope x) (v2 : Vis scope y)
    (d0 : (s == ("__debug__" : Str)) = false) (d1 : (x == ("__debug__" : Str)) = false) (c0 : (s == ("__classdict__" : Str)) = false) (c1 : (x == ("__classdict__" : Str)) = false) (d2 : (y == ("__debug__" : Str)) = false) (c2 : (y == ("__classdict__" : Str)) = false) : FnOk P w K mg base CX0 1 f fd [s, x, y] (spEV K C (gE2 f1 f2)) := by
  refine F.ok S (fun vs H Q E h => ?_) (fun cdv A outer st H vs Q E hr h => ?_)
  · obtain ⟨Hs, H1, a, ws, ds, fs, rfl, _, _, _, r, ⟨d, e, rfl, _⟩, _⟩ := h
    show ws.length + 1 = 3
    rw [r.length] <;> rfl
  · obtain ⟨Hs, H1, a, ws, ds, fs, rfl, na, rfl, sm, r, ⟨d, e, rfl, rfl⟩, kk⟩ := h
    cases r with
    | @cons v _ _ _ r1 rn =>
      cases rn with
      | @cons u2 _ _ _ r2 rn =>
        cases rn
        refine ⟨_, PSs.nox (pss_cons (ps_ost (pe_var (i := 0) rfl v0 d0 c0) (pe_var (i := 1) rfl v1 d1 c1)) (pss_one (ps_ost (pe_var (i := 0) rfl v0 d0 c0) (pe_var (i := 2) rfl v2 d2 c2)))), ?_⟩
        refine ⟨v, rfl, _, rfl, a, C, rfl, T, hno, .inl ⟨upd_same, fun dx ndx ne => ?_⟩⟩
        rw [upd_ne ne] at ndx
        rw [upd_2 ne]
        refine ⟨u2, rfl, _, rfl, a, C, rfl, T, hno2, .inr ⟨dx, [(f1, v)], upd_same, by rw [upd_ne ne, upd_same], by simp, ?_⟩⟩
        obtain ⟨Hs', g, rr⟩ := ev_end (C := C) sm na ndx ne (RepF.cons (x := f2) r2 (RepF.cons (x := f1) r1 RepF.nil))
        show Q .non _
        rw [upd_3 ne]
        exact kk Hs' _ g rr
end
/-! ### counting, joining -/
section
variable {X : Cx} {γ : List Sl} {R : Rs} {e o a b : Expr} {es : List Expr} {x y z d : D} {ds es' : List D} {pos pn apos : Pos} {p q : Bool}
def cntB (q : Bool) (v : Value) : Bool := match v with
  | .bool b => b == q
  | _ => false
theorem vals_bl : ∀ {bs : List Bool} {us : List Value}, Vals (bs.map V.bl) us → us = bs.map Value.bool
  | [], _, .nil => rfl
  | b :: bs, _, .cons r t => by rw [vals_bl t]; cases (show _ = Value.bool b from r); rfl
theorem reps_bl {K : PySem.W.Frag} {H : Hp} : ∀ {vs : List V} {bs : List Bool}, Reps K H vs (bs.map D.bl) → vs = bs.map V.bl
  | [], [], _ => rfl
  | [], _ :: _, h => by cases h
  | _ :: _, [], h => by cases h
  | v :: vs, n :: ns, h => by
    cases h with
    | cons r t => cases r; rw [reps_bl t] <;> rfl
def rCntB (K : PySem.W.Frag) : V → List V → Hp → VK → Prop := fun x xs H Q => ∃ (p : Addr) (bs : List Bool) (k : Bool), x = .ref p ∧ xs = [.bl k] ∧ SqL K H p (bs.map V.bl) ∧ Q (.int (bs.count k : Nat)) H
theorem mt_cntB : MtR X "list.count" (rCntB X.K) := by
  intro pins s σ H x xs v us Q I rx rxs h
  obtain ⟨p, bs, k, rfl, rfl, hs, q⟩ := h
  cases rx
  obtain ⟨u, rfl, ru⟩ := rxs.one
  cases (show u = Value.bool k from ru)
  obtain ⟨its, rv, ⟨⟨cls, dd, data, sl⟩, n, ho, hc, hdn, hd⟩, hlen⟩ := I.list hs
  simp only at hc hd
  subst hc hd
  have hi := vals_bl rv
  subst hi
  refine call_meets PySem.F.slot_list_count ⟨_, ho, rfl⟩ PySem.F.entry_list_count (PySem.F.args_list_count_2 _ _) (SeqAt.list_countAt p _ n dd sl (.bool k) (cntB k)) ⟨ho, fun y hy => ?_, ?_⟩
  · obtain ⟨b, _, rfl⟩ := List.mem_map.mp (by simpa using hy : y ∈ bs.map Value.bool)
    exact PySem.SeqAt.EqAt.bool_bool b k
  · have ec : ∀ l : List Bool, (l.map Value.bool).countP (cntB k) = l.count k := by
      intro l
      induction l with
      | nil => rfl
      | cons b r ih => rw [List.map_cons, List.countP_cons, List.count_cons, ih] <;> rfl
    refine ⟨.int (bs.count k : Nat), H, I.tok _, ⟨s.toks, ?_⟩, q⟩
    show Value.int (((bs.map Value.bool).countP (cntB k) : Nat) : Int) s.toks = Value.int ((bs.count k : Nat) : Int) s.toks
    rw [ec]
theorem ty_lcnt : typeOf (.builtin "list.count") = pure (.type "method_descriptor") := by show builtinType _ = _; rw [builtinType_eq_fast]; kernel_rfl
theorem pd_cntB {bs : List Bool} {k : Nat} {p2 ap : Pos} (h : PD X γ o (.lst (bs.map .bl))) (hbase : attributeBase o "count" X.env (eval o X.env) = eval o X.env := by rfl)
    (hfew : ((backTo pos (starEach [.Constant (.bool q) k p2] X.env)).all (fun x => !x.1) && (backToKw pos (keywordEach [] X.env)).all (fun x => x.1.isSome) && decide (([Expr.Constant (.bool q) k p2] : List Expr).length + ([] : List Keyword).length + (if ([] : List Keyword).isEmpty then 0 else 1) < 30)) = true := by rfl)
    (hline : (ap.endLine == pos.line) = true := by rfl) : PD X γ (.Call (.Attribute o "count" ap) [.Constant (.bool q) k p2] [] pos) (.int (bs.count q : Nat)) := fun σ Hs H Q s E kk => by
  refine wE_of (pe_bm (r := rCntB X.K) PySem.F.plainAttrs_list PySem.F.slot_list_count ty_lcnt mt_cntB (wE_ok o) (L2.pa_cons pe_bl L2.pa_nil) hbase hfew hline) ?_
  refine h σ Hs H _ s E fun v Hs' H' g r => ?_
  cases r with
  | lst h1 r1 =>
    have ev := reps_bl r1
    subst ev
    refine ⟨?_, ?_⟩
    · show tyV X.K "list" _ H'
      exact .inl ⟨rfl, _, .inl (.inl (g.sub _ _ h1))⟩
    · exact ⟨_, bs, q, rfl, rfl, .inl (.inl (g.sub _ _ h1)), kk _ Hs' H' g (.int _)⟩
/-- sep.join(xs), the texts one sign each, no separator -/
theorem reps_str {K : PySem.W.Frag} {H : Hp} : ∀ {vs : List V} {xs : List Str}, Reps K H vs (xs.map D.str) → vs = xs.map V.str
  | [], [], _ => rfl
  | [], _ :: _, h => by cases h
  | _ :: _, [], h => by cases h
  | v :: vs, n :: ns, h => by
    cases h with
    | cons r t => cases r; rw [reps_str t] <;> rfl
theorem pd_join {u : Str} {ys : List Str} {ap : Pos} (ho : PD X γ o (.str u)) (he : PD X γ e (.lst (ys.map .str))) (hz : (ys.map (·.length)).sum + ys.length * u.length ≤ 16777216) (hs : starEach [e] X.env = [(false, eval e X.env)] := by rfl)
    (hbase : attributeBase o "join" X.env (eval o X.env) = eval o X.env := by rfl) (hline : (ap.endLine == pos.line) = true := by rfl) : PD X γ (.Call (.Attribute o "join" ap) [e] [] pos) (.str (Txt.join u ys)) := fun σ Hs H Q s E kk => by
  refine wE_of (pe_join (wE_ok o) (wE_ok e) hs hbase hline) ?_
  refine ho σ Hs H _ s E fun v Hs' H' g r => ?_
  cases r
  refine ⟨⟨u, rfl⟩, he σ Hs' H' _ g.sub (E.mono g.sh) fun v2 Hs2 H2 g2 r2 => ?_⟩
  cases r2 with
  | lst h1 r1 =>
    have ev := reps_str r1
    subst ev
    exact ⟨u, _, ys, rfl, rfl, .inl (.inl (.inl (g2.sub _ _ h1))), hz, kk _ Hs2 H2 (g.trans g2) (.str _)⟩
theorem pd_catT (ha : PD X γ a (.tup ds)) (hb : PD X γ b (.tup es')) (h1 : ds ≠ []) (h2 : es' ≠ []) (hz : ds.length + es'.length ≤ 100000) : PD X γ (.BinOp a .Add b pos) (.tup (ds ++ es')) :=
  pd_op op_catT (fun Hs H v u Q s r1 r2 k => by
    cases r1 with
    | tup t1 r1 =>
      cases r2 with
      | tup t2 r2 =>
        exact ⟨_, _, _, _, rfl, rfl, sqT_mono s t1, sqT_mono s t2, fun z => h1 (by have y := r1.length; rw [z] at y; exact List.eq_nil_of_length_eq_zero y.symm), sz_of (by rw [r1.length, r2.length]; exact hz), fun z => absurd (show es' = [] by have y := r2.length; rw [z] at y; exact List.eq_nil_of_length_eq_zero y.symm) h2, fun _ => newT s (r1.append r2) k⟩) ha hb
end
end Pd
end

section
set_option autoImplicit false
set_option Elab.async false
set_option linter.all false
set_option maxRecDepth 100000
set_option maxHeartbeats 4000000
namespace Er
open PySem PySem.Spec PyProof.Rows L2 Pd
def top (i : Nat) : Stmt := PySem.Challenge.pw_beadmoot_k13_errors.main.body.getD i (.Pass ⟨0, 0, 0, 0⟩)
abbrev sCell : Stmt := top 51
abbrev sMixed : Stmt := top 52
abbrev sDraws : Stmt := top 53
abbrev FnP (K : PySem.W.Frag) (x : Str) (st : Stmt) (f : Addr) (fd : FuncData) : Prop := FunD K x x (defArgs st) (defBody st) (defScope st) [] [] f fd

/-! ### the mathematics -/
def cell (ns : List Int) (j : Nat) : Int := ns.getD j 0
def mixed (c k : Int) : Int :=
  let a := (c + 7919 * k + 13) % 2147483647
  let b := (a * (a + 48271)) % 2147483629
  let d := (b * (b + 69621) + 31 * k) % 2147483647
  d / 9
/-- one turn: what is drawn, what rests -/
def drawTurn (c s : Int) (st : List Int × Int) (k : Nat) : List Int × Int :=
  if c ≥ 10 ^ 18 ∧ st.2 > 0 then (st.1 ++ [st.2 % s], st.2 / s) else (st.1 ++ [mixed c k % s], st.2)
def drawRun (c s : Int) : Nat → List Int × Int
  | 0 => ([], c)
  | n + 1 => drawTurn c s (drawRun c s n) n
@[irreducible] def draws (c : Int) (n : Nat) (s : Int) : List Int := (drawRun c s n).1
theorem drawRun_len (c s : Int) : ∀ n, (drawRun c s n).1.length = n
  | 0 => rfl
  | n + 1 => by
    unfold drawRun drawTurn
    split <;> simp [drawRun_len c s n]
def gCell : List D → D → Prop := fun ds d => ∃ (ns : List Int) (j : Nat), ds = [.rol (ns.map .int), .int (j : Int)] ∧ d = .int (cell ns j)
def gMixed : List D → D → Prop := fun ds d => ∃ (c : Int) (k : Nat), ds = [.int c, .int (k : Int)] ∧ k ≤ 100000 ∧ d = .int (mixed c k)
def gDraws : List D → List D → Prop := fun ds es => ∃ (c : Int) (n : Nat) (s : Int), ds = [.int c, .int (n : Int), .int s] ∧ n ≤ 1000 ∧ 0 < s ∧ s < 2 ^ 60 ∧ es = (draws c n s).map .int

section
variable {P : Program} {w : World} {K : PySem.W.Frag} {mg : Str → Option Value} {base : Heap} {f : Addr} {fd : FuncData}
theorem scC : FnScope ["_law_script", "_law_at"] ["_law_script", "_law_at"] (defScope sCell) := ⟨rfl, rfl, rfl, by decide +kernel, rfl, by decide +kernel, by decide +kernel⟩
theorem ok_cell (F : FnP K "_law_cell" sCell f fd) (mL : mg "len" = none) : FnOk P w K mg base CX0 1 f fd ["_law_script", "_law_at"] (spD K gCell) := by
  refine fnD F scC (fun ds d ⟨ns, j, h, _⟩ => by rw [h] <;> rfl) (fun cdv A outer s H E hr ds d ⟨ns, j, h, hd⟩ => ?_)
  subst h hd
  refine sd_cons (s1_if (pt_lt (pd_v 1) (pd_lenR (pd_v 0) mL)) (fun h => sd_one (s1_ret (pd_ixR (pd_v 0) (pd_v 1) ?_) rfl)) fun h => sd_nil (sd_one (s1_ret pd_int ?_)))
  · have hj : j < ns.length := by simpa using h
    have e : (ns.map D.int)[j]? = some (.int (cell ns j)) := by
      rw [List.getElem?_map]; unfold cell; rw [List.getD_eq_getElem?_getD, List.getElem?_eq_getElem hj] <;> rfl
    exact atI_nat e
  · have hj : ¬ j < ns.length := by simpa using h
    show D.int 0 = D.int (cell ns j)
    unfold cell
    rw [List.getD_eq_getElem?_getD, List.getElem?_eq_none (by omega)] <;> rfl
theorem scM : FnScope ["_law_cell_here", "_law_k", "_law_mixed_here"] ["_law_cell_here", "_law_k"] (defScope sMixed) := ⟨rfl, rfl, rfl, by decide +kernel, rfl, by decide +kernel, by decide +kernel⟩
theorem mulW {i j : Int} (h1 : 0 ≤ i) (h2 : i < 2147483648) (h3 : 0 ≤ j) (h4 : j < 4294967296) : CMulW i j := wide_mul (a := 31) (b := 32) (by omega) (by omega) (by decide) (by decide) (by decide)
theorem mulK {i j : Int} (h1 : 0 ≤ i) (h2 : i < 2147483648) (h3 : 0 ≤ j) (h4 : j < 4294967296) : CMulW i j := wide_mul (a := 31) (b := 32) (by omega) (by omega) (by decide) (by decide) (by decide)
theorem ok_mixed (F : FnP K "_law_mixed" sMixed f fd) (mI : mg "int" = none) : FnOk P w K mg base CX0 1 f fd ["_law_cell_here", "_law_k"] (spD K gMixed) := by
  refine fnD F scM (fun ds d ⟨c, k, h, _⟩ => by rw [h] <;> rfl) (fun cdv A outer s H E hr ds d ⟨c, k, h, hk, hd⟩ => ?_)
  subst h hd
  refine sd_cons (s1_asg 2 (pd_mod (pd_int1 (pd_add (pd_add (pd_v 0) (pd_mul pd_int (pd_v 1) (mulK (by omega) (by omega) (by omega) (by omega)))) pd_int) mI) pd_int) ?_ scM.nd)
  have a0 := Int.emod_nonneg (c + 7919 * (k : Int) + 13) (by decide : (2147483647 : Int) ≠ 0)
  have a1 := Int.emod_lt_of_pos (c + 7919 * (k : Int) + 13) (by decide : (0 : Int) < 2147483647)
  refine sd_cons (s1_asg 2 (pd_mod (pd_int1 (pd_mul (pd_v 2) (pd_add (pd_v 2) pd_int) (mulW (by omega) (by omega) (by omega) (by omega))) mI) pd_int) ?_ scM.nd)
  have b0 := Int.emod_nonneg ((c + 7919 * (k : Int) + 13) % 2147483647 * ((c + 7919 * (k : Int) + 13) % 2147483647 + 48271)) (by decide : (2147483629 : Int) ≠ 0)
  have b1 := Int.emod_lt_of_pos ((c + 7919 * (k : Int) + 13) % 2147483647 * ((c + 7919 * (k : Int) + 13) % 2147483647 + 48271)) (by decide : (0 : Int) < 2147483629)
  refine sd_cons (s1_asg 2 (pd_mod (pd_int1 (pd_add (pd_mul (pd_v 2) (pd_add (pd_v 2) pd_int) (mulW (by omega) (by omega) (by omega) (by omega))) (pd_mul pd_int (pd_v 1) (mulK (by omega) (by omega) (by omega) (by omega)))) mI) pd_int) ?_ scM.nd)
  exact sd_one (s1_ret (pd_div (pd_v 2) pd_int ⟨by decide, by decide⟩) rfl)
theorem scDr : FnScope ["_law_cell_here", "_law_count", "_law_size", "_law_draws_here", "_law_rest", "_law_k"] ["_law_cell_here", "_law_count", "_law_size"] (defScope sDraws) := ⟨rfl, rfl, rfl, by decide +kernel, rfl, by decide +kernel, by decide +kernel⟩
theorem divW {i j : Int} (h1 : 0 < j) (h2 : j < 2 ^ 60) : CDivW i j := wide_div (b := 60) h1 (by omega) (by decide) (by decide)
theorem ok_draws (F : FnP K "_law_draws" sDraws f fd) (mI : mg "int" = none) (mR : mg "range" = none) (FM : DF P w K mg base 1 "_law_mixed" (spD K gMixed)) : FnOk P w K mg base CX0 2 f fd ["_law_cell_here", "_law_count", "_law_size"] (spN K gDraws) := by
  refine fnN F scDr (fun ds d ⟨c, n, z, h, _⟩ => by rw [h] <;> rfl) (fun cdv A outer s H E hr ds es ⟨c, n, z, h, hn, h0, h1, he⟩ => ?_)
  subst h he
  refine sd_cons (s1_asgN 3 (pn_lst pa_nil) ?_ scDr.nd)
  refine sd_cons (s1_asg 4 (pd_v 0) ?_ scDr.nd)
  refine sd_cons (s1_for (emb := id) (rngD 0 n) (fun i γ => ∃ x, γ = [.sh (.int c), .sh (.int (n : Int)), .sh (.int z), .ow ((drawRun c z i).1.map .int), .sh (.int (drawRun c z i).2), x])
    ((it_range1 (pd_v 1) mR (by omega) (by omega)).is (by rw [List.map_id] <;> rfl)) ⟨_, rfl⟩ ?_ ?_)
  · rintro i a γ1 ha ⟨x, rfl⟩
    obtain ⟨hi, rfl⟩ := rngD_at ha
    refine ⟨_, _, pg_n 5 scDr.nd, sd_one (s1_if (PDW.pt (pw_and (pt_ge (pd_v 0) (pd_pow pd_int pd_int)) fun _ => pw_and1 (pt_gt (pd_v 4) pd_int))) (fun ht => ?_) fun ht => ?_)⟩
    · refine sd_cons (s1_app 3 rfl (pd_mod (pd_int1 (pd_v 4) mI) (pd_v 2) h0) ?_ (by rw [List.length_map, drawRun_len]; omega))
      refine sd_one (s1_asg 4 (pd_div (pd_v 4) (pd_v 2) (divW h0 h1)) ⟨.sh (.int (0 + (i : Int))), ?_⟩ scDr.nd)
      have hc : c ≥ 10 ^ 18 ∧ (drawRun c z i).2 > 0 := by simpa using ht
      have e : drawRun c z (i + 1) = ((drawRun c z i).1 ++ [(drawRun c z i).2 % z], (drawRun c z i).2 / z) := by
        show drawTurn c z (drawRun c z i) i = _
        unfold drawTurn
        rw [if_pos hc]
      rw [e]
      simp
    · refine sd_one (s1_app 3 rfl (pd_mod (pd_int1 (pd_f FM (hr.mono (by decide)) (pa_cons (pd_v 0) (pa_cons (pd_v 5) pa_nil)) ⟨c, i, by simp, by omega, rfl⟩) mI) (pd_v 2) h0) ⟨.sh (.int (0 + (i : Int))), ?_⟩ (by rw [List.length_map, drawRun_len]; omega))
      have hc : ¬ (c ≥ 10 ^ 18 ∧ (drawRun c z i).2 > 0) := by simpa using ht
      have e : drawRun c z (i + 1) = ((drawRun c z i).1 ++ [mixed c i % z], (drawRun c z i).2) := by
        show drawTurn c z (drawRun c z i) i = _
        unfold drawTurn
        rw [if_neg hc]
      rw [e]
      simp
  · rintro γ1 ⟨x, rfl⟩
    rw [rngD_len]
    exact sd_one (s1_retO 3 rfl (by show _ = List.map D.int (draws c n z); unfold draws; rfl))
end
abbrev sIsInt : Stmt := top 54
abbrev sSame : Stmt := top 55
/-- plain data, at most n deep -/
inductive Pl : Nat → D → Prop
  | non {n : Nat} : Pl n .non
  | bl {n : Nat} (b : Bool) : Pl n (.bl b)
  | int {n : Nat} (i : Int) : Pl n (.int i)
  | str {n : Nat} (x : Str) : Pl n (.str x)
  | lst {n : Nat} {ds : List D} (h : ∀ d ∈ ds, Pl n d) (hz : ds.length ≤ 100000) : Pl (n + 1) (.lst ds)
  | tup {n : Nat} {ds : List D} (h : ∀ d ∈ ds, Pl n d) (hz : ds.length ≤ 100000) : Pl (n + 1) (.tup ds)
def gIsInt : List D → D → Prop := fun ds d => ∃ i : Int, ds = [.int i] ∧ d = .bl true
def gSame (n : Nat) : List D → D → Prop := fun ds d => ∃ x : D, ds = [x, x] ∧ Pl n x ∧ d = .bl true
section
variable {P : Program} {w : World} {K : PySem.W.Frag} {mg : Str → Option Value} {base : Heap} {f : Addr} {fd : FuncData}
theorem scII : FnScope ["_law_actual"] ["_law_actual"] (defScope sIsInt) := ⟨rfl, rfl, rfl, by decide +kernel, rfl, by decide +kernel, by decide +kernel⟩
theorem ok_isint (F : FnP K "_law_is_integer" sIsInt f fd) (mI : mg "isinstance" = none) (mi : mg "int" = none) (mb : mg "bool" = none) : FnOk P w K mg base CX0 1 f fd ["_law_actual"] (spD K gIsInt) := by
  refine fnD F scII (fun ds d ⟨i, h, _⟩ => by rw [h] <;> rfl) (fun cdv A outer s H E hr ds d ⟨i, h, hd⟩ => ?_)
  subst h hd
  exact sd_one (s1_ret (pd_and (pd_isi (T := "int") (p := true) (pd_v 0) rfl (by decide +kernel) mI mi boot_int) fun _ => pd_one (pd_not (pd_isi (T := "bool") (p := false) (pd_v 0) rfl (by decide +kernel) mI mb (by decide +kernel)))) rfl)
theorem scSm : FnScope ["_law_actual", "_law_expected", "_law_k"] ["_law_actual", "_law_expected"] (defScope sSame) := ⟨rfl, rfl, rfl, by decide +kernel, rfl, by decide +kernel, by decide +kernel⟩
theorem at_of {ds : List D} {i : Nat} {d : D} (h : ds[i]? = some d) : atI ds (0 + (i : Int)) = some d := by
  rw [Int.zero_add]; exact atI_nat h
theorem ok_same_of (F : FnP K "_law_same" sSame f fd) (mg0 : mg "_law_same" = some (.ref f)) (FI : DF P w K mg base 1 "_law_is_integer" (spD K gIsInt)) (mI : mg "isinstance" = none) (mi : mg "int" = none) (ms : mg "str" = none) (ml : mg "list" = none) (mt : mg "tuple" = none) (mL : mg "len" = none) (mR : mg "range" = none) :
    ∀ n, FnOk P w K mg base CX0 (n + 2) f fd ["_law_actual", "_law_expected"] (spD K (gSame n)) := by
  intro n
  induction n with
  | zero => exact body F FI mI mi ms ml mt mL mR 0 (fun m h => by cases h)
  | succ n ih => exact body F FI mI mi ms ml mt mL mR (n + 1) (fun m h => by
      cases h
      exact ⟨⟨f, fd, _, ih, mg0, F.kp, F.bindsN fun _ _ _ _ _ _ us hl => match us, hl with | [_, _], _ => rfl⟩⟩)
where
  body (F : FnP K "_law_same" sSame f fd) (FI : DF P w K mg base 1 "_law_is_integer" (spD K gIsInt)) (mI : mg "isinstance" = none) (mi : mg "int" = none) (ms : mg "str" = none) (ml : mg "list" = none) (mt : mg "tuple" = none) (mL : mg "len" = none) (mR : mg "range" = none)
      (n : Nat) (ih : ∀ m, n = m + 1 → DF P w K mg base (m + 2) "_law_same" (spD K (gSame m))) : FnOk P w K mg base CX0 (n + 2) f fd ["_law_actual", "_law_expected"] (spD K (gSame n)) := by
    refine fnD F scSm (fun ds d ⟨x, h, _⟩ => by rw [h] <;> rfl) (fun cdv A outer s H E hr ds d ⟨x, h, hx, hd⟩ => ?_)
    subst h hd
    have hr1 : Room 1 _ := hr.mono (by omega)
    cases hx with
    | non => exact sd_cons (s1_if (pt_isN (pd_v 1)) (fun _ => sd_one (s1_ret (pd_isN (pd_v 0)) rfl)) (fun h => by cases h))
    | bl b =>
      refine sd_cons (s1_if (pt_isN (pd_v 1)) (fun h => by cases h) (fun _ => sd_nil ?_))
      cases b with
      | true => exact sd_cons (s1_if (pt_isBl (pd_v 1)) (fun _ => sd_one (s1_ret (pd_isBl (pd_v 0)) rfl)) (fun h => by cases h))
      | false =>
        refine sd_cons (s1_if (pt_isBl (pd_v 1)) (fun h => by cases h) (fun _ => sd_nil ?_))
        exact sd_cons (s1_if (pt_isBl (pd_v 1)) (fun _ => sd_one (s1_ret (pd_isBl (pd_v 0)) rfl)) (fun h => by cases h))
    | int i =>
      refine sd_cons (s1_if (pt_isN (pd_v 1)) (fun h => by cases h) (fun _ => sd_nil ?_))
      refine sd_cons (s1_if (pt_isBl (pd_v 1)) (fun h => by cases h) (fun _ => sd_nil ?_))
      refine sd_cons (s1_if (pt_isBl (pd_v 1)) (fun h => by cases h) (fun _ => sd_nil ?_))
      refine sd_cons (s1_if (p := true) (pt_val (pd_isi (T := "int") (pd_v 1) rfl (by decide +kernel) mI mi boot_int)) (fun _ => ?_) (fun h => by cases h))
      exact sd_one (s1_ret (pd_and (pd_f FI hr1 (pa_cons (pd_v 0) pa_nil) ⟨i, rfl, rfl⟩) fun _ => pd_one (pd_eqI (pd_v 0) (pd_v 1))) (by simp))
    | str z =>
      refine sd_cons (s1_if (pt_isN (pd_v 1)) (fun h => by cases h) (fun _ => sd_nil ?_))
      refine sd_cons (s1_if (pt_isBl (pd_v 1)) (fun h => by cases h) (fun _ => sd_nil ?_))
      refine sd_cons (s1_if (pt_isBl (pd_v 1)) (fun h => by cases h) (fun _ => sd_nil ?_))
      refine sd_cons (s1_if (p := false) (pt_val (pd_isi (T := "int") (pd_v 1) rfl (by decide +kernel) mI mi boot_int)) (fun h => by cases h) (fun _ => sd_nil ?_))
      refine sd_cons (s1_if (p := true) (pt_val (pd_isi (T := "str") (pd_v 1) rfl (by decide +kernel) mI ms (by decide +kernel))) (fun _ => ?_) (fun h => by cases h))
      exact sd_one (s1_ret (pd_and (p := true) (pd_isi (T := "str") (pd_v 0) rfl (by decide +kernel) mI ms (by decide +kernel)) fun _ => pd_one (pd_eqS (pd_v 0) (pd_v 1))) (by simp))
    | @lst m ds hds hz =>
      refine sd_cons (s1_if (pt_isN (pd_v 1)) (fun h => by cases h) (fun _ => sd_nil ?_))
      refine sd_cons (s1_if (pt_isBl (pd_v 1)) (fun h => by cases h) (fun _ => sd_nil ?_))
      refine sd_cons (s1_if (pt_isBl (pd_v 1)) (fun h => by cases h) (fun _ => sd_nil ?_))
      refine sd_cons (s1_if (p := false) (pt_val (pd_isi (T := "int") (pd_v 1) rfl (by decide +kernel) mI mi boot_int)) (fun h => by cases h) (fun _ => sd_nil ?_))
      refine sd_cons (s1_if (p := false) (pt_val (pd_isi (T := "str") (pd_v 1) rfl (by decide +kernel) mI ms (by decide +kernel))) (fun h => by cases h) (fun _ => sd_nil ?_))
      refine sd_cons (s1_if (PDW.pt (pw_or (p := false) (pt_neB (p := true) (q := true) (pd_isi (T := "list") (pd_v 1) rfl (by decide +kernel) mI ml (by decide +kernel)) (pd_isi (T := "list") (pd_v 0) rfl (by decide +kernel) mI ml (by decide +kernel)))
        fun _ => pw_or1 (p := false) (pt_neB (p := false) (q := false) (pd_isi (T := "tuple") (pd_v 1) rfl (by decide +kernel) mI mt boot_tuple) (pd_isi (T := "tuple") (pd_v 0) rfl (by decide +kernel) mI mt boot_tuple)))) (fun h => by cases h) (fun _ => sd_nil ?_))
      refine sd_cons (s1_if (PDW.pt (pw_and (p := false) (q := true) (pt_not (p := true) (pt_val (pd_isi (T := "list") (pd_v 0) rfl (by decide +kernel) mI ml (by decide +kernel)))) (fun h => by cases h))) (fun h => by cases h) (fun _ => sd_nil ?_))
      refine sd_cons (s1_if (pt_neI (pd_lenL (pd_v 0) mL) (pd_lenL (pd_v 1) mL)) (fun h => by simp at h) (fun _ => sd_nil ?_))
      refine sd_cons (s1_for (emb := id) (rngD 0 ds.length) (fun i γ => ∃ x, γ = [.sh (.lst ds), .sh (.lst ds), x]) ((it_range1 (pd_lenL (pd_v 1) mL) mR (by omega) (by omega)).is (by rw [List.map_id] <;> rfl)) ⟨_, rfl⟩ ?_ ?_)
      · rintro i a γ1 ha ⟨x, rfl⟩
        obtain ⟨hi, rfl⟩ := rngD_at ha
        have hat : ds[i]? = some ds[i] := by simp [hi]
        refine ⟨_, _, pg_n 2 scSm.nd, sd_one (s1_if (pt_not (p := true) (pt_val (pd_f (ih m rfl) (hr.mono (by omega)) (pa_cons (pd_ixL (pd_v 0) (pd_v 2) (at_of hat)) (pa_cons (pd_ixL (pd_v 1) (pd_v 2) (at_of hat)) pa_nil)) ⟨_, rfl, hds _ (List.getElem_mem hi), rfl⟩))) (fun h => by cases h) fun _ => sd_nil ⟨_, rfl⟩)⟩
      · rintro γ1 ⟨x, rfl⟩
        exact sd_one (s1_ret pd_bl rfl)
    | @tup m ds hds hz =>
      refine sd_cons (s1_if (pt_isN (pd_v 1)) (fun h => by cases h) (fun _ => sd_nil ?_))
      refine sd_cons (s1_if (pt_isBl (pd_v 1)) (fun h => by cases h) (fun _ => sd_nil ?_))
      refine sd_cons (s1_if (pt_isBl (pd_v 1)) (fun h => by cases h) (fun _ => sd_nil ?_))
      refine sd_cons (s1_if (p := false) (pt_val (pd_isi (T := "int") (pd_v 1) rfl (by decide +kernel) mI mi boot_int)) (fun h => by cases h) (fun _ => sd_nil ?_))
      refine sd_cons (s1_if (p := false) (pt_val (pd_isi (T := "str") (pd_v 1) rfl (by decide +kernel) mI ms (by decide +kernel))) (fun h => by cases h) (fun _ => sd_nil ?_))
      refine sd_cons (s1_if (PDW.pt (pw_or (p := false) (pt_neB (p := false) (q := false) (pd_isi (T := "list") (pd_v 1) rfl (by decide +kernel) mI ml (by decide +kernel)) (pd_isi (T := "list") (pd_v 0) rfl (by decide +kernel) mI ml (by decide +kernel)))
        fun _ => pw_or1 (p := false) (pt_neB (p := true) (q := true) (pd_isi (T := "tuple") (pd_v 1) rfl (by decide +kernel) mI mt boot_tuple) (pd_isi (T := "tuple") (pd_v 0) rfl (by decide +kernel) mI mt boot_tuple)))) (fun h => by cases h) (fun _ => sd_nil ?_))
      refine sd_cons (s1_if (PDW.pt (pw_and (p := true) (q := false) (pt_not (p := false) (pt_val (pd_isi (T := "list") (pd_v 0) rfl (by decide +kernel) mI ml (by decide +kernel)))) (fun _ => pw_and1 (pt_not (p := true) (pt_val (pd_isi (T := "tuple") (pd_v 0) rfl (by decide +kernel) mI mt boot_tuple)))))) (fun h => by cases h) (fun _ => sd_nil ?_))
      refine sd_cons (s1_if (pt_neI (pd_lenT (pd_v 0) mL) (pd_lenT (pd_v 1) mL)) (fun h => by simp at h) (fun _ => sd_nil ?_))
      refine sd_cons (s1_for (emb := id) (rngD 0 ds.length) (fun i γ => ∃ x, γ = [.sh (.tup ds), .sh (.tup ds), x]) ((it_range1 (pd_lenT (pd_v 1) mL) mR (by omega) (by omega)).is (by rw [List.map_id] <;> rfl)) ⟨_, rfl⟩ ?_ ?_)
      · rintro i a γ1 ha ⟨x, rfl⟩
        obtain ⟨hi, rfl⟩ := rngD_at ha
        have hat : ds[i]? = some ds[i] := by simp [hi]
        refine ⟨_, _, pg_n 2 scSm.nd, sd_one (s1_if (pt_not (p := true) (pt_val (pd_f (ih m rfl) (hr.mono (by omega)) (pa_cons (pd_ixT (pd_v 0) (pd_v 2) (at_of hat)) (pa_cons (pd_ixT (pd_v 1) (pd_v 2) (at_of hat)) pa_nil)) ⟨_, rfl, hds _ (List.getElem_mem hi), rfl⟩))) (fun h => by cases h) fun _ => sd_nil ⟨_, rfl⟩)⟩
      · rintro γ1 ⟨x, rfl⟩
        exact sd_one (s1_ret pd_bl rfl)
end
end Er
end

section
set_option autoImplicit false
set_option Elab.async false
set_option linter.all false
set_option maxRecDepth 100000
set_option maxHeartbeats 4000000
namespace Er
open PySem PySem.Spec PyProof.Rows L2 Pd
abbrev sVals : Stmt := top 56
/-! ### what is drawn -/
def big : Int := 10 ^ (12 : Int).toNat
@[irreducible] def xs (c : Int) : List Int := draws c 24 big
theorem xs_len (c : Int) : (xs c).length = 24 := by
  unfold xs draws
  exact drawRun_len c big 24
theorem xs_eq (c : Int) : xs c = draws c 24 big := by unfold xs; rfl
@[irreducible] def xk (c : Int) (k : Nat) : Int := (xs c).getD k 0
theorem xk_at (c : Int) {k : Nat} (h : k < 24) : atI ((xs c).map D.int) (k : Int) = some (.int (xk c k)) := by
  have e : ((xs c).map D.int)[k]? = some (.int (xk c k)) := by
    rw [List.getElem?_map]; unfold xk
    rw [List.getD_eq_getElem?_getD, List.getElem?_eq_getElem (by rw [xs_len]; exact h)] <;> rfl
  exact atI_nat e
def pick (l : List D) (i : Int) : D := l.getD i.toNat .non
theorem pick_at {l : List D} {n x : Int} (hn : n = (l.length : Int)) (h0 : 0 < n) : atI l (x % n) = some (pick l (x % n)) := by
  have a0 := Int.emod_nonneg x (by omega : n ≠ 0)
  have a1 := Int.emod_lt_of_pos x h0
  obtain ⟨k, hk⟩ := Int.eq_ofNat_of_zero_le a0
  rw [hk] at a1 ⊢
  have hl : k < l.length := by omega
  have e : l[k]? = some (pick l (k : Int)) := by
    unfold pick
    rw [List.getD_eq_getElem?_getD, Int.toNat_natCast, List.getElem?_eq_getElem hl] <;> rfl
  exact atI_nat e
theorem pick_mem {l : List D} {n x : Int} (hn : n = (l.length : Int)) (h0 : 0 < n) : pick l (x % n) ∈ l := by
  have a0 := Int.emod_nonneg x (by omega : n ≠ 0)
  have a1 := Int.emod_lt_of_pos x h0
  unfold pick
  have hl : (x % n).toNat < l.length := by omega
  rw [List.getD_eq_getElem?_getD, List.getElem?_eq_getElem hl]
  exact List.getElem_mem hl
def szs : List Int := [30, 10 ^ (6 : Int).toNat, 10 ^ (12 : Int).toNat]
def size (c : Int) : Int := szs.getD (xk c 0 % 3).toNat 0
theorem size_at (c : Int) : atI (szs.map D.int) (xk c 0 % 3) = some (.int (size c)) := by
  have h := pick_at (l := szs.map D.int) (n := 3) (x := xk c 0) rfl (by decide)
  rw [h]
  have a0 := Int.emod_nonneg (xk c 0) (by decide : (3 : Int) ≠ 0)
  have a1 := Int.emod_lt_of_pos (xk c 0) (by decide : (0 : Int) < 3)
  unfold pick size
  rw [List.getD_eq_getElem?_getD, List.getElem?_map, List.getD_eq_getElem?_getD, List.getElem?_eq_getElem (by show (xk c 0 % 3).toNat < 3; omega)] <;> rfl
theorem size_pos (c : Int) : 0 < size c := by
  have a0 := Int.emod_nonneg (xk c 0) (by decide : (3 : Int) ≠ 0)
  have a1 := Int.emod_lt_of_pos (xk c 0) (by decide : (0 : Int) < 3)
  unfold size
  have h : (xk c 0 % 3).toNat = 0 ∨ (xk c 0 % 3).toNat = 1 ∨ (xk c 0 % 3).toNat = 2 := by omega
  rcases h with h | h | h <;> rw [h] <;> decide
def cutI (l : List Int) (lo hi : Option Int) : List Int := (l.drop (HT.sIx l.length 0 lo)).take (HT.sIx l.length l.length hi - HT.sIx l.length 0 lo)
theorem cut_map (l : List Int) (lo hi : Option Int) : Pd.cutD (l.map D.int) lo hi = (cutI l lo hi).map D.int := by
  unfold Pd.cutD cutI
  rw [List.length_map, List.map_take, List.map_drop]
theorem cut_len (c : Int) (lo hi : Option Int) : (cutI (xs c) lo hi).length ≤ 24 := by
  unfold cutI
  rw [List.length_take, List.length_drop, xs_len]
  omega
def letters : Str := "abcdefghijklmnopqrstuvwxyz"
def lett (a : Int) : Str := ⟨#[letters.cps.toList.getD (a % 26).toNat 0]⟩
theorem lett_at (a : Int) : atI letters.cps.toList (a % 26) = some (letters.cps.toList.getD (a % 26).toNat 0) := by
  have a0 := Int.emod_nonneg a (by decide : (26 : Int) ≠ 0)
  have a1 := Int.emod_lt_of_pos a (by decide : (0 : Int) < 26)
  obtain ⟨k, hk⟩ := Int.eq_ofNat_of_zero_le a0
  rw [hk] at a1 ⊢
  have hl : k < letters.cps.toList.length := by
    have : letters.cps.toList.length = 26 := by decide +kernel
    omega
  have e : letters.cps.toList[k]? = some (letters.cps.toList.getD k 0) := by
    rw [List.getD_eq_getElem?_getD, List.getElem?_eq_getElem hl] <;> rfl
  rw [Int.toNat_natCast]
  exact atI_nat e
def word (c : Int) : Str := Txt.join "" ((cutI (xs c) (some 3) (some (4 + xk c 4 % 12))).map lett)
def pairL (c : Int) : List D := [.int (xk c 5 % 24), .int (xk c 6 % 24)]
def tripL (c : Int) : List D := pairL c ++ [.int (xk c 7 % 24)]
def chainL (c : Int) : List D := (cutI (xs c) (some 8) (some (10 + xk c 9 % 4))).map fun a => D.int (a % 24)
def vals (c : Int) : List D := [.int (xk c 1 % size c), .int (xk c 2 % size c), .str (word c), pick [.tup (pairL c), .tup (tripL c)] (xk c 16 % 2), .tup (chainL c), pick [.int (xk c 1 % size c), .non] (xk c 14 % 2), pick [.int (xk c 2 % size c), .non] (xk c 15 % 2), pick [.tup (pairL c), .non] (xk c 17 % 2)] ++
  [.int (xk c 18 % 4), pick [.tup [], .tup (pairL c), .tup (pairL c), .tup (tripL c ++ [.int (xk c 19 % 24)])] (xk c 18 % 4), pick [.str "few parties", .str "many parties", .str "few edges", .str "many edges"] (xk c 20 % 4), pick [.str "quiet", .str "odd", .str "edge", .str "strife"] (xk c 21 % 4), .int (xk c 22 % 6)]
theorem vals_len (c : Int) : (vals c).length = 13 := rfl
def isI : D → Prop
  | .int _ => True
  | _ => False
theorem pl_ints {l : List D} (h : ∀ d ∈ l, isI d) (hz : l.length ≤ 100000) : Pl 1 (.tup l) := .tup (fun d hd => by
  have z := h d hd
  cases d with
  | int i => exact .int i
  | _ => exact z.elim) hz
theorem vals_pl (c : Int) : ∀ v ∈ vals c, Pl 1 v := by
  have hp : Pl 1 (.tup (pairL c)) := pl_ints (by simp [pairL, isI]) (by simp [pairL])
  have ht : Pl 1 (.tup (tripL c)) := pl_ints (by simp [tripL, pairL, isI]) (by simp [tripL, pairL])
  have hq : Pl 1 (.tup (tripL c ++ [.int (xk c 19 % 24)])) := pl_ints (by simp [tripL, pairL, isI]) (by simp [tripL, pairL])
  have hc : Pl 1 (.tup (chainL c)) := pl_ints (by simp [chainL, isI]) (by have := cut_len c (some 8) (some (10 + xk c 9 % 4)); unfold chainL; rw [List.length_map]; omega)
  have pk : ∀ {l : List D} {n x : Int}, n = (l.length : Int) → 0 < n → (∀ d ∈ l, Pl 1 d) → Pl 1 (pick l (x % n)) := fun hn h0 h => h _ (pick_mem hn h0)
  intro v hv
  simp only [vals, List.cons_append, List.nil_append, List.mem_cons, List.not_mem_nil, or_false] at hv
  rcases hv with rfl | rfl | rfl | rfl | rfl | rfl | rfl | rfl | rfl | rfl | rfl | rfl | rfl
  · exact .int _
  · exact .int _
  · exact .str _
  · exact pk rfl (by decide) (by simp [hp, ht])
  · exact hc
  · exact pk rfl (by decide) (by simp [Pl.int, Pl.non])
  · exact pk rfl (by decide) (by simp [Pl.int, Pl.non])
  · exact pk rfl (by decide) (by simp [hp, Pl.non])
  · exact .int _
  · exact pk rfl (by decide) (by simp [hp, hq]; exact .tup (by simp) (by simp))
  · exact pk rfl (by decide) (by simp [Pl.str])
  · exact pk rfl (by decide) (by simp [Pl.str])
  · exact .int _
end Er
end

section
set_option autoImplicit false
set_option Elab.async false
set_option linter.all false
set_option maxRecDepth 100000
set_option maxHeartbeats 4000000
namespace Er
open PySem PySem.Spec PyProof.Rows L2 Pd
def gVals : List D → D → Prop := fun ds d => ∃ c : Int, ds = [.int c] ∧ d = .lst (vals c)
abbrev nV : List Str := ["_law_cell_here", "_law_draws_here", "_law_letters", "_law_size", "_law_one", "_law_two", "_law_word", "_law_pair", "_law_triple", "_law_chain", "_law_low", "_law_high", "_law_where", "_law_rule", "_law_broken", "_law_why", "_law_mark", "_law_values_here", "_law_draw"]
section
variable {P : Program} {w : World} {K : PySem.W.Frag} {mg : Str → Option Value} {base : Heap} {f : Addr} {fd : FuncData}
theorem scV : FnScope nV ["_law_cell_here"] (defScope sVals) := ⟨rfl, rfl, rfl, by decide +kernel, rfl, by decide +kernel, by decide +kernel⟩
theorem sum_lett (l : List Int) : ((l.map lett).map (·.length)).sum = l.length := by
  induction l with
  | nil => rfl
  | cons a r ih =>
    simp only [List.map_cons, List.sum_cons, ih, List.length_cons]
    have : (lett a).length = 1 := rfl
    omega
theorem fm_some {α β : Type} (g : α → β) : ∀ l : List α, l.filterMap (fun a => some (g a)) = l.map g
  | [] => rfl
  | a :: r => by simp [fm_some g r]
def sc1 : Scope := { kind := .function, names := [(".0", .local), ("_law_draw", .local), ("int", .globalImplicit), ("_law_letters", .free)], isGenerator := false, isCoroutine := false, more := [] }
def sc2 : Scope := { kind := .function, names := [(".0", .local), ("_law_draw", .local), ("int", .globalImplicit)], isGenerator := false, isCoroutine := false, more := [] }
theorem blk1 : BlkOk nV (defScope sVals) sc1 [("_law_draw", 18)] := ⟨rfl, by decide +kernel, by decide +kernel, by decide +kernel, by decide +kernel⟩
theorem blk2 : BlkOk nV (defScope sVals) sc2 [("_law_draw", 18)] := ⟨rfl, by decide +kernel, by decide +kernel, by decide +kernel, by decide +kernel⟩
theorem let_len : letters.length ≤ 100000 := by decide +kernel
theorem ok_vals (F : FnP K "_law_values" sVals f fd) (mI : mg "int" = none) (mT : mg "tuple" = none) (FD : DF P w K mg base 2 "_law_draws" (spN K gDraws)) : FnOk P w K mg base CX0 3 f fd ["_law_cell_here"] (spD K gVals) := by
  refine fnD F scV (fun ds d ⟨c, h, _⟩ => by rw [h] <;> rfl) (fun cdv A outer s H E hr ds d ⟨c, h, hd⟩ => ?_)
  subst h hd
  have hx : ∀ k : Nat, k < 24 → atI ((xs c).map D.int) (k : Int) = some (.int (xk c k)) := fun k h => xk_at c h
  refine sd_cons (s1_asg 1 (d := .lst ((xs c).map D.int)) (PN.pd (pn_f FD hr (pa_cons (pd_v 0) (pa_cons pd_int (pa_cons (pd_pow pd_int pd_int) pa_nil))) ⟨c, 24, big, rfl, by decide, by decide, by decide, by rw [xs_eq]⟩)) ?_ scV.nd)
  refine sd_cons (s1_asg 2 pd_str ?_ scV.nd)
  refine sd_cons (s1_asg 3 (pd_ixL (ds := szs.map .int) (PN.pd (pn_lst (pa_cons pd_int (pa_cons (pd_pow pd_int pd_int) (pa_cons (pd_pow pd_int pd_int) pa_nil))) (by decide))) (pd_mod (pd_int1 (pd_ixL (pd_v 1) pd_int (hx 0 (by decide))) mI) pd_int) (size_at c)) ?_ scV.nd)
  refine sd_cons (s1_asg 4 (pd_mod (pd_int1 (pd_ixL (pd_v 1) pd_int (hx 1 (by decide))) mI) (pd_v 3) (size_pos c)) ?_ scV.nd)
  refine sd_cons (s1_asg 5 (pd_mod (pd_int1 (pd_ixL (pd_v 1) pd_int (hx 2 (by decide))) mI) (pd_v 3) (size_pos c)) ?_ scV.nd)
  refine sd_cons (s1_asg 6 (pd_join (u := "") (ys := (cutI (xs c) (some 3) (some (4 + xk c 4 % 12))).map lett) pd_str (PD.is (PN.pd (pn_lc (emb := D.int) (own := [("_law_draw", 18)]) (cutI (xs c) (some 3) (some (4 + xk c 4 % 12))) (fun a => some (.str (lett a)))
    (PDI.is (it_l (PN.pd (pn_slL (ol := some 3) (oh := some (4 + xk c 4 % 12)) (pd_v 1) pd_int (pd_add pd_int (pd_mod (pd_int1 (pd_ixL (pd_v 1) pd_int (hx 4 (by decide))) mI) pd_int))))) (cut_map _ _ _))
    (fun a ha => ⟨_, [18], true, by simp, by simp, .str (lett a), fun _ => rfl, fun s2 H2 C2 cl fp => ⟨pg_n 18 scV.nd, rfl, fun _ => pd_ixS (x := letters) (pd_v 2) (pd_mod (pd_int1 (pd_v 18) mI) pd_int) let_len (lett_at a)⟩⟩) scV.nd blk1 (by have := cut_len c (some 3) (some (4 + xk c 4 % 12)); omega))) (by rw [fm_some, List.map_map] <;> rfl)) ?_) ?_ scV.nd)
  · rw [sum_lett, List.length_map]
    have := cut_len c (some 3) (some (4 + xk c 4 % 12))
    have e0 : (("" : Str)).length = 0 := rfl
    rw [e0]; omega
  refine sd_cons (s1_asg 7 (pd_tup (ds := pairL c) (pa_cons (pd_mod (pd_int1 (pd_ixL (pd_v 1) pd_int (hx 5 (by decide))) mI) pd_int) (pa_cons (pd_mod (pd_int1 (pd_ixL (pd_v 1) pd_int (hx 6 (by decide))) mI) pd_int) pa_nil)) (by simp [pairL])) ?_ scV.nd)
  refine sd_cons (s1_asg 8 (pd_catT (pd_v 7) (pd_tup (pa_cons (pd_mod (pd_int1 (pd_ixL (pd_v 1) pd_int (hx 7 (by decide))) mI) pd_int) pa_nil)) (by simp [pairL]) (by simp) (by simp [pairL])) ?_ scV.nd)
  refine sd_cons (s1_asg 9 (pd_tupleL (PD.is (PN.pd (pn_lc (emb := D.int) (own := [("_law_draw", 18)]) (cutI (xs c) (some 8) (some (10 + xk c 9 % 4))) (fun a => some (.int (a % 24)))
    (PDI.is (it_l (PN.pd (pn_slL (ol := some 8) (oh := some (10 + xk c 9 % 4)) (pd_v 1) pd_int (pd_add pd_int (pd_mod (pd_int1 (pd_ixL (pd_v 1) pd_int (hx 9 (by decide))) mI) pd_int))))) (cut_map _ _ _))
    (fun a ha => ⟨_, [18], true, by simp, by simp, .int (a % 24), fun _ => rfl, fun s2 H2 C2 cl fp => ⟨pg_n 18 scV.nd, rfl, fun _ => pd_mod (pd_int1 (pd_v 18) mI) pd_int⟩⟩) scV.nd blk2 (by have := cut_len c (some 8) (some (10 + xk c 9 % 4)); omega))) (congrArg D.lst (fm_some _ _))) mT) ?_ scV.nd)
  show SD _ _ [.sh (.int c), .sh (.lst ((xs c).map D.int)), .sh (.str letters), .sh (.int (size c)), .sh (.int (xk c 1 % size c)), .sh (.int (xk c 2 % size c)), .sh (.str (word c)), .sh (.tup (pairL c)), .sh (.tup (tripL c)), .sh (.tup (chainL c)), .no, .no, .no, .no, .no, .no, .no, .no, .no] _
  refine sd_cons (s1_asg 10 (pd_ixL (PN.pd (pn_lst (pa_cons (pd_v 4) (pa_cons pd_non pa_nil)))) (pd_mod (pd_int1 (pd_ixL (pd_v 1) pd_int (hx 14 (by decide))) mI) pd_int) (pick_at (n := 2) rfl (by decide))) ?_ scV.nd)
  refine sd_cons (s1_asg 11 (pd_ixL (PN.pd (pn_lst (pa_cons (pd_v 5) (pa_cons pd_non pa_nil)))) (pd_mod (pd_int1 (pd_ixL (pd_v 1) pd_int (hx 15 (by decide))) mI) pd_int) (pick_at (n := 2) rfl (by decide))) ?_ scV.nd)
  refine sd_cons (s1_asg 12 (pd_ixL (PN.pd (pn_lst (pa_cons (pd_v 7) (pa_cons (pd_v 8) pa_nil)))) (pd_mod (pd_int1 (pd_ixL (pd_v 1) pd_int (hx 16 (by decide))) mI) pd_int) (pick_at (n := 2) rfl (by decide))) ?_ scV.nd)
  refine sd_cons (s1_asg 13 (pd_mod (pd_int1 (pd_ixL (pd_v 1) pd_int (hx 18 (by decide))) mI) pd_int) ?_ scV.nd)
  refine sd_cons (s1_asg 14 (pd_ixL (PN.pd (pn_lst (pa_cons (pd_tup pa_nil) (pa_cons (pd_v 7) (pa_cons (pd_v 7) (pa_cons (pd_catT (ds := tripL c) (pd_v 8) (pd_tup (pa_cons (pd_mod (pd_int1 (pd_ixL (pd_v 1) pd_int (hx 19 (by decide))) mI) pd_int) pa_nil)) (by simp [tripL]) (by simp) (by simp [tripL, pairL])) pa_nil)))))) (pd_v 13) (pick_at (n := 4) rfl (by decide))) ?_ scV.nd)
  refine sd_cons (s1_asg 15 (pd_ixL (PN.pd (pn_lst (pa_cons pd_str (pa_cons pd_str (pa_cons pd_str (pa_cons pd_str pa_nil)))))) (pd_mod (pd_int1 (pd_ixL (pd_v 1) pd_int (hx 20 (by decide))) mI) pd_int) (pick_at (n := 4) rfl (by decide))) ?_ scV.nd)
  refine sd_cons (s1_asg 16 (pd_ixL (PN.pd (pn_lst (pa_cons pd_str (pa_cons pd_str (pa_cons pd_str (pa_cons pd_str pa_nil)))))) (pd_mod (pd_int1 (pd_ixL (pd_v 1) pd_int (hx 21 (by decide))) mI) pd_int) (pick_at (n := 4) rfl (by decide))) ?_ scV.nd)
  refine sd_cons (s1_asg 17 (PN.pd (pn_lst (pa_cons (pd_v 4) (pa_cons (pd_v 5) (pa_cons (pd_v 6) (pa_cons (pd_v 12) (pa_cons (pd_v 9) (pa_cons (pd_v 10) (pa_cons (pd_v 11) (pa_cons (pd_ixL (PN.pd (pn_lst (pa_cons (pd_v 7) (pa_cons pd_non pa_nil)))) (pd_mod (pd_int1 (pd_ixL (pd_v 1) pd_int (hx 17 (by decide))) mI) pd_int) (pick_at (n := 2) rfl (by decide))) pa_nil)))))))))) ?_ scV.nd)
  exact sd_one (s1_ret (PN.pd (pn_cat (pd_v 17) (PN.pd (pn_lst (pa_cons (pd_v 13) (pa_cons (pd_v 14) (pa_cons (pd_v 15) (pa_cons (pd_v 16) (pa_cons (pd_mod (pd_int1 (pd_ixL (pd_v 1) pd_int (hx 22 (by decide))) mI) pd_int) pa_nil))))))) (by simp))) rfl)
end
end Er
end

section
set_option autoImplicit false
set_option Elab.async false
set_option linter.all false
set_option maxRecDepth 100000
set_option maxHeartbeats 4000000
namespace Er
open PySem PySem.Spec PyProof.Rows L2 Pd
def tab : List (List (Str × Nat)) := [
  ([(("at" : Str), 5)] : List (Str × Nat)),
  ([(("kind" : Str), 0)] : List (Str × Nat)),
  ([(("word" : Str), 2)] : List (Str × Nat)),
  ([(("word" : Str), 11)] : List (Str × Nat)),
  ([(("bead" : Str), 0)] : List (Str × Nat)),
  ([(("bead" : Str), 0)] : List (Str × Nat)),
  ([(("bead" : Str), 0)] : List (Str × Nat)),
  ([(("left" : Str), 0), (("right" : Str), 1)] : List (Str × Nat)),
  ([] : List (Str × Nat)),
  ([] : List (Str × Nat)),
  ([] : List (Str × Nat)),
  ([(("at" : Str), 0)] : List (Str × Nat)),
  ([] : List (Str × Nat)),
  ([] : List (Str × Nat)),
  ([(("rule" : Str), 8), (("where" : Str), 9)] : List (Str × Nat)),
  ([] : List (Str × Nat)),
  ([(("gap" : Str), 0)] : List (Str × Nat)),
  ([(("least" : Str), 0), (("greatest" : Str), 1)] : List (Str × Nat)),
  ([(("where" : Str), 3)] : List (Str × Nat)),
  ([(("word" : Str), 10), (("bound" : Str), 0)] : List (Str × Nat)),
  ([(("below" : Str), 5), (("above" : Str), 6)] : List (Str × Nat)),
  ([(("count" : Str), 0)] : List (Str × Nat)),
  ([(("number" : Str), 0), (("count" : Str), 1)] : List (Str × Nat)),
  ([(("variety" : Str), 0)] : List (Str × Nat)),
  ([(("size" : Str), 0)] : List (Str × Nat)),
  ([(("at" : Str), 0)] : List (Str × Nat)),
  ([(("least" : Str), 0)] : List (Str × Nat)),
  ([(("least" : Str), 0)] : List (Str × Nat)),
  ([(("place" : Str), 0)] : List (Str × Nat)),
  ([(("at" : Str), 5)] : List (Str × Nat)),
  ([(("at" : Str), 0)] : List (Str × Nat)),
  ([(("at" : Str), 0)] : List (Str × Nat)),
  ([] : List (Str × Nat)),
  ([(("size" : Str), 0)] : List (Str × Nat)),
  ([(("chain" : Str), 4)] : List (Str × Nat)),
  ([(("at" : Str), 0)] : List (Str × Nat)),
  ([(("level" : Str), 12), (("where" : Str), 7)] : List (Str × Nat)),
  ([(("bead" : Str), 0)] : List (Str × Nat)),
  ([] : List (Str × Nat)),
  ([(("coins" : Str), 0)] : List (Str × Nat)),
  ([(("price" : Str), 0), (("coins" : Str), 1)] : List (Str × Nat)),
  ([(("name" : Str), 2)] : List (Str × Nat)),
  ([(("name" : Str), 2)] : List (Str × Nat)),
  ([] : List (Str × Nat)),
  ([(("name" : Str), 2)] : List (Str × Nat)),
  ([] : List (Str × Nat)),
  ([(("at" : Str), 0)] : List (Str × Nat)),
  ([(("line" : Str), 0)] : List (Str × Nat))]
def fl (k : Nat) : List (Str × Nat) := tab.getD k []
def vat (v : List D) (l : List (Str × Nat)) : List D := l.map fun p => v.getD p.2 .non
def fsOf (v : List D) (l : List (Str × Nat)) : List (Str × D) := (l.map fun p => (p.1, v.getD p.2 .non)).reverse
/-- what is known of the classes -/
structure Fx (P : Program) (w : World) (K : PySem.W.Frag) (mg : Str → Option Value) (base : Heap) (ca : Nat → Addr) (cM : Addr) : Prop where
  g0 : mg "BadStrand" = some (.ref (ca 0))
  d0 : DV P w K mg base "BadStrand" (ca 0) (gE1 "at")
  n0_at : PySem.W.findIn K (.ref (ca 0)) "at" = some none
  g1 : mg "BadKind" = some (.ref (ca 1))
  d1 : DV P w K mg base "BadKind" (ca 1) (gE1 "kind")
  n1_kind : PySem.W.findIn K (.ref (ca 1)) "kind" = some none
  g2 : mg "BadMark" = some (.ref (ca 2))
  d2 : DV P w K mg base "BadMark" (ca 2) (gE1 "word")
  n2_word : PySem.W.findIn K (.ref (ca 2)) "word" = some none
  g3 : mg "BadPrice" = some (.ref (ca 3))
  d3 : DV P w K mg base "BadPrice" (ca 3) (gE1 "word")
  n3_word : PySem.W.findIn K (.ref (ca 3)) "word" = some none
  g4 : mg "NoSuchBead" = some (.ref (ca 4))
  d4 : DV P w K mg base "NoSuchBead" (ca 4) (gE1 "bead")
  n4_bead : PySem.W.findIn K (.ref (ca 4)) "bead" = some none
  g5 : mg "GoneBead" = some (.ref (ca 5))
  d5 : DV P w K mg base "GoneBead" (ca 5) (gE1 "bead")
  n5_bead : PySem.W.findIn K (.ref (ca 5)) "bead" = some none
  g6 : mg "EndBead" = some (.ref (ca 6))
  d6 : DV P w K mg base "EndBead" (ca 6) (gE1 "bead")
  n6_bead : PySem.W.findIn K (.ref (ca 6)) "bead" = some none
  g7 : mg "NotApart" = some (.ref (ca 7))
  d7 : DV P w K mg base "NotApart" (ca 7) (gE2 "left" "right")
  n7_left : PySem.W.findIn K (.ref (ca 7)) "left" = some none
  n7_right : PySem.W.findIn K (.ref (ca 7)) "right" = some none
  g8 : mg "RowFull" = some (.ref (ca 8))
  e8 : PySem.W.excIn K (ca 8) He.veBase "ValueError.__new__" = true
  k8 : PySem.W.keepIn K (.ref (ca 8)) = true
  g9 : mg "NothingToUndo" = some (.ref (ca 9))
  e9 : PySem.W.excIn K (ca 9) He.veBase "ValueError.__new__" = true
  k9 : PySem.W.keepIn K (.ref (ca 9)) = true
  g10 : mg "NothingToRedo" = some (.ref (ca 10))
  e10 : PySem.W.excIn K (ca 10) He.veBase "ValueError.__new__" = true
  k10 : PySem.W.keepIn K (.ref (ca 10)) = true
  g11 : mg "BadRun" = some (.ref (ca 11))
  d11 : DV P w K mg base "BadRun" (ca 11) (gE1 "at")
  n11_at : PySem.W.findIn K (.ref (ca 11)) "at" = some none
  g12 : mg "TwoLeft" = some (.ref (ca 12))
  e12 : PySem.W.excIn K (ca 12) He.veBase "ValueError.__new__" = true
  k12 : PySem.W.keepIn K (.ref (ca 12)) = true
  g13 : mg "NotDone" = some (.ref (ca 13))
  e13 : PySem.W.excIn K (ca 13) He.veBase "ValueError.__new__" = true
  k13 : PySem.W.keepIn K (.ref (ca 13)) = true
  g14 : mg "BadBook" = some (.ref (ca 14))
  d14 : DV P w K mg base "BadBook" (ca 14) (gE2 "rule" "where")
  n14_rule : PySem.W.findIn K (.ref (ca 14)) "rule" = some none
  n14_where : PySem.W.findIn K (.ref (ca 14)) "where" = some none
  g15 : mg "OtherStrand" = some (.ref (ca 15))
  e15 : PySem.W.excIn K (ca 15) He.veBase "ValueError.__new__" = true
  k15 : PySem.W.keepIn K (.ref (ca 15)) = true
  g16 : mg "NotGood" = some (.ref (ca 16))
  d16 : DV P w K mg base "NotGood" (ca 16) (gE1 "gap")
  n16_gap : PySem.W.findIn K (.ref (ca 16)) "gap" = some none
  g17 : mg "OutOfReach" = some (.ref (ca 17))
  d17 : DV P w K mg base "OutOfReach" (ca 17) (gE2 "least" "greatest")
  n17_least : PySem.W.findIn K (.ref (ca 17)) "least" = some none
  n17_greatest : PySem.W.findIn K (.ref (ca 17)) "greatest" = some none
  g18 : mg "BadFloors" = some (.ref (ca 18))
  d18 : DV P w K mg base "BadFloors" (ca 18) (gE1 "where")
  n18_where : PySem.W.findIn K (.ref (ca 18)) "where" = some none
  g19 : mg "CannotBe" = some (.ref (ca 19))
  d19 : DV P w K mg base "CannotBe" (ca 19) (gE2 "word" "bound")
  n19_word : PySem.W.findIn K (.ref (ca 19)) "word" = some none
  n19_bound : PySem.W.findIn K (.ref (ca 19)) "bound" = some none
  g20 : mg "NoSuchTotal" = some (.ref (ca 20))
  d20 : DV P w K mg base "NoSuchTotal" (ca 20) (gE2 "below" "above")
  n20_below : PySem.W.findIn K (.ref (ca 20)) "below" = some none
  n20_above : PySem.W.findIn K (.ref (ca 20)) "above" = some none
  g21 : mg "TooManyStretches" = some (.ref (ca 21))
  d21 : DV P w K mg base "TooManyStretches" (ca 21) (gE1 "count")
  n21_count : PySem.W.findIn K (.ref (ca 21)) "count" = some none
  g22 : mg "NoSuchNumber" = some (.ref (ca 22))
  d22 : DV P w K mg base "NoSuchNumber" (ca 22) (gE2 "number" "count")
  n22_number : PySem.W.findIn K (.ref (ca 22)) "number" = some none
  n22_count : PySem.W.findIn K (.ref (ca 22)) "count" = some none
  g23 : mg "NotTwoKinds" = some (.ref (ca 23))
  d23 : DV P w K mg base "NotTwoKinds" (ca 23) (gE1 "variety")
  n23_variety : PySem.W.findIn K (.ref (ca 23)) "variety" = some none
  g24 : mg "TooManyBeads" = some (.ref (ca 24))
  d24 : DV P w K mg base "TooManyBeads" (ca 24) (gE1 "size")
  n24_size : PySem.W.findIn K (.ref (ca 24)) "size" = some none
  g25 : mg "BadLeft" = some (.ref (ca 25))
  d25 : DV P w K mg base "BadLeft" (ca 25) (gE1 "at")
  n25_at : PySem.W.findIn K (.ref (ca 25)) "at" = some none
  g26 : mg "NotEnough" = some (.ref (ca 26))
  d26 : DV P w K mg base "NotEnough" (ca 26) (gE1 "least")
  n26_least : PySem.W.findIn K (.ref (ca 26)) "least" = some none
  g27 : mg "NotFree" = some (.ref (ca 27))
  d27 : DV P w K mg base "NotFree" (ca 27) (gE1 "least")
  n27_least : PySem.W.findIn K (.ref (ca 27)) "least" = some none
  g28 : mg "BadPlace" = some (.ref (ca 28))
  d28 : DV P w K mg base "BadPlace" (ca 28) (gE1 "place")
  n28_place : PySem.W.findIn K (.ref (ca 28)) "place" = some none
  g29 : mg "BadLog" = some (.ref (ca 29))
  d29 : DV P w K mg base "BadLog" (ca 29) (gE1 "at")
  n29_at : PySem.W.findIn K (.ref (ca 29)) "at" = some none
  g30 : mg "NoFit" = some (.ref (ca 30))
  d30 : DV P w K mg base "NoFit" (ca 30) (gE1 "at")
  n30_at : PySem.W.findIn K (.ref (ca 30)) "at" = some none
  g31 : mg "BadText" = some (.ref (ca 31))
  d31 : DV P w K mg base "BadText" (ca 31) (gE1 "at")
  n31_at : PySem.W.findIn K (.ref (ca 31)) "at" = some none
  g32 : mg "NoSuchTally" = some (.ref (ca 32))
  e32 : PySem.W.excIn K (ca 32) He.veBase "ValueError.__new__" = true
  k32 : PySem.W.keepIn K (.ref (ca 32)) = true
  g33 : mg "BadSize" = some (.ref (ca 33))
  d33 : DV P w K mg base "BadSize" (ca 33) (gE1 "size")
  n33_size : PySem.W.findIn K (.ref (ca 33)) "size" = some none
  g34 : mg "Clash" = some (.ref (ca 34))
  d34 : DV P w K mg base "Clash" (ca 34) (gE1 "chain")
  n34_chain : PySem.W.findIn K (.ref (ca 34)) "chain" = some none
  g35 : mg "BadJoin" = some (.ref (ca 35))
  d35 : DV P w K mg base "BadJoin" (ca 35) (gE1 "at")
  n35_at : PySem.W.findIn K (.ref (ca 35)) "at" = some none
  g36 : mg "NotNested" = some (.ref (ca 36))
  d36 : DV P w K mg base "NotNested" (ca 36) (gE2 "level" "where")
  n36_level : PySem.W.findIn K (.ref (ca 36)) "level" = some none
  n36_where : PySem.W.findIn K (.ref (ca 36)) "where" = some none
  g37 : mg "QuietMove" = some (.ref (ca 37))
  d37 : DV P w K mg base "QuietMove" (ca 37) (gE1 "bead")
  n37_bead : PySem.W.findIn K (.ref (ca 37)) "bead" = some none
  g38 : mg "BadClaim" = some (.ref (ca 38))
  e38 : PySem.W.excIn K (ca 38) He.veBase "ValueError.__new__" = true
  k38 : PySem.W.keepIn K (.ref (ca 38)) = true
  g39 : mg "BadCoins" = some (.ref (ca 39))
  d39 : DV P w K mg base "BadCoins" (ca 39) (gE1 "coins")
  n39_coins : PySem.W.findIn K (.ref (ca 39)) "coins" = some none
  g40 : mg "NoCoins" = some (.ref (ca 40))
  d40 : DV P w K mg base "NoCoins" (ca 40) (gE2 "price" "coins")
  n40_price : PySem.W.findIn K (.ref (ca 40)) "price" = some none
  n40_coins : PySem.W.findIn K (.ref (ca 40)) "coins" = some none
  g41 : mg "BadName" = some (.ref (ca 41))
  d41 : DV P w K mg base "BadName" (ca 41) (gE1 "name")
  n41_name : PySem.W.findIn K (.ref (ca 41)) "name" = some none
  g42 : mg "NameTaken" = some (.ref (ca 42))
  d42 : DV P w K mg base "NameTaken" (ca 42) (gE1 "name")
  n42_name : PySem.W.findIn K (.ref (ca 42)) "name" = some none
  g43 : mg "DeskFull" = some (.ref (ca 43))
  e43 : PySem.W.excIn K (ca 43) He.veBase "ValueError.__new__" = true
  k43 : PySem.W.keepIn K (.ref (ca 43)) = true
  g44 : mg "NoSuchRow" = some (.ref (ca 44))
  d44 : DV P w K mg base "NoSuchRow" (ca 44) (gE1 "name")
  n44_name : PySem.W.findIn K (.ref (ca 44)) "name" = some none
  g45 : mg "BadLine" = some (.ref (ca 45))
  e45 : PySem.W.excIn K (ca 45) He.veBase "ValueError.__new__" = true
  k45 : PySem.W.keepIn K (.ref (ca 45)) = true
  g46 : mg "Refused" = some (.ref (ca 46))
  d46 : DV P w K mg base "Refused" (ca 46) (gE1 "at")
  n46_at : PySem.W.findIn K (.ref (ca 46)) "at" = some none
  g47 : mg "BadJournal" = some (.ref (ca 47))
  d47 : DV P w K mg base "BadJournal" (ca 47) (gE1 "line")
  n47_line : PySem.W.findIn K (.ref (ca 47)) "line" = some none
  xf : ∀ k, k < 48 → XfC K (ca k)
  xc : ∀ k, k < 48 → ExcC K (ca k)
  kit : ∀ i j, i < 48 → j < 48 → PySem.W.kitOne K (.ref (ca i)) (.ref (ca j)) = some (i == j)
  kitM : ∀ i, i < 48 → PySem.W.kitOne K (.ref (ca i)) (.ref cM) = some true
  kitV : ∀ i, i < 48 → PySem.W.kitOne K (.ref (ca i)) (.type "ValueError") = some true
  gM : mg "MootError" = some (.ref cM)
def dMade (ca : Nat → Addr) (k : Nat) (v : List D) : D := .tup [.ev (ca k) (fsOf v (fl k)), .lst (vat v (fl k)), .lst (vat v (fl k))]
def gMade (ca : Nat → Addr) (lo : Nat) : List D → D → Prop := fun ds d => ∃ (k : Nat) (v : List D), ds = [.int (k : Int), .lst v] ∧ v.length = 13 ∧ lo ≤ k ∧ k < 48 ∧ d = dMade ca k v
abbrev sMade : Stmt := top 57
abbrev sMore : Stmt := top 58
abbrev sLast : Stmt := top 59
abbrev nM : List Str := ["_law_k", "_law_v", "_law_e"]
section
variable {P : Program} {w : World} {K : PySem.W.Frag} {mg : Str → Option Value} {base : Heap} {f cM : Addr} {fd : FuncData} {ca : Nat → Addr}
theorem v_at {v : List D} (hl : v.length = 13) {k : Nat} (h : k < 13) : atI v (k : Int) = some (v.getD k .non) := by
  have e : v[k]? = some (v.getD k .non) := by
    rw [List.getD_eq_getElem?_getD, List.getElem?_eq_getElem (by rw [hl]; exact h)] <;> rfl
  exact atI_nat e
theorem eq_of {k : Nat} {j : Int} {n : Nat} (hj : j = (n : Int)) (h : decide ((k : Int) = j) = true) : k = n := by
  have := of_decide_eq_true h
  omega
theorem ne_of {k : Nat} {j : Int} {n : Nat} (hj : j = (n : Int)) (h : decide ((k : Int) = j) = false) : k ≠ n := by
  have := of_decide_eq_false h
  omega
theorem sc_last : FnScope nM ["_law_k", "_law_v"] (defScope sLast) := ⟨rfl, rfl, rfl, by decide +kernel, rfl, by decide +kernel, by decide +kernel⟩
theorem ok_last (F : FnP K "_law_made_last" sLast f fd) (FX : Fx P w K mg base ca cM) : FnOk P w K mg base CX0 3 f fd ["_law_k", "_law_v"] (spD K (gMade ca 32)) := by
  have scN := sc_last
  refine fnD F sc_last (fun ds d ⟨k, v, h, _⟩ => by rw [h] <;> rfl) (fun cdv A outer s H E hr ds d ⟨k, v, h, hl, hlo, hhi, hd⟩ => ?_)
  subst h hd
  refine sd_cons (s1_if (pt_eqI (pd_v 0) pd_int) (fun h => ?_) fun h => sd_nil ?_)
  · obtain rfl : k = 32 := eq_of rfl h
    exact sd_cons (s1_asg 2 (pd_mkev0 FX.e32 FX.k32 FX.g32) (sd_one (s1_ret (pd_tup (pa_cons (pd_v 2) (pa_cons (PN.pd (pn_lst pa_nil)) (pa_cons (PN.pd (pn_lst pa_nil)) pa_nil)))) rfl)) scN.nd)
  have h32 := ne_of (n := 32) rfl h
  clear h
  refine sd_cons (s1_if (pt_eqI (pd_v 0) pd_int) (fun h => ?_) fun h => sd_nil ?_)
  · obtain rfl : k = 33 := eq_of rfl h
    exact sd_cons (s1_asg 2 (pd_mkev FX.d33 (hr.mono (by decide)) (pa_cons (pd_ixL (pd_v 1) pd_int (v_at (k := 0) hl (by decide))) pa_nil) ⟨_, rfl, rfl⟩) (sd_one (s1_ret (pd_tup (pa_cons (pd_v 2) (pa_cons (PN.pd (pn_lst (pa_cons (pd_evf (pd_v 2) (FX.xf 33 (by decide)) FX.n33_size rfl) pa_nil))) (pa_cons (PN.pd (pn_lst (pa_cons (pd_ixL (pd_v 1) pd_int (v_at (k := 0) hl (by decide))) pa_nil))) pa_nil)))) rfl)) scN.nd)
  have h33 := ne_of (n := 33) rfl h
  clear h
  refine sd_cons (s1_if (pt_eqI (pd_v 0) pd_int) (fun h => ?_) fun h => sd_nil ?_)
  · obtain rfl : k = 34 := eq_of rfl h
    exact sd_cons (s1_asg 2 (pd_mkev FX.d34 (hr.mono (by decide)) (pa_cons (pd_ixL (pd_v 1) pd_int (v_at (k := 4) hl (by decide))) pa_nil) ⟨_, rfl, rfl⟩) (sd_one (s1_ret (pd_tup (pa_cons (pd_v 2) (pa_cons (PN.pd (pn_lst (pa_cons (pd_evf (pd_v 2) (FX.xf 34 (by decide)) FX.n34_chain rfl) pa_nil))) (pa_cons (PN.pd (pn_lst (pa_cons (pd_ixL (pd_v 1) pd_int (v_at (k := 4) hl (by decide))) pa_nil))) pa_nil)))) rfl)) scN.nd)
  have h34 := ne_of (n := 34) rfl h
  clear h
  refine sd_cons (s1_if (pt_eqI (pd_v 0) pd_int) (fun h => ?_) fun h => sd_nil ?_)
  · obtain rfl : k = 35 := eq_of rfl h
    exact sd_cons (s1_asg 2 (pd_mkev FX.d35 (hr.mono (by decide)) (pa_cons (pd_ixL (pd_v 1) pd_int (v_at (k := 0) hl (by decide))) pa_nil) ⟨_, rfl, rfl⟩) (sd_one (s1_ret (pd_tup (pa_cons (pd_v 2) (pa_cons (PN.pd (pn_lst (pa_cons (pd_evf (pd_v 2) (FX.xf 35 (by decide)) FX.n35_at rfl) pa_nil))) (pa_cons (PN.pd (pn_lst (pa_cons (pd_ixL (pd_v 1) pd_int (v_at (k := 0) hl (by decide))) pa_nil))) pa_nil)))) rfl)) scN.nd)
  have h35 := ne_of (n := 35) rfl h
  clear h
  refine sd_cons (s1_if (pt_eqI (pd_v 0) pd_int) (fun h => ?_) fun h => sd_nil ?_)
  · obtain rfl : k = 36 := eq_of rfl h
    exact sd_cons (s1_asg 2 (pd_mkev FX.d36 (hr.mono (by decide)) (pa_cons (pd_ixL (pd_v 1) pd_int (v_at (k := 12) hl (by decide))) (pa_cons (pd_ixL (pd_v 1) pd_int (v_at (k := 7) hl (by decide))) pa_nil)) ⟨_, _, rfl, rfl⟩) (sd_one (s1_ret (pd_tup (pa_cons (pd_v 2) (pa_cons (PN.pd (pn_lst (pa_cons (pd_evf (pd_v 2) (FX.xf 36 (by decide)) FX.n36_level rfl) (pa_cons (pd_evf (pd_v 2) (FX.xf 36 (by decide)) FX.n36_where rfl) pa_nil)))) (pa_cons (PN.pd (pn_lst (pa_cons (pd_ixL (pd_v 1) pd_int (v_at (k := 12) hl (by decide))) (pa_cons (pd_ixL (pd_v 1) pd_int (v_at (k := 7) hl (by decide))) pa_nil)))) pa_nil)))) rfl)) scN.nd)
  have h36 := ne_of (n := 36) rfl h
  clear h
  refine sd_cons (s1_if (pt_eqI (pd_v 0) pd_int) (fun h => ?_) fun h => sd_nil ?_)
  · obtain rfl : k = 37 := eq_of rfl h
    exact sd_cons (s1_asg 2 (pd_mkev FX.d37 (hr.mono (by decide)) (pa_cons (pd_ixL (pd_v 1) pd_int (v_at (k := 0) hl (by decide))) pa_nil) ⟨_, rfl, rfl⟩) (sd_one (s1_ret (pd_tup (pa_cons (pd_v 2) (pa_cons (PN.pd (pn_lst (pa_cons (pd_evf (pd_v 2) (FX.xf 37 (by decide)) FX.n37_bead rfl) pa_nil))) (pa_cons (PN.pd (pn_lst (pa_cons (pd_ixL (pd_v 1) pd_int (v_at (k := 0) hl (by decide))) pa_nil))) pa_nil)))) rfl)) scN.nd)
  have h37 := ne_of (n := 37) rfl h
  clear h
  refine sd_cons (s1_if (pt_eqI (pd_v 0) pd_int) (fun h => ?_) fun h => sd_nil ?_)
  · obtain rfl : k = 38 := eq_of rfl h
    exact sd_cons (s1_asg 2 (pd_mkev0 FX.e38 FX.k38 FX.g38) (sd_one (s1_ret (pd_tup (pa_cons (pd_v 2) (pa_cons (PN.pd (pn_lst pa_nil)) (pa_cons (PN.pd (pn_lst pa_nil)) pa_nil)))) rfl)) scN.nd)
  have h38 := ne_of (n := 38) rfl h
  clear h
  refine sd_cons (s1_if (pt_eqI (pd_v 0) pd_int) (fun h => ?_) fun h => sd_nil ?_)
  · obtain rfl : k = 39 := eq_of rfl h
    exact sd_cons (s1_asg 2 (pd_mkev FX.d39 (hr.mono (by decide)) (pa_cons (pd_ixL (pd_v 1) pd_int (v_at (k := 0) hl (by decide))) pa_nil) ⟨_, rfl, rfl⟩) (sd_one (s1_ret (pd_tup (pa_cons (pd_v 2) (pa_cons (PN.pd (pn_lst (pa_cons (pd_evf (pd_v 2) (FX.xf 39 (by decide)) FX.n39_coins rfl) pa_nil))) (pa_cons (PN.pd (pn_lst (pa_cons (pd_ixL (pd_v 1) pd_int (v_at (k := 0) hl (by decide))) pa_nil))) pa_nil)))) rfl)) scN.nd)
  have h39 := ne_of (n := 39) rfl h
  clear h
  refine sd_cons (s1_if (pt_eqI (pd_v 0) pd_int) (fun h => ?_) fun h => sd_nil ?_)
  · obtain rfl : k = 40 := eq_of rfl h
    exact sd_cons (s1_asg 2 (pd_mkev FX.d40 (hr.mono (by decide)) (pa_cons (pd_ixL (pd_v 1) pd_int (v_at (k := 0) hl (by decide))) (pa_cons (pd_ixL (pd_v 1) pd_int (v_at (k := 1) hl (by decide))) pa_nil)) ⟨_, _, rfl, rfl⟩) (sd_one (s1_ret (pd_tup (pa_cons (pd_v 2) (pa_cons (PN.pd (pn_lst (pa_cons (pd_evf (pd_v 2) (FX.xf 40 (by decide)) FX.n40_price rfl) (pa_cons (pd_evf (pd_v 2) (FX.xf 40 (by decide)) FX.n40_coins rfl) pa_nil)))) (pa_cons (PN.pd (pn_lst (pa_cons (pd_ixL (pd_v 1) pd_int (v_at (k := 0) hl (by decide))) (pa_cons (pd_ixL (pd_v 1) pd_int (v_at (k := 1) hl (by decide))) pa_nil)))) pa_nil)))) rfl)) scN.nd)
  have h40 := ne_of (n := 40) rfl h
  clear h
  refine sd_cons (s1_if (pt_eqI (pd_v 0) pd_int) (fun h => ?_) fun h => sd_nil ?_)
  · obtain rfl : k = 41 := eq_of rfl h
    exact sd_cons (s1_asg 2 (pd_mkev FX.d41 (hr.mono (by decide)) (pa_cons (pd_ixL (pd_v 1) pd_int (v_at (k := 2) hl (by decide))) pa_nil) ⟨_, rfl, rfl⟩) (sd_one (s1_ret (pd_tup (pa_cons (pd_v 2) (pa_cons (PN.pd (pn_lst (pa_cons (pd_evf (pd_v 2) (FX.xf 41 (by decide)) FX.n41_name rfl) pa_nil))) (pa_cons (PN.pd (pn_lst (pa_cons (pd_ixL (pd_v 1) pd_int (v_at (k := 2) hl (by decide))) pa_nil))) pa_nil)))) rfl)) scN.nd)
  have h41 := ne_of (n := 41) rfl h
  clear h
  refine sd_cons (s1_if (pt_eqI (pd_v 0) pd_int) (fun h => ?_) fun h => sd_nil ?_)
  · obtain rfl : k = 42 := eq_of rfl h
    exact sd_cons (s1_asg 2 (pd_mkev FX.d42 (hr.mono (by decide)) (pa_cons (pd_ixL (pd_v 1) pd_int (v_at (k := 2) hl (by decide))) pa_nil) ⟨_, rfl, rfl⟩) (sd_one (s1_ret (pd_tup (pa_cons (pd_v 2) (pa_cons (PN.pd (pn_lst (pa_cons (pd_evf (pd_v 2) (FX.xf 42 (by decide)) FX.n42_name rfl) pa_nil))) (pa_cons (PN.pd (pn_lst (pa_cons (pd_ixL (pd_v 1) pd_int (v_at (k := 2) hl (by decide))) pa_nil))) pa_nil)))) rfl)) scN.nd)
  have h42 := ne_of (n := 42) rfl h
  clear h
  refine sd_cons (s1_if (pt_eqI (pd_v 0) pd_int) (fun h => ?_) fun h => sd_nil ?_)
  · obtain rfl : k = 43 := eq_of rfl h
    exact sd_cons (s1_asg 2 (pd_mkev0 FX.e43 FX.k43 FX.g43) (sd_one (s1_ret (pd_tup (pa_cons (pd_v 2) (pa_cons (PN.pd (pn_lst pa_nil)) (pa_cons (PN.pd (pn_lst pa_nil)) pa_nil)))) rfl)) scN.nd)
  have h43 := ne_of (n := 43) rfl h
  clear h
  refine sd_cons (s1_if (pt_eqI (pd_v 0) pd_int) (fun h => ?_) fun h => sd_nil ?_)
  · obtain rfl : k = 44 := eq_of rfl h
    exact sd_cons (s1_asg 2 (pd_mkev FX.d44 (hr.mono (by decide)) (pa_cons (pd_ixL (pd_v 1) pd_int (v_at (k := 2) hl (by decide))) pa_nil) ⟨_, rfl, rfl⟩) (sd_one (s1_ret (pd_tup (pa_cons (pd_v 2) (pa_cons (PN.pd (pn_lst (pa_cons (pd_evf (pd_v 2) (FX.xf 44 (by decide)) FX.n44_name rfl) pa_nil))) (pa_cons (PN.pd (pn_lst (pa_cons (pd_ixL (pd_v 1) pd_int (v_at (k := 2) hl (by decide))) pa_nil))) pa_nil)))) rfl)) scN.nd)
  have h44 := ne_of (n := 44) rfl h
  clear h
  refine sd_cons (s1_if (pt_eqI (pd_v 0) pd_int) (fun h => ?_) fun h => sd_nil ?_)
  · obtain rfl : k = 45 := eq_of rfl h
    exact sd_cons (s1_asg 2 (pd_mkev0 FX.e45 FX.k45 FX.g45) (sd_one (s1_ret (pd_tup (pa_cons (pd_v 2) (pa_cons (PN.pd (pn_lst pa_nil)) (pa_cons (PN.pd (pn_lst pa_nil)) pa_nil)))) rfl)) scN.nd)
  have h45 := ne_of (n := 45) rfl h
  clear h
  refine sd_cons (s1_if (pt_eqI (pd_v 0) pd_int) (fun h => ?_) fun h => sd_nil ?_)
  · obtain rfl : k = 46 := eq_of rfl h
    exact sd_cons (s1_asg 2 (pd_mkev FX.d46 (hr.mono (by decide)) (pa_cons (pd_ixL (pd_v 1) pd_int (v_at (k := 0) hl (by decide))) pa_nil) ⟨_, rfl, rfl⟩) (sd_one (s1_ret (pd_tup (pa_cons (pd_v 2) (pa_cons (PN.pd (pn_lst (pa_cons (pd_evf (pd_v 2) (FX.xf 46 (by decide)) FX.n46_at rfl) pa_nil))) (pa_cons (PN.pd (pn_lst (pa_cons (pd_ixL (pd_v 1) pd_int (v_at (k := 0) hl (by decide))) pa_nil))) pa_nil)))) rfl)) scN.nd)
  have h46 := ne_of (n := 46) rfl h
  clear h
  refine sd_cons (s1_if (pt_eqI (pd_v 0) pd_int) (fun h => ?_) fun h => sd_nil ?_)
  · obtain rfl : k = 47 := eq_of rfl h
    exact sd_cons (s1_asg 2 (pd_mkev FX.d47 (hr.mono (by decide)) (pa_cons (pd_ixL (pd_v 1) pd_int (v_at (k := 0) hl (by decide))) pa_nil) ⟨_, rfl, rfl⟩) (sd_one (s1_ret (pd_tup (pa_cons (pd_v 2) (pa_cons (PN.pd (pn_lst (pa_cons (pd_evf (pd_v 2) (FX.xf 47 (by decide)) FX.n47_line rfl) pa_nil))) (pa_cons (PN.pd (pn_lst (pa_cons (pd_ixL (pd_v 1) pd_int (v_at (k := 0) hl (by decide))) pa_nil))) pa_nil)))) rfl)) scN.nd)
  have h47 := ne_of (n := 47) rfl h
  clear h
  exfalso; omega
theorem sc_more : FnScope nM ["_law_k", "_law_v"] (defScope sMore) := ⟨rfl, rfl, rfl, by decide +kernel, rfl, by decide +kernel, by decide +kernel⟩
theorem ok_more (F : FnP K "_law_made_more" sMore f fd) (FX : Fx P w K mg base ca cM) (FN : DF P w K mg base 3 "_law_made_last" (spD K (gMade ca 32))) : FnOk P w K mg base CX0 4 f fd ["_law_k", "_law_v"] (spD K (gMade ca 16)) := by
  have scN := sc_more
  refine fnD F sc_more (fun ds d ⟨k, v, h, _⟩ => by rw [h] <;> rfl) (fun cdv A outer s H E hr ds d ⟨k, v, h, hl, hlo, hhi, hd⟩ => ?_)
  subst h hd
  refine sd_cons (s1_if (pt_eqI (pd_v 0) pd_int) (fun h => ?_) fun h => sd_nil ?_)
  · obtain rfl : k = 16 := eq_of rfl h
    exact sd_cons (s1_asg 2 (pd_mkev FX.d16 (hr.mono (by decide)) (pa_cons (pd_ixL (pd_v 1) pd_int (v_at (k := 0) hl (by decide))) pa_nil) ⟨_, rfl, rfl⟩) (sd_one (s1_ret (pd_tup (pa_cons (pd_v 2) (pa_cons (PN.pd (pn_lst (pa_cons (pd_evf (pd_v 2) (FX.xf 16 (by decide)) FX.n16_gap rfl) pa_nil))) (pa_cons (PN.pd (pn_lst (pa_cons (pd_ixL (pd_v 1) pd_int (v_at (k := 0) hl (by decide))) pa_nil))) pa_nil)))) rfl)) scN.nd)
  have h16 := ne_of (n := 16) rfl h
  clear h
  refine sd_cons (s1_if (pt_eqI (pd_v 0) pd_int) (fun h => ?_) fun h => sd_nil ?_)
  · obtain rfl : k = 17 := eq_of rfl h
    exact sd_cons (s1_asg 2 (pd_mkev FX.d17 (hr.mono (by decide)) (pa_cons (pd_ixL (pd_v 1) pd_int (v_at (k := 0) hl (by decide))) (pa_cons (pd_ixL (pd_v 1) pd_int (v_at (k := 1) hl (by decide))) pa_nil)) ⟨_, _, rfl, rfl⟩) (sd_one (s1_ret (pd_tup (pa_cons (pd_v 2) (pa_cons (PN.pd (pn_lst (pa_cons (pd_evf (pd_v 2) (FX.xf 17 (by decide)) FX.n17_least rfl) (pa_cons (pd_evf (pd_v 2) (FX.xf 17 (by decide)) FX.n17_greatest rfl) pa_nil)))) (pa_cons (PN.pd (pn_lst (pa_cons (pd_ixL (pd_v 1) pd_int (v_at (k := 0) hl (by decide))) (pa_cons (pd_ixL (pd_v 1) pd_int (v_at (k := 1) hl (by decide))) pa_nil)))) pa_nil)))) rfl)) scN.nd)
  have h17 := ne_of (n := 17) rfl h
  clear h
  refine sd_cons (s1_if (pt_eqI (pd_v 0) pd_int) (fun h => ?_) fun h => sd_nil ?_)
  · obtain rfl : k = 18 := eq_of rfl h
    exact sd_cons (s1_asg 2 (pd_mkev FX.d18 (hr.mono (by decide)) (pa_cons (pd_ixL (pd_v 1) pd_int (v_at (k := 3) hl (by decide))) pa_nil) ⟨_, rfl, rfl⟩) (sd_one (s1_ret (pd_tup (pa_cons (pd_v 2) (pa_cons (PN.pd (pn_lst (pa_cons (pd_evf (pd_v 2) (FX.xf 18 (by decide)) FX.n18_where rfl) pa_nil))) (pa_cons (PN.pd (pn_lst (pa_cons (pd_ixL (pd_v 1) pd_int (v_at (k := 3) hl (by decide))) pa_nil))) pa_nil)))) rfl)) scN.nd)
  have h18 := ne_of (n := 18) rfl h
  clear h
  refine sd_cons (s1_if (pt_eqI (pd_v 0) pd_int) (fun h => ?_) fun h => sd_nil ?_)
  · obtain rfl : k = 19 := eq_of rfl h
    exact sd_cons (s1_asg 2 (pd_mkev FX.d19 (hr.mono (by decide)) (pa_cons (pd_ixL (pd_v 1) pd_int (v_at (k := 10) hl (by decide))) (pa_cons (pd_ixL (pd_v 1) pd_int (v_at (k := 0) hl (by decide))) pa_nil)) ⟨_, _, rfl, rfl⟩) (sd_one (s1_ret (pd_tup (pa_cons (pd_v 2) (pa_cons (PN.pd (pn_lst (pa_cons (pd_evf (pd_v 2) (FX.xf 19 (by decide)) FX.n19_word rfl) (pa_cons (pd_evf (pd_v 2) (FX.xf 19 (by decide)) FX.n19_bound rfl) pa_nil)))) (pa_cons (PN.pd (pn_lst (pa_cons (pd_ixL (pd_v 1) pd_int (v_at (k := 10) hl (by decide))) (pa_cons (pd_ixL (pd_v 1) pd_int (v_at (k := 0) hl (by decide))) pa_nil)))) pa_nil)))) rfl)) scN.nd)
  have h19 := ne_of (n := 19) rfl h
  clear h
  refine sd_cons (s1_if (pt_eqI (pd_v 0) pd_int) (fun h => ?_) fun h => sd_nil ?_)
  · obtain rfl : k = 20 := eq_of rfl h
    exact sd_cons (s1_asg 2 (pd_mkev FX.d20 (hr.mono (by decide)) (pa_cons (pd_ixL (pd_v 1) pd_int (v_at (k := 5) hl (by decide))) (pa_cons (pd_ixL (pd_v 1) pd_int (v_at (k := 6) hl (by decide))) pa_nil)) ⟨_, _, rfl, rfl⟩) (sd_one (s1_ret (pd_tup (pa_cons (pd_v 2) (pa_cons (PN.pd (pn_lst (pa_cons (pd_evf (pd_v 2) (FX.xf 20 (by decide)) FX.n20_below rfl) (pa_cons (pd_evf (pd_v 2) (FX.xf 20 (by decide)) FX.n20_above rfl) pa_nil)))) (pa_cons (PN.pd (pn_lst (pa_cons (pd_ixL (pd_v 1) pd_int (v_at (k := 5) hl (by decide))) (pa_cons (pd_ixL (pd_v 1) pd_int (v_at (k := 6) hl (by decide))) pa_nil)))) pa_nil)))) rfl)) scN.nd)
  have h20 := ne_of (n := 20) rfl h
  clear h
  refine sd_cons (s1_if (pt_eqI (pd_v 0) pd_int) (fun h => ?_) fun h => sd_nil ?_)
  · obtain rfl : k = 21 := eq_of rfl h
    exact sd_cons (s1_asg 2 (pd_mkev FX.d21 (hr.mono (by decide)) (pa_cons (pd_ixL (pd_v 1) pd_int (v_at (k := 0) hl (by decide))) pa_nil) ⟨_, rfl, rfl⟩) (sd_one (s1_ret (pd_tup (pa_cons (pd_v 2) (pa_cons (PN.pd (pn_lst (pa_cons (pd_evf (pd_v 2) (FX.xf 21 (by decide)) FX.n21_count rfl) pa_nil))) (pa_cons (PN.pd (pn_lst (pa_cons (pd_ixL (pd_v 1) pd_int (v_at (k := 0) hl (by decide))) pa_nil))) pa_nil)))) rfl)) scN.nd)
  have h21 := ne_of (n := 21) rfl h
  clear h
  refine sd_cons (s1_if (pt_eqI (pd_v 0) pd_int) (fun h => ?_) fun h => sd_nil ?_)
  · obtain rfl : k = 22 := eq_of rfl h
    exact sd_cons (s1_asg 2 (pd_mkev FX.d22 (hr.mono (by decide)) (pa_cons (pd_ixL (pd_v 1) pd_int (v_at (k := 0) hl (by decide))) (pa_cons (pd_ixL (pd_v 1) pd_int (v_at (k := 1) hl (by decide))) pa_nil)) ⟨_, _, rfl, rfl⟩) (sd_one (s1_ret (pd_tup (pa_cons (pd_v 2) (pa_cons (PN.pd (pn_lst (pa_cons (pd_evf (pd_v 2) (FX.xf 22 (by decide)) FX.n22_number rfl) (pa_cons (pd_evf (pd_v 2) (FX.xf 22 (by decide)) FX.n22_count rfl) pa_nil)))) (pa_cons (PN.pd (pn_lst (pa_cons (pd_ixL (pd_v 1) pd_int (v_at (k := 0) hl (by decide))) (pa_cons (pd_ixL (pd_v 1) pd_int (v_at (k := 1) hl (by decide))) pa_nil)))) pa_nil)))) rfl)) scN.nd)
  have h22 := ne_of (n := 22) rfl h
  clear h
  refine sd_cons (s1_if (pt_eqI (pd_v 0) pd_int) (fun h => ?_) fun h => sd_nil ?_)
  · obtain rfl : k = 23 := eq_of rfl h
    exact sd_cons (s1_asg 2 (pd_mkev FX.d23 (hr.mono (by decide)) (pa_cons (pd_ixL (pd_v 1) pd_int (v_at (k := 0) hl (by decide))) pa_nil) ⟨_, rfl, rfl⟩) (sd_one (s1_ret (pd_tup (pa_cons (pd_v 2) (pa_cons (PN.pd (pn_lst (pa_cons (pd_evf (pd_v 2) (FX.xf 23 (by decide)) FX.n23_variety rfl) pa_nil))) (pa_cons (PN.pd (pn_lst (pa_cons (pd_ixL (pd_v 1) pd_int (v_at (k := 0) hl (by decide))) pa_nil))) pa_nil)))) rfl)) scN.nd)
  have h23 := ne_of (n := 23) rfl h
  clear h
  refine sd_cons (s1_if (pt_eqI (pd_v 0) pd_int) (fun h => ?_) fun h => sd_nil ?_)
  · obtain rfl : k = 24 := eq_of rfl h
    exact sd_cons (s1_asg 2 (pd_mkev FX.d24 (hr.mono (by decide)) (pa_cons (pd_ixL (pd_v 1) pd_int (v_at (k := 0) hl (by decide))) pa_nil) ⟨_, rfl, rfl⟩) (sd_one (s1_ret (pd_tup (pa_cons (pd_v 2) (pa_cons (PN.pd (pn_lst (pa_cons (pd_evf (pd_v 2) (FX.xf 24 (by decide)) FX.n24_size rfl) pa_nil))) (pa_cons (PN.pd (pn_lst (pa_cons (pd_ixL (pd_v 1) pd_int (v_at (k := 0) hl (by decide))) pa_nil))) pa_nil)))) rfl)) scN.nd)
  have h24 := ne_of (n := 24) rfl h
  clear h
  refine sd_cons (s1_if (pt_eqI (pd_v 0) pd_int) (fun h => ?_) fun h => sd_nil ?_)
  · obtain rfl : k = 25 := eq_of rfl h
    exact sd_cons (s1_asg 2 (pd_mkev FX.d25 (hr.mono (by decide)) (pa_cons (pd_ixL (pd_v 1) pd_int (v_at (k := 0) hl (by decide))) pa_nil) ⟨_, rfl, rfl⟩) (sd_one (s1_ret (pd_tup (pa_cons (pd_v 2) (pa_cons (PN.pd (pn_lst (pa_cons (pd_evf (pd_v 2) (FX.xf 25 (by decide)) FX.n25_at rfl) pa_nil))) (pa_cons (PN.pd (pn_lst (pa_cons (pd_ixL (pd_v 1) pd_int (v_at (k := 0) hl (by decide))) pa_nil))) pa_nil)))) rfl)) scN.nd)
  have h25 := ne_of (n := 25) rfl h
  clear h
  refine sd_cons (s1_if (pt_eqI (pd_v 0) pd_int) (fun h => ?_) fun h => sd_nil ?_)
  · obtain rfl : k = 26 := eq_of rfl h
    exact sd_cons (s1_asg 2 (pd_mkev FX.d26 (hr.mono (by decide)) (pa_cons (pd_ixL (pd_v 1) pd_int (v_at (k := 0) hl (by decide))) pa_nil) ⟨_, rfl, rfl⟩) (sd_one (s1_ret (pd_tup (pa_cons (pd_v 2) (pa_cons (PN.pd (pn_lst (pa_cons (pd_evf (pd_v 2) (FX.xf 26 (by decide)) FX.n26_least rfl) pa_nil))) (pa_cons (PN.pd (pn_lst (pa_cons (pd_ixL (pd_v 1) pd_int (v_at (k := 0) hl (by decide))) pa_nil))) pa_nil)))) rfl)) scN.nd)
  have h26 := ne_of (n := 26) rfl h
  clear h
  refine sd_cons (s1_if (pt_eqI (pd_v 0) pd_int) (fun h => ?_) fun h => sd_nil ?_)
  · obtain rfl : k = 27 := eq_of rfl h
    exact sd_cons (s1_asg 2 (pd_mkev FX.d27 (hr.mono (by decide)) (pa_cons (pd_ixL (pd_v 1) pd_int (v_at (k := 0) hl (by decide))) pa_nil) ⟨_, rfl, rfl⟩) (sd_one (s1_ret (pd_tup (pa_cons (pd_v 2) (pa_cons (PN.pd (pn_lst (pa_cons (pd_evf (pd_v 2) (FX.xf 27 (by decide)) FX.n27_least rfl) pa_nil))) (pa_cons (PN.pd (pn_lst (pa_cons (pd_ixL (pd_v 1) pd_int (v_at (k := 0) hl (by decide))) pa_nil))) pa_nil)))) rfl)) scN.nd)
  have h27 := ne_of (n := 27) rfl h
  clear h
  refine sd_cons (s1_if (pt_eqI (pd_v 0) pd_int) (fun h => ?_) fun h => sd_nil ?_)
  · obtain rfl : k = 28 := eq_of rfl h
    exact sd_cons (s1_asg 2 (pd_mkev FX.d28 (hr.mono (by decide)) (pa_cons (pd_ixL (pd_v 1) pd_int (v_at (k := 0) hl (by decide))) pa_nil) ⟨_, rfl, rfl⟩) (sd_one (s1_ret (pd_tup (pa_cons (pd_v 2) (pa_cons (PN.pd (pn_lst (pa_cons (pd_evf (pd_v 2) (FX.xf 28 (by decide)) FX.n28_place rfl) pa_nil))) (pa_cons (PN.pd (pn_lst (pa_cons (pd_ixL (pd_v 1) pd_int (v_at (k := 0) hl (by decide))) pa_nil))) pa_nil)))) rfl)) scN.nd)
  have h28 := ne_of (n := 28) rfl h
  clear h
  refine sd_cons (s1_if (pt_eqI (pd_v 0) pd_int) (fun h => ?_) fun h => sd_nil ?_)
  · obtain rfl : k = 29 := eq_of rfl h
    exact sd_cons (s1_asg 2 (pd_mkev FX.d29 (hr.mono (by decide)) (pa_cons (pd_ixL (pd_v 1) pd_int (v_at (k := 5) hl (by decide))) pa_nil) ⟨_, rfl, rfl⟩) (sd_one (s1_ret (pd_tup (pa_cons (pd_v 2) (pa_cons (PN.pd (pn_lst (pa_cons (pd_evf (pd_v 2) (FX.xf 29 (by decide)) FX.n29_at rfl) pa_nil))) (pa_cons (PN.pd (pn_lst (pa_cons (pd_ixL (pd_v 1) pd_int (v_at (k := 5) hl (by decide))) pa_nil))) pa_nil)))) rfl)) scN.nd)
  have h29 := ne_of (n := 29) rfl h
  clear h
  refine sd_cons (s1_if (pt_eqI (pd_v 0) pd_int) (fun h => ?_) fun h => sd_nil ?_)
  · obtain rfl : k = 30 := eq_of rfl h
    exact sd_cons (s1_asg 2 (pd_mkev FX.d30 (hr.mono (by decide)) (pa_cons (pd_ixL (pd_v 1) pd_int (v_at (k := 0) hl (by decide))) pa_nil) ⟨_, rfl, rfl⟩) (sd_one (s1_ret (pd_tup (pa_cons (pd_v 2) (pa_cons (PN.pd (pn_lst (pa_cons (pd_evf (pd_v 2) (FX.xf 30 (by decide)) FX.n30_at rfl) pa_nil))) (pa_cons (PN.pd (pn_lst (pa_cons (pd_ixL (pd_v 1) pd_int (v_at (k := 0) hl (by decide))) pa_nil))) pa_nil)))) rfl)) scN.nd)
  have h30 := ne_of (n := 30) rfl h
  clear h
  refine sd_cons (s1_if (pt_eqI (pd_v 0) pd_int) (fun h => ?_) fun h => sd_nil ?_)
  · obtain rfl : k = 31 := eq_of rfl h
    exact sd_cons (s1_asg 2 (pd_mkev FX.d31 (hr.mono (by decide)) (pa_cons (pd_ixL (pd_v 1) pd_int (v_at (k := 0) hl (by decide))) pa_nil) ⟨_, rfl, rfl⟩) (sd_one (s1_ret (pd_tup (pa_cons (pd_v 2) (pa_cons (PN.pd (pn_lst (pa_cons (pd_evf (pd_v 2) (FX.xf 31 (by decide)) FX.n31_at rfl) pa_nil))) (pa_cons (PN.pd (pn_lst (pa_cons (pd_ixL (pd_v 1) pd_int (v_at (k := 0) hl (by decide))) pa_nil))) pa_nil)))) rfl)) scN.nd)
  have h31 := ne_of (n := 31) rfl h
  clear h
  exact sd_one (s1_ret (pd_f FN (hr.mono (by decide)) (pa_cons (pd_v 0) (pa_cons (pd_v 1) pa_nil)) ⟨k, v, rfl, hl, by omega, hhi, rfl⟩) rfl)
theorem sc_made : FnScope nM ["_law_k", "_law_v"] (defScope sMade) := ⟨rfl, rfl, rfl, by decide +kernel, rfl, by decide +kernel, by decide +kernel⟩
theorem ok_made (F : FnP K "_law_made" sMade f fd) (FX : Fx P w K mg base ca cM) (FN : DF P w K mg base 4 "_law_made_more" (spD K (gMade ca 16))) : FnOk P w K mg base CX0 5 f fd ["_law_k", "_law_v"] (spD K (gMade ca 0)) := by
  have scN := sc_made
  refine fnD F sc_made (fun ds d ⟨k, v, h, _⟩ => by rw [h] <;> rfl) (fun cdv A outer s H E hr ds d ⟨k, v, h, hl, hlo, hhi, hd⟩ => ?_)
  subst h hd
  refine sd_cons (s1_if (pt_eqI (pd_v 0) pd_int) (fun h => ?_) fun h => sd_nil ?_)
  · obtain rfl : k = 0 := eq_of rfl h
    exact sd_cons (s1_asg 2 (pd_mkev FX.d0 (hr.mono (by decide)) (pa_cons (pd_ixL (pd_v 1) pd_int (v_at (k := 5) hl (by decide))) pa_nil) ⟨_, rfl, rfl⟩) (sd_one (s1_ret (pd_tup (pa_cons (pd_v 2) (pa_cons (PN.pd (pn_lst (pa_cons (pd_evf (pd_v 2) (FX.xf 0 (by decide)) FX.n0_at rfl) pa_nil))) (pa_cons (PN.pd (pn_lst (pa_cons (pd_ixL (pd_v 1) pd_int (v_at (k := 5) hl (by decide))) pa_nil))) pa_nil)))) rfl)) scN.nd)
  have h0 := ne_of (n := 0) rfl h
  clear h
  refine sd_cons (s1_if (pt_eqI (pd_v 0) pd_int) (fun h => ?_) fun h => sd_nil ?_)
  · obtain rfl : k = 1 := eq_of rfl h
    exact sd_cons (s1_asg 2 (pd_mkev FX.d1 (hr.mono (by decide)) (pa_cons (pd_ixL (pd_v 1) pd_int (v_at (k := 0) hl (by decide))) pa_nil) ⟨_, rfl, rfl⟩) (sd_one (s1_ret (pd_tup (pa_cons (pd_v 2) (pa_cons (PN.pd (pn_lst (pa_cons (pd_evf (pd_v 2) (FX.xf 1 (by decide)) FX.n1_kind rfl) pa_nil))) (pa_cons (PN.pd (pn_lst (pa_cons (pd_ixL (pd_v 1) pd_int (v_at (k := 0) hl (by decide))) pa_nil))) pa_nil)))) rfl)) scN.nd)
  have h1 := ne_of (n := 1) rfl h
  clear h
  refine sd_cons (s1_if (pt_eqI (pd_v 0) pd_int) (fun h => ?_) fun h => sd_nil ?_)
  · obtain rfl : k = 2 := eq_of rfl h
    exact sd_cons (s1_asg 2 (pd_mkev FX.d2 (hr.mono (by decide)) (pa_cons (pd_ixL (pd_v 1) pd_int (v_at (k := 2) hl (by decide))) pa_nil) ⟨_, rfl, rfl⟩) (sd_one (s1_ret (pd_tup (pa_cons (pd_v 2) (pa_cons (PN.pd (pn_lst (pa_cons (pd_evf (pd_v 2) (FX.xf 2 (by decide)) FX.n2_word rfl) pa_nil))) (pa_cons (PN.pd (pn_lst (pa_cons (pd_ixL (pd_v 1) pd_int (v_at (k := 2) hl (by decide))) pa_nil))) pa_nil)))) rfl)) scN.nd)
  have h2 := ne_of (n := 2) rfl h
  clear h
  refine sd_cons (s1_if (pt_eqI (pd_v 0) pd_int) (fun h => ?_) fun h => sd_nil ?_)
  · obtain rfl : k = 3 := eq_of rfl h
    exact sd_cons (s1_asg 2 (pd_mkev FX.d3 (hr.mono (by decide)) (pa_cons (pd_ixL (pd_v 1) pd_int (v_at (k := 11) hl (by decide))) pa_nil) ⟨_, rfl, rfl⟩) (sd_one (s1_ret (pd_tup (pa_cons (pd_v 2) (pa_cons (PN.pd (pn_lst (pa_cons (pd_evf (pd_v 2) (FX.xf 3 (by decide)) FX.n3_word rfl) pa_nil))) (pa_cons (PN.pd (pn_lst (pa_cons (pd_ixL (pd_v 1) pd_int (v_at (k := 11) hl (by decide))) pa_nil))) pa_nil)))) rfl)) scN.nd)
  have h3 := ne_of (n := 3) rfl h
  clear h
  refine sd_cons (s1_if (pt_eqI (pd_v 0) pd_int) (fun h => ?_) fun h => sd_nil ?_)
  · obtain rfl : k = 4 := eq_of rfl h
    exact sd_cons (s1_asg 2 (pd_mkev FX.d4 (hr.mono (by decide)) (pa_cons (pd_ixL (pd_v 1) pd_int (v_at (k := 0) hl (by decide))) pa_nil) ⟨_, rfl, rfl⟩) (sd_one (s1_ret (pd_tup (pa_cons (pd_v 2) (pa_cons (PN.pd (pn_lst (pa_cons (pd_evf (pd_v 2) (FX.xf 4 (by decide)) FX.n4_bead rfl) pa_nil))) (pa_cons (PN.pd (pn_lst (pa_cons (pd_ixL (pd_v 1) pd_int (v_at (k := 0) hl (by decide))) pa_nil))) pa_nil)))) rfl)) scN.nd)
  have h4 := ne_of (n := 4) rfl h
  clear h
  refine sd_cons (s1_if (pt_eqI (pd_v 0) pd_int) (fun h => ?_) fun h => sd_nil ?_)
  · obtain rfl : k = 5 := eq_of rfl h
    exact sd_cons (s1_asg 2 (pd_mkev FX.d5 (hr.mono (by decide)) (pa_cons (pd_ixL (pd_v 1) pd_int (v_at (k := 0) hl (by decide))) pa_nil) ⟨_, rfl, rfl⟩) (sd_one (s1_ret (pd_tup (pa_cons (pd_v 2) (pa_cons (PN.pd (pn_lst (pa_cons (pd_evf (pd_v 2) (FX.xf 5 (by decide)) FX.n5_bead rfl) pa_nil))) (pa_cons (PN.pd (pn_lst (pa_cons (pd_ixL (pd_v 1) pd_int (v_at (k := 0) hl (by decide))) pa_nil))) pa_nil)))) rfl)) scN.nd)
  have h5 := ne_of (n := 5) rfl h
  clear h
  refine sd_cons (s1_if (pt_eqI (pd_v 0) pd_int) (fun h => ?_) fun h => sd_nil ?_)
  · obtain rfl : k = 6 := eq_of rfl h
    exact sd_cons (s1_asg 2 (pd_mkev FX.d6 (hr.mono (by decide)) (pa_cons (pd_ixL (pd_v 1) pd_int (v_at (k := 0) hl (by decide))) pa_nil) ⟨_, rfl, rfl⟩) (sd_one (s1_ret (pd_tup (pa_cons (pd_v 2) (pa_cons (PN.pd (pn_lst (pa_cons (pd_evf (pd_v 2) (FX.xf 6 (by decide)) FX.n6_bead rfl) pa_nil))) (pa_cons (PN.pd (pn_lst (pa_cons (pd_ixL (pd_v 1) pd_int (v_at (k := 0) hl (by decide))) pa_nil))) pa_nil)))) rfl)) scN.nd)
  have h6 := ne_of (n := 6) rfl h
  clear h
  refine sd_cons (s1_if (pt_eqI (pd_v 0) pd_int) (fun h => ?_) fun h => sd_nil ?_)
  · obtain rfl : k = 7 := eq_of rfl h
    exact sd_cons (s1_asg 2 (pd_mkev FX.d7 (hr.mono (by decide)) (pa_cons (pd_ixL (pd_v 1) pd_int (v_at (k := 0) hl (by decide))) (pa_cons (pd_ixL (pd_v 1) pd_int (v_at (k := 1) hl (by decide))) pa_nil)) ⟨_, _, rfl, rfl⟩) (sd_one (s1_ret (pd_tup (pa_cons (pd_v 2) (pa_cons (PN.pd (pn_lst (pa_cons (pd_evf (pd_v 2) (FX.xf 7 (by decide)) FX.n7_left rfl) (pa_cons (pd_evf (pd_v 2) (FX.xf 7 (by decide)) FX.n7_right rfl) pa_nil)))) (pa_cons (PN.pd (pn_lst (pa_cons (pd_ixL (pd_v 1) pd_int (v_at (k := 0) hl (by decide))) (pa_cons (pd_ixL (pd_v 1) pd_int (v_at (k := 1) hl (by decide))) pa_nil)))) pa_nil)))) rfl)) scN.nd)
  have h7 := ne_of (n := 7) rfl h
  clear h
  refine sd_cons (s1_if (pt_eqI (pd_v 0) pd_int) (fun h => ?_) fun h => sd_nil ?_)
  · obtain rfl : k = 8 := eq_of rfl h
    exact sd_cons (s1_asg 2 (pd_mkev0 FX.e8 FX.k8 FX.g8) (sd_one (s1_ret (pd_tup (pa_cons (pd_v 2) (pa_cons (PN.pd (pn_lst pa_nil)) (pa_cons (PN.pd (pn_lst pa_nil)) pa_nil)))) rfl)) scN.nd)
  have h8 := ne_of (n := 8) rfl h
  clear h
  refine sd_cons (s1_if (pt_eqI (pd_v 0) pd_int) (fun h => ?_) fun h => sd_nil ?_)
  · obtain rfl : k = 9 := eq_of rfl h
    exact sd_cons (s1_asg 2 (pd_mkev0 FX.e9 FX.k9 FX.g9) (sd_one (s1_ret (pd_tup (pa_cons (pd_v 2) (pa_cons (PN.pd (pn_lst pa_nil)) (pa_cons (PN.pd (pn_lst pa_nil)) pa_nil)))) rfl)) scN.nd)
  have h9 := ne_of (n := 9) rfl h
  clear h
  refine sd_cons (s1_if (pt_eqI (pd_v 0) pd_int) (fun h => ?_) fun h => sd_nil ?_)
  · obtain rfl : k = 10 := eq_of rfl h
    exact sd_cons (s1_asg 2 (pd_mkev0 FX.e10 FX.k10 FX.g10) (sd_one (s1_ret (pd_tup (pa_cons (pd_v 2) (pa_cons (PN.pd (pn_lst pa_nil)) (pa_cons (PN.pd (pn_lst pa_nil)) pa_nil)))) rfl)) scN.nd)
  have h10 := ne_of (n := 10) rfl h
  clear h
  refine sd_cons (s1_if (pt_eqI (pd_v 0) pd_int) (fun h => ?_) fun h => sd_nil ?_)
  · obtain rfl : k = 11 := eq_of rfl h
    exact sd_cons (s1_asg 2 (pd_mkev FX.d11 (hr.mono (by decide)) (pa_cons (pd_ixL (pd_v 1) pd_int (v_at (k := 0) hl (by decide))) pa_nil) ⟨_, rfl, rfl⟩) (sd_one (s1_ret (pd_tup (pa_cons (pd_v 2) (pa_cons (PN.pd (pn_lst (pa_cons (pd_evf (pd_v 2) (FX.xf 11 (by decide)) FX.n11_at rfl) pa_nil))) (pa_cons (PN.pd (pn_lst (pa_cons (pd_ixL (pd_v 1) pd_int (v_at (k := 0) hl (by decide))) pa_nil))) pa_nil)))) rfl)) scN.nd)
  have h11 := ne_of (n := 11) rfl h
  clear h
  refine sd_cons (s1_if (pt_eqI (pd_v 0) pd_int) (fun h => ?_) fun h => sd_nil ?_)
  · obtain rfl : k = 12 := eq_of rfl h
    exact sd_cons (s1_asg 2 (pd_mkev0 FX.e12 FX.k12 FX.g12) (sd_one (s1_ret (pd_tup (pa_cons (pd_v 2) (pa_cons (PN.pd (pn_lst pa_nil)) (pa_cons (PN.pd (pn_lst pa_nil)) pa_nil)))) rfl)) scN.nd)
  have h12 := ne_of (n := 12) rfl h
  clear h
  refine sd_cons (s1_if (pt_eqI (pd_v 0) pd_int) (fun h => ?_) fun h => sd_nil ?_)
  · obtain rfl : k = 13 := eq_of rfl h
    exact sd_cons (s1_asg 2 (pd_mkev0 FX.e13 FX.k13 FX.g13) (sd_one (s1_ret (pd_tup (pa_cons (pd_v 2) (pa_cons (PN.pd (pn_lst pa_nil)) (pa_cons (PN.pd (pn_lst pa_nil)) pa_nil)))) rfl)) scN.nd)
  have h13 := ne_of (n := 13) rfl h
  clear h
  refine sd_cons (s1_if (pt_eqI (pd_v 0) pd_int) (fun h => ?_) fun h => sd_nil ?_)
  · obtain rfl : k = 14 := eq_of rfl h
    exact sd_cons (s1_asg 2 (pd_mkev FX.d14 (hr.mono (by decide)) (pa_cons (pd_ixL (pd_v 1) pd_int (v_at (k := 8) hl (by decide))) (pa_cons (pd_ixL (pd_v 1) pd_int (v_at (k := 9) hl (by decide))) pa_nil)) ⟨_, _, rfl, rfl⟩) (sd_one (s1_ret (pd_tup (pa_cons (pd_v 2) (pa_cons (PN.pd (pn_lst (pa_cons (pd_evf (pd_v 2) (FX.xf 14 (by decide)) FX.n14_rule rfl) (pa_cons (pd_evf (pd_v 2) (FX.xf 14 (by decide)) FX.n14_where rfl) pa_nil)))) (pa_cons (PN.pd (pn_lst (pa_cons (pd_ixL (pd_v 1) pd_int (v_at (k := 8) hl (by decide))) (pa_cons (pd_ixL (pd_v 1) pd_int (v_at (k := 9) hl (by decide))) pa_nil)))) pa_nil)))) rfl)) scN.nd)
  have h14 := ne_of (n := 14) rfl h
  clear h
  refine sd_cons (s1_if (pt_eqI (pd_v 0) pd_int) (fun h => ?_) fun h => sd_nil ?_)
  · obtain rfl : k = 15 := eq_of rfl h
    exact sd_cons (s1_asg 2 (pd_mkev0 FX.e15 FX.k15 FX.g15) (sd_one (s1_ret (pd_tup (pa_cons (pd_v 2) (pa_cons (PN.pd (pn_lst pa_nil)) (pa_cons (PN.pd (pn_lst pa_nil)) pa_nil)))) rfl)) scN.nd)
  have h15 := ne_of (n := 15) rfl h
  clear h
  exact sd_one (s1_ret (pd_f FN (hr.mono (by decide)) (pa_cons (pd_v 0) (pa_cons (pd_v 1) pa_nil)) ⟨k, v, rfl, hl, by omega, hhi, rfl⟩) rfl)
end
end Er
end

section
set_option autoImplicit false
set_option Elab.async false
set_option linter.all false
set_option maxRecDepth 100000
set_option maxHeartbeats 4000000
namespace Er
open PySem PySem.Spec PyProof.Rows L2 Pd
abbrev sAns : Stmt := top 60
abbrev sHolds : Stmt := top 61
abbrev sLaw : Stmt := top 62
def ans (k : Nat) : List Bool := (List.range 48).map fun j => k == j
def gAns (ca : Nat → Addr) : List D → D → Prop := fun ds d => ∃ (k : Nat) (fs : List (Str × D)), ds = [.ev (ca k) fs] ∧ k < 48 ∧ d = .lst ((ans k).map .bl)
section
variable {P : Program} {w : World} {K : PySem.W.Frag} {mg : Str → Option Value} {base : Heap} {f cM : Addr} {fd : FuncData} {ca : Nat → Addr}
theorem scA : FnScope ["_law_e", "_law_told"] ["_law_e"] (defScope sAns) := ⟨rfl, rfl, rfl, by decide +kernel, rfl, by decide +kernel, by decide +kernel⟩
theorem ok_ans (F : FnP K "_law_answers" sAns f fd) (FX : Fx P w K mg base ca cM) (mI : mg "isinstance" = none) : FnOk P w K mg base CX0 1 f fd ["_law_e"] (spD K (gAns ca)) := by
  refine fnD F scA (fun ds d ⟨k, fs, h, _⟩ => by rw [h] <;> rfl) (fun cdv A outer s H E hr ds d ⟨k, fs, h, hk, hd⟩ => ?_)
  subst h hd
  refine sd_cons (s1_asg 1 (PN.pd (pn_lst (pa_cons (pd_isvC (q := k == 0) (pd_v 0) (FX.xc k hk) FX.g0 (FX.kit k 0 hk (by decide)) mI) (pa_cons (pd_isvC (q := k == 1) (pd_v 0) (FX.xc k hk) FX.g1 (FX.kit k 1 hk (by decide)) mI) (pa_cons (pd_isvC (q := k == 2) (pd_v 0) (FX.xc k hk) FX.g2 (FX.kit k 2 hk (by decide)) mI) (pa_cons (pd_isvC (q := k == 3) (pd_v 0) (FX.xc k hk) FX.g3 (FX.kit k 3 hk (by decide)) mI) pa_nil)))))) ?_ scA.nd)
  refine sd_cons (s1_asg 1 (PN.pd (pn_cat (pd_v 1) (PN.pd (pn_lst (pa_cons (pd_isvC (q := k == 4) (pd_v 0) (FX.xc k hk) FX.g4 (FX.kit k 4 hk (by decide)) mI) (pa_cons (pd_isvC (q := k == 5) (pd_v 0) (FX.xc k hk) FX.g5 (FX.kit k 5 hk (by decide)) mI) (pa_cons (pd_isvC (q := k == 6) (pd_v 0) (FX.xc k hk) FX.g6 (FX.kit k 6 hk (by decide)) mI) (pa_cons (pd_isvC (q := k == 7) (pd_v 0) (FX.xc k hk) FX.g7 (FX.kit k 7 hk (by decide)) mI) pa_nil)))))) (by simp))) ?_ scA.nd)
  refine sd_cons (s1_asg 1 (PN.pd (pn_cat (pd_v 1) (PN.pd (pn_lst (pa_cons (pd_isvC (q := k == 8) (pd_v 0) (FX.xc k hk) FX.g8 (FX.kit k 8 hk (by decide)) mI) (pa_cons (pd_isvC (q := k == 9) (pd_v 0) (FX.xc k hk) FX.g9 (FX.kit k 9 hk (by decide)) mI) (pa_cons (pd_isvC (q := k == 10) (pd_v 0) (FX.xc k hk) FX.g10 (FX.kit k 10 hk (by decide)) mI) (pa_cons (pd_isvC (q := k == 11) (pd_v 0) (FX.xc k hk) FX.g11 (FX.kit k 11 hk (by decide)) mI) pa_nil)))))) (by simp))) ?_ scA.nd)
  refine sd_cons (s1_asg 1 (PN.pd (pn_cat (pd_v 1) (PN.pd (pn_lst (pa_cons (pd_isvC (q := k == 12) (pd_v 0) (FX.xc k hk) FX.g12 (FX.kit k 12 hk (by decide)) mI) (pa_cons (pd_isvC (q := k == 13) (pd_v 0) (FX.xc k hk) FX.g13 (FX.kit k 13 hk (by decide)) mI) (pa_cons (pd_isvC (q := k == 14) (pd_v 0) (FX.xc k hk) FX.g14 (FX.kit k 14 hk (by decide)) mI) (pa_cons (pd_isvC (q := k == 15) (pd_v 0) (FX.xc k hk) FX.g15 (FX.kit k 15 hk (by decide)) mI) pa_nil)))))) (by simp))) ?_ scA.nd)
  refine sd_cons (s1_asg 1 (PN.pd (pn_cat (pd_v 1) (PN.pd (pn_lst (pa_cons (pd_isvC (q := k == 16) (pd_v 0) (FX.xc k hk) FX.g16 (FX.kit k 16 hk (by decide)) mI) (pa_cons (pd_isvC (q := k == 17) (pd_v 0) (FX.xc k hk) FX.g17 (FX.kit k 17 hk (by decide)) mI) (pa_cons (pd_isvC (q := k == 18) (pd_v 0) (FX.xc k hk) FX.g18 (FX.kit k 18 hk (by decide)) mI) (pa_cons (pd_isvC (q := k == 19) (pd_v 0) (FX.xc k hk) FX.g19 (FX.kit k 19 hk (by decide)) mI) pa_nil)))))) (by simp))) ?_ scA.nd)
  refine sd_cons (s1_asg 1 (PN.pd (pn_cat (pd_v 1) (PN.pd (pn_lst (pa_cons (pd_isvC (q := k == 20) (pd_v 0) (FX.xc k hk) FX.g20 (FX.kit k 20 hk (by decide)) mI) (pa_cons (pd_isvC (q := k == 21) (pd_v 0) (FX.xc k hk) FX.g21 (FX.kit k 21 hk (by decide)) mI) (pa_cons (pd_isvC (q := k == 22) (pd_v 0) (FX.xc k hk) FX.g22 (FX.kit k 22 hk (by decide)) mI) (pa_cons (pd_isvC (q := k == 23) (pd_v 0) (FX.xc k hk) FX.g23 (FX.kit k 23 hk (by decide)) mI) pa_nil)))))) (by simp))) ?_ scA.nd)
  refine sd_cons (s1_asg 1 (PN.pd (pn_cat (pd_v 1) (PN.pd (pn_lst (pa_cons (pd_isvC (q := k == 24) (pd_v 0) (FX.xc k hk) FX.g24 (FX.kit k 24 hk (by decide)) mI) (pa_cons (pd_isvC (q := k == 25) (pd_v 0) (FX.xc k hk) FX.g25 (FX.kit k 25 hk (by decide)) mI) (pa_cons (pd_isvC (q := k == 26) (pd_v 0) (FX.xc k hk) FX.g26 (FX.kit k 26 hk (by decide)) mI) (pa_cons (pd_isvC (q := k == 27) (pd_v 0) (FX.xc k hk) FX.g27 (FX.kit k 27 hk (by decide)) mI) pa_nil)))))) (by simp))) ?_ scA.nd)
  refine sd_cons (s1_asg 1 (PN.pd (pn_cat (pd_v 1) (PN.pd (pn_lst (pa_cons (pd_isvC (q := k == 28) (pd_v 0) (FX.xc k hk) FX.g28 (FX.kit k 28 hk (by decide)) mI) (pa_cons (pd_isvC (q := k == 29) (pd_v 0) (FX.xc k hk) FX.g29 (FX.kit k 29 hk (by decide)) mI) (pa_cons (pd_isvC (q := k == 30) (pd_v 0) (FX.xc k hk) FX.g30 (FX.kit k 30 hk (by decide)) mI) (pa_cons (pd_isvC (q := k == 31) (pd_v 0) (FX.xc k hk) FX.g31 (FX.kit k 31 hk (by decide)) mI) pa_nil)))))) (by simp))) ?_ scA.nd)
  refine sd_cons (s1_asg 1 (PN.pd (pn_cat (pd_v 1) (PN.pd (pn_lst (pa_cons (pd_isvC (q := k == 32) (pd_v 0) (FX.xc k hk) FX.g32 (FX.kit k 32 hk (by decide)) mI) (pa_cons (pd_isvC (q := k == 33) (pd_v 0) (FX.xc k hk) FX.g33 (FX.kit k 33 hk (by decide)) mI) (pa_cons (pd_isvC (q := k == 34) (pd_v 0) (FX.xc k hk) FX.g34 (FX.kit k 34 hk (by decide)) mI) (pa_cons (pd_isvC (q := k == 35) (pd_v 0) (FX.xc k hk) FX.g35 (FX.kit k 35 hk (by decide)) mI) pa_nil)))))) (by simp))) ?_ scA.nd)
  refine sd_cons (s1_asg 1 (PN.pd (pn_cat (pd_v 1) (PN.pd (pn_lst (pa_cons (pd_isvC (q := k == 36) (pd_v 0) (FX.xc k hk) FX.g36 (FX.kit k 36 hk (by decide)) mI) (pa_cons (pd_isvC (q := k == 37) (pd_v 0) (FX.xc k hk) FX.g37 (FX.kit k 37 hk (by decide)) mI) (pa_cons (pd_isvC (q := k == 38) (pd_v 0) (FX.xc k hk) FX.g38 (FX.kit k 38 hk (by decide)) mI) (pa_cons (pd_isvC (q := k == 39) (pd_v 0) (FX.xc k hk) FX.g39 (FX.kit k 39 hk (by decide)) mI) pa_nil)))))) (by simp))) ?_ scA.nd)
  refine sd_cons (s1_asg 1 (PN.pd (pn_cat (pd_v 1) (PN.pd (pn_lst (pa_cons (pd_isvC (q := k == 40) (pd_v 0) (FX.xc k hk) FX.g40 (FX.kit k 40 hk (by decide)) mI) (pa_cons (pd_isvC (q := k == 41) (pd_v 0) (FX.xc k hk) FX.g41 (FX.kit k 41 hk (by decide)) mI) (pa_cons (pd_isvC (q := k == 42) (pd_v 0) (FX.xc k hk) FX.g42 (FX.kit k 42 hk (by decide)) mI) (pa_cons (pd_isvC (q := k == 43) (pd_v 0) (FX.xc k hk) FX.g43 (FX.kit k 43 hk (by decide)) mI) pa_nil)))))) (by simp))) ?_ scA.nd)
  refine sd_cons (s1_asg 1 (PN.pd (pn_cat (pd_v 1) (PN.pd (pn_lst (pa_cons (pd_isvC (q := k == 44) (pd_v 0) (FX.xc k hk) FX.g44 (FX.kit k 44 hk (by decide)) mI) (pa_cons (pd_isvC (q := k == 45) (pd_v 0) (FX.xc k hk) FX.g45 (FX.kit k 45 hk (by decide)) mI) (pa_cons (pd_isvC (q := k == 46) (pd_v 0) (FX.xc k hk) FX.g46 (FX.kit k 46 hk (by decide)) mI) (pa_cons (pd_isvC (q := k == 47) (pd_v 0) (FX.xc k hk) FX.g47 (FX.kit k 47 hk (by decide)) mI) pa_nil)))))) (by simp))) ?_ scA.nd)
  exact sd_one (s1_ret (pd_v 1) rfl)
end
end Er
end

section
set_option autoImplicit false
set_option Elab.async false
set_option linter.all false
set_option maxRecDepth 100000
set_option maxHeartbeats 4000000
namespace Er
open PySem PySem.Spec PyProof.Rows L2 Pd
def gHolds : List D → D → Prop := fun ds d => ∃ (k : Nat) (v : List D), ds = [.int (k : Int), .lst v] ∧ v.length = 13 ∧ (∀ x ∈ v, Pl 1 x) ∧ k < 48 ∧ d = .bl true
def gLaw : List D → D → Prop := fun ds d => ∃ ns : List Int, ds = [.rol (ns.map .int)] ∧ d = .bl true
abbrev nH : List Str := ["_law_k", "_law_v", "_law_made_here", "_law_e", "_law_answers_here"]
abbrev nL : List Str := ["_law_script", "_law_first", "_law_second", "_law_k"]
theorem tab_ok : ∀ k, k < 48 → (fl k).length ≤ 2 ∧ ∀ p ∈ fl k, p.2 < 13 := by decide +kernel
theorem ans_ok : ∀ k, k < 48 → (ans k)[k]? = some true ∧ (ans k).count true = 1 := by decide +kernel
section
variable {P : Program} {w : World} {K : PySem.W.Frag} {mg : Str → Option Value} {base : Heap} {f cM : Addr} {fd : FuncData} {ca : Nat → Addr}
theorem scH : FnScope nH ["_law_k", "_law_v"] (defScope sHolds) := ⟨rfl, rfl, rfl, by decide +kernel, rfl, by decide +kernel, by decide +kernel⟩
theorem vat_pl {v : List D} (hl : v.length = 13) (hv : ∀ x ∈ v, Pl 1 x) {k : Nat} (hk : k < 48) : Pl 2 (.lst (vat v (fl k))) := by
  obtain ⟨h1, h2⟩ := tab_ok k hk
  refine .lst (fun d hd => ?_) (by unfold vat; rw [List.length_map]; omega)
  unfold vat at hd
  obtain ⟨p, hp, rfl⟩ := List.mem_map.mp hd
  refine hv _ ?_
  have hi : p.2 < v.length := by rw [hl]; exact h2 p hp
  rw [List.getD_eq_getElem?_getD, List.getElem?_eq_getElem hi]
  exact List.getElem_mem hi
theorem ok_holds (F : FnP K "_law_holds" sHolds f fd) (FX : Fx P w K mg base ca cM) (mI : mg "isinstance" = none) (mV : mg "ValueError" = none) (FM : DF P w K mg base 5 "_law_made" (spD K (gMade ca 0))) (FA : DF P w K mg base 1 "_law_answers" (spD K (gAns ca)))
    (FS : DF P w K mg base 4 "_law_same" (spD K (gSame 2))) : FnOk P w K mg base CX0 6 f fd ["_law_k", "_law_v"] (spD K gHolds) := by
  refine fnD F scH (fun ds d ⟨k, v, h, _⟩ => by rw [h] <;> rfl) (fun cdv A outer s H E hr ds d ⟨k, v, h, hl, hv, hk, hd⟩ => ?_)
  subst h hd
  obtain ⟨a1, a2⟩ := ans_ok k hk
  refine sd_cons (s1_asg 2 (d := dMade ca k v) (pd_f FM (hr.mono (by decide)) (pa_cons (pd_v 0) (pa_cons (pd_v 1) pa_nil)) ⟨k, v, rfl, hl, Nat.zero_le _, hk, rfl⟩) ?_ scH.nd)
  refine sd_cons (s1_asg 3 (d := .ev (ca k) (fsOf v (fl k))) (pd_ixT (ds := [.ev (ca k) (fsOf v (fl k)), .lst (vat v (fl k)), .lst (vat v (fl k))]) (pd_v 2) pd_int rfl) ?_ scH.nd)
  refine sd_cons (s1_if (p := false) (pt_not (p := true) (pt_val (pd_f FS (hr.mono (by decide)) (pa_cons (pd_ixT (ds := [.ev (ca k) (fsOf v (fl k)), .lst (vat v (fl k)), .lst (vat v (fl k))]) (d := .lst (vat v (fl k))) (pd_v 2) pd_int rfl) (pa_cons (pd_ixT (ds := [.ev (ca k) (fsOf v (fl k)), .lst (vat v (fl k)), .lst (vat v (fl k))]) (d := .lst (vat v (fl k))) (pd_v 2) pd_int rfl) pa_nil)) ⟨_, rfl, vat_pl hl hv hk, rfl⟩))) (fun h => by cases h) fun _ => sd_nil ?_)
  refine sd_cons (s1_if (p := false) (PDW.pt (pw_or (p := false) (q := false) (pt_not (p := true) (pt_val (pd_isvC (pd_v 3) (FX.xc k hk) FX.gM (FX.kitM k hk) mI))) fun _ => pw_or1 (pt_not (p := true) (pt_val (pd_isvT (t := "ValueError") (pd_v 3) (FX.xc k hk) mV PyProof.Rows.Boot.«ValueError» (FX.kitV k hk) mI))))) (fun h => by cases h) fun _ => sd_nil ?_)
  refine sd_cons (s1_asg 4 (d := .lst ((ans k).map .bl)) (pd_f FA (hr.mono (by decide)) (pa_cons (pd_v 3) pa_nil) ⟨k, _, rfl, hk, rfl⟩) ?_ scH.nd)
  have hat : atI ((ans k).map D.bl) (k : Int) = some (.bl true) := atI_nat (by rw [List.getElem?_map, a1] <;> rfl)
  refine sd_one (s1_ret (pd_and (p := true) (q := true) (pd_isBl (pd_ixL (pd_v 4) (pd_v 0) hat)) fun _ => pd_one (PD.is (pd_eqI (pd_cntB (bs := ans k) (pd_v 4)) pd_int) ?_)) rfl)
  rw [a2] <;> rfl
theorem scL : FnScope nL ["_law_script"] (defScope sLaw) := ⟨rfl, rfl, rfl, by decide +kernel, rfl, by decide +kernel, by decide +kernel⟩
theorem ok_law (F : FnP K "law" sLaw f fd) (mR : mg "range" = none) (FC : DF P w K mg base 1 "_law_cell" (spD K gCell)) (FV : DF P w K mg base 3 "_law_values" (spD K gVals)) (FH : DF P w K mg base 6 "_law_holds" (spD K gHolds)) : FnOk P w K mg base CX0 7 f fd ["_law_script"] (spD K gLaw) := by
  refine fnD F scL (fun ds d ⟨ns, h, _⟩ => by rw [h] <;> rfl) (fun cdv A outer s H E hr ds d ⟨ns, h, hd⟩ => ?_)
  subst h hd
  refine sd_cons (s1_asg 1 (d := .lst (vals (cell ns 0))) (pd_f FV (hr.mono (by decide)) (pa_cons (pd_f FC (hr.mono (by decide)) (pa_cons (pd_v 0) (pa_cons pd_int pa_nil)) ⟨ns, 0, rfl, rfl⟩) pa_nil) ⟨_, rfl, rfl⟩) ?_ scL.nd)
  refine sd_cons (s1_asg 2 (d := .lst (vals (cell ns 1 + 19))) (pd_f FV (hr.mono (by decide)) (pa_cons (pd_add (pd_f FC (hr.mono (by decide)) (pa_cons (pd_v 0) (pa_cons pd_int pa_nil)) ⟨ns, 1, rfl, rfl⟩) pd_int) pa_nil) ⟨_, rfl, rfl⟩) ?_ scL.nd)
  refine sd_cons (s1_for (emb := id) (rngD 0 48) (fun i γ => ∃ x, γ = [.sh (.rol (ns.map .int)), .sh (.lst (vals (cell ns 0))), .sh (.lst (vals (cell ns 1 + 19))), x]) ((it_range1 pd_int mR (by decide) (by decide)).is (by rw [List.map_id] <;> rfl)) ⟨_, rfl⟩ ?_ ?_)
  · rintro i a γ1 ha ⟨x, rfl⟩
    obtain ⟨hi, rfl⟩ := rngD_at ha
    have hk : ∀ c, gHolds [.int (0 + (i : Int)), .lst (vals c)] (.bl true) := fun c => ⟨i, _, by rw [Int.zero_add], vals_len c, vals_pl c, hi, rfl⟩
    refine ⟨_, _, pg_n 3 scL.nd, sd_one (s1_if (p := false) (PDW.pt (pw_or (p := false) (q := false) (pt_not (p := true) (pt_val (pd_f FH (hr.mono (by decide)) (pa_cons (pd_v 3) (pa_cons (pd_v 1) pa_nil)) (hk _)))) fun _ => pw_or1 (pt_not (p := true) (pt_val (pd_f FH (hr.mono (by decide)) (pa_cons (pd_v 3) (pa_cons (pd_v 2) pa_nil)) (hk _)))))) (fun h => by cases h) fun _ => sd_nil ⟨_, rfl⟩)⟩
  · rintro γ1 ⟨x, rfl⟩
    exact sd_one (s1_ret pd_bl rfl)
end
end Er
end

section
set_option autoImplicit false
set_option Elab.async false
set_option linter.all false
set_option maxRecDepth 100000
set_option maxHeartbeats 0
namespace Er
open PySem PySem.Spec PyProof.Rows L2 Pd
def nms : List Str := [("BadStrand" : Str), ("BadKind" : Str), ("BadMark" : Str), ("BadPrice" : Str), ("NoSuchBead" : Str), ("GoneBead" : Str), ("EndBead" : Str), ("NotApart" : Str), ("RowFull" : Str), ("NothingToUndo" : Str), ("NothingToRedo" : Str), ("BadRun" : Str), ("TwoLeft" : Str), ("NotDone" : Str), ("BadBook" : Str), ("OtherStrand" : Str), ("NotGood" : Str), ("OutOfReach" : Str), ("BadFloors" : Str), ("CannotBe" : Str), ("NoSuchTotal" : Str), ("TooManyStretches" : Str), ("NoSuchNumber" : Str), ("NotTwoKinds" : Str), ("TooManyBeads" : Str), ("BadLeft" : Str), ("NotEnough" : Str), ("NotFree" : Str), ("BadPlace" : Str), ("BadLog" : Str), ("NoFit" : Str), ("BadText" : Str), ("NoSuchTally" : Str), ("BadSize" : Str), ("Clash" : Str), ("BadJoin" : Str), ("NotNested" : Str), ("QuietMove" : Str), ("BadClaim" : Str), ("BadCoins" : Str), ("NoCoins" : Str), ("BadName" : Str), ("NameTaken" : Str), ("DeskFull" : Str), ("NoSuchRow" : Str), ("BadLine" : Str), ("Refused" : Str), ("BadJournal" : Str)]
def nmk (k : Nat) : Str := nms.getD k ""
/-! ### what is asked of the classes -/
def oexB (K : PySem.W.Frag) (C : Addr) : Bool := (match K.lookup C with
  | some ⟨.type t, _, .cls ⟨_, _, .ref D :: bm, _, _, true, _, _, _, _, false⟩, sl⟩ => decide (t = "type") && (decide (D = C) && (PySem.HandSPX.refsVE bm && (match sl.toList with
    | [_, _, _, _, some (.builtin b), _] => decide (b = "ValueError.__new__")
    | _ => false)))
  | _ => false) && (decide (PySem.W.findIn K (.ref C) "__setattr__" = some (some (.builtin "object.__setattr__"))) && (decide (PySem.W.subIn K (.ref C) (.type "BaseException") = some true) && (decide (PySem.W.typeIn K (.ref C) = some (.type "type")) && PySem.W.keepIn K (.ref C))))
theorem oexB_ok {K : PySem.W.Frag} {C : Addr} (h : oexB K C = true) : OexC K C := by
  obtain ⟨h1, h⟩ := He.ba h
  obtain ⟨h2, h⟩ := He.ba h
  obtain ⟨h3, h⟩ := He.ba h
  obtain ⟨h4, h5⟩ := He.ba h
  refine ⟨?_, of_decide_eq_true h2, of_decide_eq_true h3, of_decide_eq_true h4, h5⟩
  split at h1
  · next t dd nm bs D bm ns qn sn sub ab col sl e =>
    obtain ⟨q1, h1⟩ := He.ba h1
    obtain ⟨q2, h1⟩ := He.ba h1
    obtain ⟨q3, q4⟩ := He.ba h1
    split at q4
    · next k0 k1 k2 k3 b k5 e2 =>
      have et := of_decide_eq_true q1
      have ed := of_decide_eq_true q2
      have eb := of_decide_eq_true q4
      subst et ed eb
      obtain ⟨sl⟩ := sl
      have e3 : sl = [k0, k1, k2, k3, some (.builtin "ValueError.__new__"), k5] := e2
      subst e3
      exact ⟨nm, qn, ns, bs, bm, sn, sub, ab, col, dd, k0, k1, k2, k3, k5, e, q3⟩
    · cases q4
  · cases h1
def excB (K : PySem.W.Frag) (D : Addr) : Bool := decide (PySem.W.findIn K (.ref D) "__getattribute__" = some (some (.builtin "BaseException.__getattribute__"))) && (decide (PySem.W.findIn K (.ref D) "__getattr__" = some none) && (decide (PySem.W.subIn K (.ref D) (.type "BaseException") = some true) && (PySem.W.hasDictIn K D &&
  (decide (PySem.W.findIn K (.ref D) "__class__" = some (some (.builtin "object.__class__"))) && (decide (PySem.W.specialIn K (.builtin "object.__class__") "__get__" = some (some (.builtin "getset_descriptor.__get__"))) && (decide (PySem.W.takesIn K (.builtin "object.__class__") = some true) && decide (PySem.W.mroIn K D (.type "object") = some true)))))))
theorem excB_ok {K : PySem.W.Frag} {D : Addr} (h : excB K D = true) : ExcC K D ∧ XfC K D := by
  obtain ⟨h1, h⟩ := He.ba h
  obtain ⟨h2, h⟩ := He.ba h
  obtain ⟨h3, h⟩ := He.ba h
  obtain ⟨h4, h⟩ := He.ba h
  obtain ⟨h5, h⟩ := He.ba h
  obtain ⟨h6, h⟩ := He.ba h
  obtain ⟨h7, h8⟩ := He.ba h
  exact ⟨⟨of_decide_eq_true h1, of_decide_eq_true h2, of_decide_eq_true h3, h4, of_decide_eq_true h5, of_decide_eq_true h6, of_decide_eq_true h7, of_decide_eq_true h8⟩, ⟨of_decide_eq_true h1, of_decide_eq_true h2, of_decide_eq_true h3, h4⟩⟩
def cak (K : PySem.W.Frag) (k : Nat) : Addr := He.ga K (nmk k)
def veT : List Value := [.type "ValueError", .type "Exception", .type "BaseException", .type "object"]
def oneB (K : PySem.W.Frag) (i : Nat) : Bool := excB K (cak K i) && (match PySem.W.clsIn K (cak K i) with
  | some cd => decide (cd.mro = .ref (cak K i) :: .ref (He.ga K "MootError") :: veT) && decide (PySem.W.typeIn K (.ref (cak K i)) = some (.type "type"))
  | none => false)
/-- an ascending list -/
def asc : Nat → List Nat → Bool
  | _, [] => true
  | a, b :: r => Nat.blt a b && asc b r
theorem asc_lt : ∀ {l : List Nat} {a : Nat}, asc a l = true → ∀ (i x : Nat), l[i]? = some x → a < x
  | [], _, _, i, x, e => by simp at e
  | b :: r, a, h, 0, x, e => by
    simp at e; subst e
    exact Nat.blt_eq.mp (He.ba h).1
  | b :: r, a, h, i + 1, x, e => Nat.lt_trans (Nat.blt_eq.mp (He.ba h).1) (asc_lt (He.ba h).2 i x (by simpa using e))
theorem asc_ne : ∀ {l : List Nat} {a : Nat}, asc a l = true → ∀ (i j x : Nat), l[i]? = some x → l[j]? = some x → i = j
  | [], _, _, i, j, x, e, _ => by simp at e
  | b :: r, a, h, 0, 0, x, _, _ => rfl
  | b :: r, a, h, i + 1, j + 1, x, e, e2 => congrArg Nat.succ (asc_ne (He.ba h).2 i j x (by simpa using e) (by simpa using e2))
  | b :: r, a, h, 0, j + 1, x, e, e2 => by
    simp at e; subst e
    exact absurd (asc_lt (He.ba h).2 j b (by simpa using e2)) (Nat.lt_irrefl _)
  | b :: r, a, h, i + 1, 0, x, e, e2 => by
    simp at e2; subst e2
    exact absurd (asc_lt (He.ba h).2 i b (by simpa using e)) (Nat.lt_irrefl _)
def owns : List Nat := [0, 1, 2, 3, 4, 5, 6, 7, 11, 14, 16, 17, 18, 19, 20, 21, 22, 23, 24, 25, 26, 27, 28, 29, 30, 31, 33, 34, 35, 36, 37, 39, 40, 41, 42, 44, 46, 47]
def allB (K : PySem.W.Frag) : Bool := asc (He.ga K "MootError") ((List.range 48).map (cak K)) && (((PySem.W.clsIn K (He.ga K "MootError")).isSome && decide (PySem.W.typeIn K (.ref (He.ga K "MootError")) = some (.type "type"))) && (((List.range 48).all fun i => oneB K i) && owns.all fun i => oexB K (cak K i)))
/-! ### the defs, the facts -/
def dd_law_cell : He.DefD := ⟨("_law_cell", none), "_law_cell", "_law_cell", defArgs (top 51), defBody (top 51), defScope (top 51), [], []⟩
def dd_law_mixed : He.DefD := ⟨("_law_mixed", none), "_law_mixed", "_law_mixed", defArgs (top 52), defBody (top 52), defScope (top 52), [], []⟩
def dd_law_draws : He.DefD := ⟨("_law_draws", none), "_law_draws", "_law_draws", defArgs (top 53), defBody (top 53), defScope (top 53), [], []⟩
def dd_law_is_integer : He.DefD := ⟨("_law_is_integer", none), "_law_is_integer", "_law_is_integer", defArgs (top 54), defBody (top 54), defScope (top 54), [], []⟩
def dd_law_same : He.DefD := ⟨("_law_same", none), "_law_same", "_law_same", defArgs (top 55), defBody (top 55), defScope (top 55), [], []⟩
def dd_law_values : He.DefD := ⟨("_law_values", none), "_law_values", "_law_values", defArgs (top 56), defBody (top 56), defScope (top 56), [], []⟩
def dd_law_made : He.DefD := ⟨("_law_made", none), "_law_made", "_law_made", defArgs (top 57), defBody (top 57), defScope (top 57), [], []⟩
def dd_law_made_more : He.DefD := ⟨("_law_made_more", none), "_law_made_more", "_law_made_more", defArgs (top 58), defBody (top 58), defScope (top 58), [], []⟩
def dd_law_made_last : He.DefD := ⟨("_law_made_last", none), "_law_made_last", "_law_made_last", defArgs (top 59), defBody (top 59), defScope (top 59), [], []⟩
def dd_law_answers : He.DefD := ⟨("_law_answers", none), "_law_answers", "_law_answers", defArgs (top 60), defBody (top 60), defScope (top 60), [], []⟩
def dd_law_holds : He.DefD := ⟨("_law_holds", none), "_law_holds", "_law_holds", defArgs (top 61), defBody (top 61), defScope (top 61), [], []⟩
def dd_law : He.DefD := ⟨("law", none), "law", "law", defArgs (top 62), defBody (top 62), defScope (top 62), [], []⟩
abbrev si_0 : Stmt := inClass (top 2) 0
def di_0 : He.DefD := ⟨("BadStrand", some "__init__"), "__init__", "BadStrand.__init__", defArgs si_0, defBody si_0, defScope si_0, [], []⟩
abbrev si_1 : Stmt := inClass (top 3) 0
def di_1 : He.DefD := ⟨("BadKind", some "__init__"), "__init__", "BadKind.__init__", defArgs si_1, defBody si_1, defScope si_1, [], []⟩
abbrev si_2 : Stmt := inClass (top 4) 0
def di_2 : He.DefD := ⟨("BadMark", some "__init__"), "__init__", "BadMark.__init__", defArgs si_2, defBody si_2, defScope si_2, [], []⟩
abbrev si_3 : Stmt := inClass (top 5) 0
def di_3 : He.DefD := ⟨("BadPrice", some "__init__"), "__init__", "BadPrice.__init__", defArgs si_3, defBody si_3, defScope si_3, [], []⟩
abbrev si_4 : Stmt := inClass (top 6) 0
def di_4 : He.DefD := ⟨("NoSuchBead", some "__init__"), "__init__", "NoSuchBead.__init__", defArgs si_4, defBody si_4, defScope si_4, [], []⟩
abbrev si_5 : Stmt := inClass (top 7) 0
def di_5 : He.DefD := ⟨("GoneBead", some "__init__"), "__init__", "GoneBead.__init__", defArgs si_5, defBody si_5, defScope si_5, [], []⟩
abbrev si_6 : Stmt := inClass (top 8) 0
def di_6 : He.DefD := ⟨("EndBead", some "__init__"), "__init__", "EndBead.__init__", defArgs si_6, defBody si_6, defScope si_6, [], []⟩
abbrev si_7 : Stmt := inClass (top 9) 0
def di_7 : He.DefD := ⟨("NotApart", some "__init__"), "__init__", "NotApart.__init__", defArgs si_7, defBody si_7, defScope si_7, [], []⟩
abbrev si_11 : Stmt := inClass (top 13) 0
def di_11 : He.DefD := ⟨("BadRun", some "__init__"), "__init__", "BadRun.__init__", defArgs si_11, defBody si_11, defScope si_11, [], []⟩
abbrev si_14 : Stmt := inClass (top 16) 0
def di_14 : He.DefD := ⟨("BadBook", some "__init__"), "__init__", "BadBook.__init__", defArgs si_14, defBody si_14, defScope si_14, [], []⟩
abbrev si_16 : Stmt := inClass (top 18) 0
def di_16 : He.DefD := ⟨("NotGood", some "__init__"), "__init__", "NotGood.__init__", defArgs si_16, defBody si_16, defScope si_16, [], []⟩
abbrev si_17 : Stmt := inClass (top 19) 0
def di_17 : He.DefD := ⟨("OutOfReach", some "__init__"), "__init__", "OutOfReach.__init__", defArgs si_17, defBody si_17, defScope si_17, [], []⟩
abbrev si_18 : Stmt := inClass (top 20) 0
def di_18 : He.DefD := ⟨("BadFloors", some "__init__"), "__init__", "BadFloors.__init__", defArgs si_18, defBody si_18, defScope si_18, [], []⟩
abbrev si_19 : Stmt := inClass (top 21) 0
def di_19 : He.DefD := ⟨("CannotBe", some "__init__"), "__init__", "CannotBe.__init__", defArgs si_19, defBody si_19, defScope si_19, [], []⟩
abbrev si_20 : Stmt := inClass (top 22) 0
def di_20 : He.DefD := ⟨("NoSuchTotal", some "__init__"), "__init__", "NoSuchTotal.__init__", defArgs si_20, defBody si_20, defScope si_20, [], []⟩
abbrev si_21 : Stmt := inClass (top 23) 0
def di_21 : He.DefD := ⟨("TooManyStretches", some "__init__"), "__init__", "TooManyStretches.__init__", defArgs si_21, defBody si_21, defScope si_21, [], []⟩
abbrev si_22 : Stmt := inClass (top 24) 0
def di_22 : He.DefD := ⟨("NoSuchNumber", some "__init__"), "__init__", "NoSuchNumber.__init__", defArgs si_22, defBody si_22, defScope si_22, [], []⟩
abbrev si_23 : Stmt := inClass (top 25) 0
def di_23 : He.DefD := ⟨("NotTwoKinds", some "__init__"), "__init__", "NotTwoKinds.__init__", defArgs si_23, defBody si_23, defScope si_23, [], []⟩
abbrev si_24 : Stmt := inClass (top 26) 0
def di_24 : He.DefD := ⟨("TooManyBeads", some "__init__"), "__init__", "TooManyBeads.__init__", defArgs si_24, defBody si_24, defScope si_24, [], []⟩
abbrev si_25 : Stmt := inClass (top 27) 0
def di_25 : He.DefD := ⟨("BadLeft", some "__init__"), "__init__", "BadLeft.__init__", defArgs si_25, defBody si_25, defScope si_25, [], []⟩
abbrev si_26 : Stmt := inClass (top 28) 0
def di_26 : He.DefD := ⟨("NotEnough", some "__init__"), "__init__", "NotEnough.__init__", defArgs si_26, defBody si_26, defScope si_26, [], []⟩
abbrev si_27 : Stmt := inClass (top 29) 0
def di_27 : He.DefD := ⟨("NotFree", some "__init__"), "__init__", "NotFree.__init__", defArgs si_27, defBody si_27, defScope si_27, [], []⟩
abbrev si_28 : Stmt := inClass (top 30) 0
def di_28 : He.DefD := ⟨("BadPlace", some "__init__"), "__init__", "BadPlace.__init__", defArgs si_28, defBody si_28, defScope si_28, [], []⟩
abbrev si_29 : Stmt := inClass (top 31) 0
def di_29 : He.DefD := ⟨("BadLog", some "__init__"), "__init__", "BadLog.__init__", defArgs si_29, defBody si_29, defScope si_29, [], []⟩
abbrev si_30 : Stmt := inClass (top 32) 0
def di_30 : He.DefD := ⟨("NoFit", some "__init__"), "__init__", "NoFit.__init__", defArgs si_30, defBody si_30, defScope si_30, [], []⟩
abbrev si_31 : Stmt := inClass (top 33) 0
def di_31 : He.DefD := ⟨("BadText", some "__init__"), "__init__", "BadText.__init__", defArgs si_31, defBody si_31, defScope si_31, [], []⟩
abbrev si_33 : Stmt := inClass (top 35) 0
def di_33 : He.DefD := ⟨("BadSize", some "__init__"), "__init__", "BadSize.__init__", defArgs si_33, defBody si_33, defScope si_33, [], []⟩
abbrev si_34 : Stmt := inClass (top 36) 0
def di_34 : He.DefD := ⟨("Clash", some "__init__"), "__init__", "Clash.__init__", defArgs si_34, defBody si_34, defScope si_34, [], []⟩
abbrev si_35 : Stmt := inClass (top 37) 0
def di_35 : He.DefD := ⟨("BadJoin", some "__init__"), "__init__", "BadJoin.__init__", defArgs si_35, defBody si_35, defScope si_35, [], []⟩
abbrev si_36 : Stmt := inClass (top 38) 0
def di_36 : He.DefD := ⟨("NotNested", some "__init__"), "__init__", "NotNested.__init__", defArgs si_36, defBody si_36, defScope si_36, [], []⟩
abbrev si_37 : Stmt := inClass (top 39) 0
def di_37 : He.DefD := ⟨("QuietMove", some "__init__"), "__init__", "QuietMove.__init__", defArgs si_37, defBody si_37, defScope si_37, [], []⟩
abbrev si_39 : Stmt := inClass (top 41) 0
def di_39 : He.DefD := ⟨("BadCoins", some "__init__"), "__init__", "BadCoins.__init__", defArgs si_39, defBody si_39, defScope si_39, [], []⟩
abbrev si_40 : Stmt := inClass (top 42) 0
def di_40 : He.DefD := ⟨("NoCoins", some "__init__"), "__init__", "NoCoins.__init__", defArgs si_40, defBody si_40, defScope si_40, [], []⟩
abbrev si_41 : Stmt := inClass (top 43) 0
def di_41 : He.DefD := ⟨("BadName", some "__init__"), "__init__", "BadName.__init__", defArgs si_41, defBody si_41, defScope si_41, [], []⟩
abbrev si_42 : Stmt := inClass (top 44) 0
def di_42 : He.DefD := ⟨("NameTaken", some "__init__"), "__init__", "NameTaken.__init__", defArgs si_42, defBody si_42, defScope si_42, [], []⟩
abbrev si_44 : Stmt := inClass (top 46) 0
def di_44 : He.DefD := ⟨("NoSuchRow", some "__init__"), "__init__", "NoSuchRow.__init__", defArgs si_44, defBody si_44, defScope si_44, [], []⟩
abbrev si_46 : Stmt := inClass (top 48) 0
def di_46 : He.DefD := ⟨("Refused", some "__init__"), "__init__", "Refused.__init__", defArgs si_46, defBody si_46, defScope si_46, [], []⟩
abbrev si_47 : Stmt := inClass (top 49) 0
def di_47 : He.DefD := ⟨("BadJournal", some "__init__"), "__init__", "BadJournal.__init__", defArgs si_47, defBody si_47, defScope si_47, [], []⟩
def fn : List He.DefD := [dd_law_cell, dd_law_mixed, dd_law_draws, dd_law_is_integer, dd_law_same, dd_law_values, dd_law_made, dd_law_made_more, dd_law_made_last, dd_law_answers, dd_law_holds, dd_law, di_0, di_1, di_2, di_3, di_4, di_5, di_6, di_7, di_11, di_14, di_16, di_17, di_18, di_19, di_20, di_21, di_22, di_23, di_24, di_25, di_26, di_27, di_28, di_29, di_30, di_31, di_33, di_34, di_35, di_36, di_37, di_39, di_40, di_41, di_42, di_44, di_46, di_47]
def fa : List He.Fa := [.glo "MootError", .glo "_law_cell", .glo "_law_mixed", .glo "_law_draws", .glo "_law_is_integer", .glo "_law_same", .glo "_law_values", .glo "_law_made", .glo "_law_made_more", .glo "_law_made_last", .glo "_law_answers", .glo "_law_holds", .glo "law", .free "int", .free "range", .free "len", .free "isinstance", .free "str", .free "list", .free "tuple", .free "bool", .free "ValueError", .glo "BadStrand", .meth "BadStrand" "__init__", .noat "BadStrand" "at", .glo "BadKind", .meth "BadKind" "__init__", .noat "BadKind" "kind", .glo "BadMark", .meth "BadMark" "__init__", .noat "BadMark" "word", .glo "BadPrice", .meth "BadPrice" "__init__", .noat "BadPrice" "word", .glo "NoSuchBead", .meth "NoSuchBead" "__init__", .noat "NoSuchBead" "bead", .glo "GoneBead", .meth "GoneBead" "__init__", .noat "GoneBead" "bead", .glo "EndBead", .meth "EndBead" "__init__", .noat "EndBead" "bead", .glo "NotApart", .meth "NotApart" "__init__", .noat "NotApart" "left", .noat "NotApart" "right", .glo "RowFull", .exc "RowFull", .glo "NothingToUndo", .exc "NothingToUndo", .glo "NothingToRedo", .exc "NothingToRedo", .glo "BadRun", .meth "BadRun" "__init__", .noat "BadRun" "at", .glo "TwoLeft", .exc "TwoLeft", .glo "NotDone", .exc "NotDone", .glo "BadBook", .meth "BadBook" "__init__", .noat "BadBook" "rule", .noat "BadBook" "where", .glo "OtherStrand", .exc "OtherStrand", .glo "NotGood", .meth "NotGood" "__init__", .noat "NotGood" "gap", .glo "OutOfReach", .meth "OutOfReach" "__init__", .noat "OutOfReach" "least", .noat "OutOfReach" "greatest", .glo "BadFloors", .meth "BadFloors" "__init__", .noat "BadFloors" "where", .glo "CannotBe", .meth "CannotBe" "__init__", .noat "CannotBe" "word", .noat "CannotBe" "bound", .glo "NoSuchTotal", .meth "NoSuchTotal" "__init__", .noat "NoSuchTotal" "below", .noat "NoSuchTotal" "above", .glo "TooManyStretches", .meth "TooManyStretches" "__init__", .noat "TooManyStretches" "count", .glo "NoSuchNumber", .meth "NoSuchNumber" "__init__", .noat "NoSuchNumber" "number", .noat "NoSuchNumber" "count", .glo "NotTwoKinds", .meth "NotTwoKinds" "__init__", .noat "NotTwoKinds" "variety", .glo "TooManyBeads", .meth "TooManyBeads" "__init__", .noat "TooManyBeads" "size", .glo "BadLeft", .meth "BadLeft" "__init__", .noat "BadLeft" "at", .glo "NotEnough", .meth "NotEnough" "__init__", .noat "NotEnough" "least", .glo "NotFree", .meth "NotFree" "__init__", .noat "NotFree" "least", .glo "BadPlace", .meth "BadPlace" "__init__", .noat "BadPlace" "place", .glo "BadLog", .meth "BadLog" "__init__", .noat "BadLog" "at", .glo "NoFit", .meth "NoFit" "__init__", .noat "NoFit" "at", .glo "BadText", .meth "BadText" "__init__", .noat "BadText" "at", .glo "NoSuchTally", .exc "NoSuchTally", .glo "BadSize", .meth "BadSize" "__init__", .noat "BadSize" "size", .glo "Clash", .meth "Clash" "__init__", .noat "Clash" "chain", .glo "BadJoin", .meth "BadJoin" "__init__", .noat "BadJoin" "at", .glo "NotNested", .meth "NotNested" "__init__", .noat "NotNested" "level", .noat "NotNested" "where", .glo "QuietMove", .meth "QuietMove" "__init__", .noat "QuietMove" "bead", .glo "BadClaim", .exc "BadClaim", .glo "BadCoins", .meth "BadCoins" "__init__", .noat "BadCoins" "coins", .glo "NoCoins", .meth "NoCoins" "__init__", .noat "NoCoins" "price", .noat "NoCoins" "coins", .glo "BadName", .meth "BadName" "__init__", .noat "BadName" "name", .glo "NameTaken", .meth "NameTaken" "__init__", .noat "NameTaken" "name", .glo "DeskFull", .exc "DeskFull", .glo "NoSuchRow", .meth "NoSuchRow" "__init__", .noat "NoSuchRow" "name", .glo "BadLine", .exc "BadLine", .glo "Refused", .meth "Refused" "__init__", .noat "Refused" "at", .glo "BadJournal", .meth "BadJournal" "__init__", .noat "BadJournal" "line"]
/-! ### the Hook -/
abbrev R : PySem.W.OpenRow := PySem.W.OpenLaw.row PySem.Challenge.rw_beadmoot_k13_errors
def refsS (o : Obj) : List Addr := match o.data with
  | .dict es _ => es.toList.flatMap fun e => He.refV e.val
  | .func fd => He.refV fd.code
  | .cls cd => [cd.ns]
  | _ => []
def lev (g : Addr → Option Obj) (as : List Addr) : List Addr := as.flatMap fun a => match g a with
  | some o => refsS o
  | none => []
def asS (g : Addr → Option Obj) : Nat → List Addr → List Addr
  | 0, l => l
  | n + 1, l => l ++ asS g n (lev g l)
def obK (K : PySem.W.Frag) : He.AlD × Bool := (He.obsD fa fn K, allB K)
def obB (g : Addr → Option Obj) : He.AlD × Bool := obK (He.frG g (asS g 4 [mainGlobals]))
def hk : PySem.W.Hook where
  α := He.AlD × Bool
  obs := fun s => obB s.heap.get?
  val := fun _ => (He.valD fn, true)
  says := fun _ h => ∃ K : PySem.W.Frag, K.In h ∧ He.SaysD fa fn K ∧ allB K = true
  of := fun _ _ e => ⟨_, He.frG_in, congrArg Prod.fst e, congrArg Prod.snd e⟩
  keeps := fun _ _ _ ⟨K, hK, c⟩ k => ⟨K, PySem.W.Frag.In.keeps hK k, c⟩
def ob (s : PySem.W.SharedT) : He.AlD × Bool := obB (HandSHeadRun.getT s)
theorem ob_eq (s : PySem.W.SharedT) : ob s = hk.obs s.abs := by
  have e : HandSHeadRun.getT s = s.abs.heap.get? := funext (HandSHeadRun.getT_eq s)
  show obB _ = obB _
  rw [e]
def names : List PySem.Str := [("MootError" : PySem.Str), ("BadStrand" : PySem.Str), ("BadKind" : PySem.Str), ("BadMark" : PySem.Str), ("BadPrice" : PySem.Str), ("NoSuchBead" : PySem.Str), ("GoneBead" : PySem.Str), ("EndBead" : PySem.Str), ("NotApart" : PySem.Str), ("RowFull" : PySem.Str), ("NothingToUndo" : PySem.Str), ("NothingToRedo" : PySem.Str), ("BadRun" : PySem.Str), ("TwoLeft" : PySem.Str), ("NotDone" : PySem.Str), ("BadBook" : PySem.Str), ("OtherStrand" : PySem.Str), ("NotGood" : PySem.Str), ("OutOfReach" : PySem.Str), ("BadFloors" : PySem.Str), ("CannotBe" : PySem.Str), ("NoSuchTotal" : PySem.Str), ("TooManyStretches" : PySem.Str), ("NoSuchNumber" : PySem.Str), ("NotTwoKinds" : PySem.Str), ("TooManyBeads" : PySem.Str), ("BadLeft" : PySem.Str), ("NotEnough" : PySem.Str), ("NotFree" : PySem.Str), ("BadPlace" : PySem.Str), ("BadLog" : PySem.Str), ("NoFit" : PySem.Str), ("BadText" : PySem.Str), ("NoSuchTally" : PySem.Str), ("BadSize" : PySem.Str), ("Clash" : PySem.Str), ("BadJoin" : PySem.Str), ("NotNested" : PySem.Str), ("QuietMove" : PySem.Str), ("BadClaim" : PySem.Str), ("BadCoins" : PySem.Str), ("NoCoins" : PySem.Str), ("BadName" : PySem.Str), ("NameTaken" : PySem.Str), ("DeskFull" : PySem.Str), ("NoSuchRow" : PySem.Str), ("BadLine" : PySem.Str), ("Refused" : PySem.Str), ("BadJournal" : PySem.Str), ("_law_cell" : PySem.Str), ("_law_mixed" : PySem.Str), ("_law_draws" : PySem.Str), ("_law_is_integer" : PySem.Str), ("_law_same" : PySem.Str), ("_law_values" : PySem.Str), ("_law_made" : PySem.Str), ("_law_made_more" : PySem.Str), ("_law_made_last" : PySem.Str), ("_law_answers" : PySem.Str), ("_law_holds" : PySem.Str)]
end Er
end

section
set_option autoImplicit false
set_option Elab.async false
set_option linter.all false
set_option maxRecDepth 100000
set_option maxHeartbeats 0
namespace Er
open PySem PySem.Spec PyProof.Rows L2
theorem run (w : World) : HandSHeadRun.RunEq R (PySem.W.view R.prog [62]) hk ob 20000 names w := by
  intro os
  kernel_rfl
end Er
end

section
set_option autoImplicit false
set_option Elab.async false
set_option linter.all false
set_option maxRecDepth 100000
set_option maxHeartbeats 4000000
namespace Er
open PySem PySem.Spec PyProof.Rows L2 Pd
section
variable {P : Program} {w : World} {K : PySem.W.Frag} {mg : Str → Option Value} {base : Heap} {h : Heap} {f : Addr} {fd : FuncData}
theorem dv1 {x f1 qual s y : Str} {params : Arguments} {scope : Scope} {p1 p2 p3 p4 : Pos} (hg : mg x = some (.ref (He.ga K x))) (ho : oexB K (He.ga K x) = true) (hm : (He.Fa.meth x "__init__").ok K = true) (hn : (He.Fa.noat x f1).ok K = true)
    (F : FunD K "__init__" qual params [.Assign [.Attribute (.Name s p1) f1 p2] (.Name y p3) p4] scope [] [] (He.ma K (He.ga K x) "__init__") fd) (bd : Binds K fd [s, y] []) (S : FnScope [s, y] [s, y] scope) (v0 : Vis scope s) (v1 : Vis scope y)
    (d0 : (s == ("__debug__" : Str)) = false) (d1 : (y == ("__debug__" : Str)) = false) (c0 : (s == ("__classdict__" : Str)) = false) (c1 : (y == ("__classdict__" : Str)) = false) : DV P w K mg base x (He.ga K x) (gE1 f1) :=
  ⟨oexB_ok ho, hg, _, fd, _, (He.meth_ok hm).1, beq_iff_eq.mp (He.meth_ok hm).2, okEV1 F S (oexB_ok ho) (He.noat_ok hn) v0 v1 d0 d1 c0 c1, bd⟩
theorem dv2 {x f1 f2 qual s y z : Str} {params : Arguments} {scope : Scope} {p1 p2 p3 p4 q1 q2 q3 q4 : Pos} (hg : mg x = some (.ref (He.ga K x))) (ho : oexB K (He.ga K x) = true) (hm : (He.Fa.meth x "__init__").ok K = true) (hn : (He.Fa.noat x f1).ok K = true) (hn2 : (He.Fa.noat x f2).ok K = true)
    (F : FunD K "__init__" qual params [.Assign [.Attribute (.Name s p1) f1 p2] (.Name y p3) p4, .Assign [.Attribute (.Name s q1) f2 q2] (.Name z q3) q4] scope [] [] (He.ma K (He.ga K x) "__init__") fd) (bd : Binds K fd [s, y, z] []) (S : FnScope [s, y, z] [s, y, z] scope) (v0 : Vis scope s) (v1 : Vis scope y) (v2 : Vis scope z)
    (d0 : (s == ("__debug__" : Str)) = false) (d1 : (y == ("__debug__" : Str)) = false) (c0 : (s == ("__classdict__" : Str)) = false) (c1 : (y == ("__classdict__" : Str)) = false) (d2 : (z == ("__debug__" : Str)) = false) (c2 : (z == ("__classdict__" : Str)) = false) : DV P w K mg base x (He.ga K x) (gE2 f1 f2) :=
  ⟨oexB_ok ho, hg, _, fd, _, (He.meth_ok hm).1, beq_iff_eq.mp (He.meth_ok hm).2, okEV2 F S (oexB_ok ho) (He.noat_ok hn) (He.noat_ok hn2) v0 v1 v2 d0 d1 c0 c1 d2 c2, bd⟩
theorem own_of (e : allB K = true) {k : Nat} (h : k ∈ owns) : oexB K (cak K k) = true := List.all_eq_true.mp (He.ba (He.ba (He.ba e).2).2).2 k h
theorem one_of (e : allB K = true) {k : Nat} (h : k < 48) : oneB K k = true := List.all_eq_true.mp (He.ba (He.ba (He.ba e).2).2).1 k (List.mem_range.mpr h)
theorem mro_of (e : allB K = true) {k : Nat} (h : k < 48) : ∃ cd, PySem.W.clsIn K (cak K k) = some cd ∧ cd.mro = .ref (cak K k) :: .ref (He.ga K "MootError") :: veT ∧ PySem.W.typeIn K (.ref (cak K k)) = some (.type "type") := by
  have z := (He.ba (one_of e h)).2
  split at z
  · next cd q => exact ⟨cd, q, of_decide_eq_true (He.ba z).1, of_decide_eq_true (He.ba z).2⟩
  · cases z
theorem cak_at {k : Nat} (h : k < 48) : ((List.range 48).map (cak K))[k]? = some (cak K k) := by
  rw [List.getElem?_map, List.getElem?_range h] <;> rfl
theorem cak_ne (e : allB K = true) {i j : Nat} (hi : i < 48) (hj : j < 48) (ne : i ≠ j) : cak K i ≠ cak K j := fun q => ne (asc_ne (He.ba e).1 i j (cak K i) (cak_at hi) (by rw [q]; exact cak_at hj))
theorem cak_M (e : allB K = true) {i : Nat} (hi : i < 48) : cak K i ≠ He.ga K "MootError" := fun q => by
  have z := asc_lt (He.ba e).1 i _ (cak_at hi)
  rw [q] at z
  exact Nat.lt_irrefl _ z
theorem kit_go {i : Nat} {c : Value} (e : allB K = true) (hi : i < 48) (ne : c ≠ .ref (cak K i)) (hc : PySem.W.kitCls K (.ref (cak K i)) c = PySem.W.subIn K (.ref (cak K i)) c) : PySem.W.kitOne K (.ref (cak K i)) c = some (decide (c = .ref (He.ga K "MootError")) || veT.contains c) := by
  obtain ⟨cd, h1, h2, h3⟩ := mro_of e hi
  have q : (Value.ref (cak K i) == c) = false := by
    cases z : (Value.ref (cak K i) == c) with
    | false => rfl
    | true => exact absurd (beq_iff_eq.mp z).symm ne
  unfold PySem.W.kitOne
  rw [q, if_neg Bool.false_ne_true, hc]
  show PySem.W.mroIn K (cak K i) c = _
  unfold PySem.W.mroIn
  rw [h1, Option.bind_some, h2]
  have q1 : (c == Value.ref (cak K i)) = false := by
    cases z : (c == Value.ref (cak K i)) with
    | false => rfl
    | true => exact absurd (beq_iff_eq.mp z) ne
  have q2 : (c == Value.ref (He.ga K "MootError")) = decide (c = .ref (He.ga K "MootError")) := by
    cases z : (c == Value.ref (He.ga K "MootError")) with
    | false => exact (decide_eq_false fun y => by rw [y] at z; rw [beq_self_eq_true] at z; cases z).symm
    | true => exact (decide_eq_true (beq_iff_eq.mp z)).symm
  rw [List.contains_cons, List.contains_cons, q1, q2, Bool.false_or]
  rfl
theorem cls_kit {c : Addr} {t : Value} (h1 : (PySem.W.clsIn K c).isSome = true) (h2 : PySem.W.typeIn K (.ref c) = some (.type "type")) : PySem.W.kitCls K t (.ref c) = PySem.W.subIn K t (.ref c) := by
  show (if ((PySem.W.clsIn K c).isSome && PySem.W.typeIn K (.ref c) == some (.type "type")) = true then PySem.W.subIn K t (.ref c) else none) = _
  rw [h1, h2]
  exact if_pos (by rw [beq_self_eq_true] <;> rfl)
theorem kit_all (e : allB K = true) : ∀ i j, i < 48 → j < 48 → PySem.W.kitOne K (.ref (cak K i)) (.ref (cak K j)) = some (i == j) := fun i j hi hj => by
  by_cases q : i = j
  · subst q
    unfold PySem.W.kitOne
    rw [beq_self_eq_true, if_pos rfl, beq_self_eq_true]
  · have ne := cak_ne e hj hi (Ne.symm q)
    obtain ⟨cd, h1, _, h3⟩ := mro_of e hj
    rw [kit_go e hi (fun z => ne (Value.ref.inj z)) (cls_kit (by rw [h1]; rfl) h3)]
    have q1 : decide (Value.ref (cak K j) = .ref (He.ga K "MootError")) = false := decide_eq_false fun z => cak_M e hj (Value.ref.inj z)
    have q2 : (i == j) = false := by simpa using q
    rw [q1, q2] <;> rfl
theorem kit_M (e : allB K = true) {i : Nat} (hi : i < 48) : PySem.W.kitOne K (.ref (cak K i)) (.ref (He.ga K "MootError")) = some true := by
  have z := (He.ba (He.ba e).2).1
  rw [kit_go e hi (fun z => cak_M e hi (Value.ref.inj z).symm) (cls_kit (He.ba z).1 (of_decide_eq_true (He.ba z).2)), decide_eq_true rfl] <;> rfl
theorem kit_V (e : allB K = true) {i : Nat} (hi : i < 48) : PySem.W.kitOne K (.ref (cak K i)) (.type "ValueError") = some true := by
  have q : PySem.W.kitCls K (.ref (cak K i)) (.type "ValueError") = PySem.W.subIn K (.ref (cak K i)) (.type "ValueError") := by
    show (if PySem.W.kitMeta "ValueError" = true then PySem.W.subIn K (.ref (cak K i)) (.type "ValueError") else none) = _
    exact if_pos (by decide +kernel)
  rw [kit_go e hi (fun z => by cases z) q, decide_eq_false (fun z => by cases z)] <;> rfl
theorem sI_0 : FnScope ["self", "at"] ["self", "at"] (defScope si_0) := ⟨rfl, rfl, rfl, by decide +kernel, rfl, by decide +kernel, by decide +kernel⟩
theorem sI_1 : FnScope ["self", "kind"] ["self", "kind"] (defScope si_1) := ⟨rfl, rfl, rfl, by decide +kernel, rfl, by decide +kernel, by decide +kernel⟩
theorem sI_2 : FnScope ["self", "word"] ["self", "word"] (defScope si_2) := ⟨rfl, rfl, rfl, by decide +kernel, rfl, by decide +kernel, by decide +kernel⟩
theorem sI_3 : FnScope ["self", "word"] ["self", "word"] (defScope si_3) := ⟨rfl, rfl, rfl, by decide +kernel, rfl, by decide +kernel, by decide +kernel⟩
theorem sI_4 : FnScope ["self", "bead"] ["self", "bead"] (defScope si_4) := ⟨rfl, rfl, rfl, by decide +kernel, rfl, by decide +kernel, by decide +kernel⟩
theorem sI_5 : FnScope ["self", "bead"] ["self", "bead"] (defScope si_5) := ⟨rfl, rfl, rfl, by decide +kernel, rfl, by decide +kernel, by decide +kernel⟩
theorem sI_6 : FnScope ["self", "bead"] ["self", "bead"] (defScope si_6) := ⟨rfl, rfl, rfl, by decide +kernel, rfl, by decide +kernel, by decide +kernel⟩
theorem sI_7 : FnScope ["self", "left", "right"] ["self", "left", "right"] (defScope si_7) := ⟨rfl, rfl, rfl, by decide +kernel, rfl, by decide +kernel, by decide +kernel⟩
theorem sI_11 : FnScope ["self", "at"] ["self", "at"] (defScope si_11) := ⟨rfl, rfl, rfl, by decide +kernel, rfl, by decide +kernel, by decide +kernel⟩
theorem sI_14 : FnScope ["self", "rule", "where"] ["self", "rule", "where"] (defScope si_14) := ⟨rfl, rfl, rfl, by decide +kernel, rfl, by decide +kernel, by decide +kernel⟩
theorem sI_16 : FnScope ["self", "gap"] ["self", "gap"] (defScope si_16) := ⟨rfl, rfl, rfl, by decide +kernel, rfl, by decide +kernel, by decide +kernel⟩
theorem sI_17 : FnScope ["self", "least", "greatest"] ["self", "least", "greatest"] (defScope si_17) := ⟨rfl, rfl, rfl, by decide +kernel, rfl, by decide +kernel, by decide +kernel⟩
theorem sI_18 : FnScope ["self", "where"] ["self", "where"] (defScope si_18) := ⟨rfl, rfl, rfl, by decide +kernel, rfl, by decide +kernel, by decide +kernel⟩
theorem sI_19 : FnScope ["self", "word", "bound"] ["self", "word", "bound"] (defScope si_19) := ⟨rfl, rfl, rfl, by decide +kernel, rfl, by decide +kernel, by decide +kernel⟩
theorem sI_20 : FnScope ["self", "below", "above"] ["self", "below", "above"] (defScope si_20) := ⟨rfl, rfl, rfl, by decide +kernel, rfl, by decide +kernel, by decide +kernel⟩
theorem sI_21 : FnScope ["self", "count"] ["self", "count"] (defScope si_21) := ⟨rfl, rfl, rfl, by decide +kernel, rfl, by decide +kernel, by decide +kernel⟩
theorem sI_22 : FnScope ["self", "number", "count"] ["self", "number", "count"] (defScope si_22) := ⟨rfl, rfl, rfl, by decide +kernel, rfl, by decide +kernel, by decide +kernel⟩
theorem sI_23 : FnScope ["self", "variety"] ["self", "variety"] (defScope si_23) := ⟨rfl, rfl, rfl, by decide +kernel, rfl, by decide +kernel, by decide +kernel⟩
theorem sI_24 : FnScope ["self", "size"] ["self", "size"] (defScope si_24) := ⟨rfl, rfl, rfl, by decide +kernel, rfl, by decide +kernel, by decide +kernel⟩
theorem sI_25 : FnScope ["self", "at"] ["self", "at"] (defScope si_25) := ⟨rfl, rfl, rfl, by decide +kernel, rfl, by decide +kernel, by decide +kernel⟩
theorem sI_26 : FnScope ["self", "least"] ["self", "least"] (defScope si_26) := ⟨rfl, rfl, rfl, by decide +kernel, rfl, by decide +kernel, by decide +kernel⟩
theorem sI_27 : FnScope ["self", "least"] ["self", "least"] (defScope si_27) := ⟨rfl, rfl, rfl, by decide +kernel, rfl, by decide +kernel, by decide +kernel⟩
theorem sI_28 : FnScope ["self", "place"] ["self", "place"] (defScope si_28) := ⟨rfl, rfl, rfl, by decide +kernel, rfl, by decide +kernel, by decide +kernel⟩
theorem sI_29 : FnScope ["self", "at"] ["self", "at"] (defScope si_29) := ⟨rfl, rfl, rfl, by decide +kernel, rfl, by decide +kernel, by decide +kernel⟩
theorem sI_30 : FnScope ["self", "at"] ["self", "at"] (defScope si_30) := ⟨rfl, rfl, rfl, by decide +kernel, rfl, by decide +kernel, by decide +kernel⟩
theorem sI_31 : FnScope ["self", "at"] ["self", "at"] (defScope si_31) := ⟨rfl, rfl, rfl, by decide +kernel, rfl, by decide +kernel, by decide +kernel⟩
theorem sI_33 : FnScope ["self", "size"] ["self", "size"] (defScope si_33) := ⟨rfl, rfl, rfl, by decide +kernel, rfl, by decide +kernel, by decide +kernel⟩
theorem sI_34 : FnScope ["self", "chain"] ["self", "chain"] (defScope si_34) := ⟨rfl, rfl, rfl, by decide +kernel, rfl, by decide +kernel, by decide +kernel⟩
theorem sI_35 : FnScope ["self", "at"] ["self", "at"] (defScope si_35) := ⟨rfl, rfl, rfl, by decide +kernel, rfl, by decide +kernel, by decide +kernel⟩
theorem sI_36 : FnScope ["self", "level", "where"] ["self", "level", "where"] (defScope si_36) := ⟨rfl, rfl, rfl, by decide +kernel, rfl, by decide +kernel, by decide +kernel⟩
theorem sI_37 : FnScope ["self", "bead"] ["self", "bead"] (defScope si_37) := ⟨rfl, rfl, rfl, by decide +kernel, rfl, by decide +kernel, by decide +kernel⟩
theorem sI_39 : FnScope ["self", "coins"] ["self", "coins"] (defScope si_39) := ⟨rfl, rfl, rfl, by decide +kernel, rfl, by decide +kernel, by decide +kernel⟩
theorem sI_40 : FnScope ["self", "price", "coins"] ["self", "price", "coins"] (defScope si_40) := ⟨rfl, rfl, rfl, by decide +kernel, rfl, by decide +kernel, by decide +kernel⟩
theorem sI_41 : FnScope ["self", "name"] ["self", "name"] (defScope si_41) := ⟨rfl, rfl, rfl, by decide +kernel, rfl, by decide +kernel, by decide +kernel⟩
theorem sI_42 : FnScope ["self", "name"] ["self", "name"] (defScope si_42) := ⟨rfl, rfl, rfl, by decide +kernel, rfl, by decide +kernel, by decide +kernel⟩
theorem sI_44 : FnScope ["self", "name"] ["self", "name"] (defScope si_44) := ⟨rfl, rfl, rfl, by decide +kernel, rfl, by decide +kernel, by decide +kernel⟩
theorem sI_46 : FnScope ["self", "at"] ["self", "at"] (defScope si_46) := ⟨rfl, rfl, rfl, by decide +kernel, rfl, by decide +kernel, by decide +kernel⟩
theorem sI_47 : FnScope ["self", "line"] ["self", "line"] (defScope si_47) := ⟨rfl, rfl, rfl, by decide +kernel, rfl, by decide +kernel, by decide +kernel⟩
theorem fx_of (X : K.In h) (G : h.Ns mainGlobals mg) (c : He.SaysD fa fn K) (e : allB K = true) : Fx P w K mg base (cak K) (He.ga K "MootError") := by
  have g0 : mg "BadStrand" = some (.ref (cak K 0)) := (He.glo_ok X G (c.fact 22 (f := .glo "BadStrand") rfl))
  obtain ⟨fd0, F0⟩ := c.def_ 12 (d := di_0) rfl
  have n0_at := (c.fact 24 (f := .noat "BadStrand" "at") rfl)
  have d0 : DV P w K mg base "BadStrand" (cak K 0) (gE1 "at") := dv1 g0 (own_of e (k := 0) (by decide)) (c.fact 23 (f := .meth "BadStrand" "__init__") rfl) n0_at F0 (F0.bindsN fun _ _ _ _ _ _ us hl => match us, hl with | [_, _], _ => rfl) sI_0 (Or.inl rfl) (Or.inl rfl) (by decide) (by decide) (by decide) (by decide)
  have g1 : mg "BadKind" = some (.ref (cak K 1)) := (He.glo_ok X G (c.fact 25 (f := .glo "BadKind") rfl))
  obtain ⟨fd1, F1⟩ := c.def_ 13 (d := di_1) rfl
  have n1_kind := (c.fact 27 (f := .noat "BadKind" "kind") rfl)
  have d1 : DV P w K mg base "BadKind" (cak K 1) (gE1 "kind") := dv1 g1 (own_of e (k := 1) (by decide)) (c.fact 26 (f := .meth "BadKind" "__init__") rfl) n1_kind F1 (F1.bindsN fun _ _ _ _ _ _ us hl => match us, hl with | [_, _], _ => rfl) sI_1 (Or.inl rfl) (Or.inl rfl) (by decide) (by decide) (by decide) (by decide)
  have g2 : mg "BadMark" = some (.ref (cak K 2)) := (He.glo_ok X G (c.fact 28 (f := .glo "BadMark") rfl))
  obtain ⟨fd2, F2⟩ := c.def_ 14 (d := di_2) rfl
  have n2_word := (c.fact 30 (f := .noat "BadMark" "word") rfl)
  have d2 : DV P w K mg base "BadMark" (cak K 2) (gE1 "word") := dv1 g2 (own_of e (k := 2) (by decide)) (c.fact 29 (f := .meth "BadMark" "__init__") rfl) n2_word F2 (F2.bindsN fun _ _ _ _ _ _ us hl => match us, hl with | [_, _], _ => rfl) sI_2 (Or.inl rfl) (Or.inl rfl) (by decide) (by decide) (by decide) (by decide)
  have g3 : mg "BadPrice" = some (.ref (cak K 3)) := (He.glo_ok X G (c.fact 31 (f := .glo "BadPrice") rfl))
  obtain ⟨fd3, F3⟩ := c.def_ 15 (d := di_3) rfl
  have n3_word := (c.fact 33 (f := .noat "BadPrice" "word") rfl)
  have d3 : DV P w K mg base "BadPrice" (cak K 3) (gE1 "word") := dv1 g3 (own_of e (k := 3) (by decide)) (c.fact 32 (f := .meth "BadPrice" "__init__") rfl) n3_word F3 (F3.bindsN fun _ _ _ _ _ _ us hl => match us, hl with | [_, _], _ => rfl) sI_3 (Or.inl rfl) (Or.inl rfl) (by decide) (by decide) (by decide) (by decide)
  have g4 : mg "NoSuchBead" = some (.ref (cak K 4)) := (He.glo_ok X G (c.fact 34 (f := .glo "NoSuchBead") rfl))
  obtain ⟨fd4, F4⟩ := c.def_ 16 (d := di_4) rfl
  have n4_bead := (c.fact 36 (f := .noat "NoSuchBead" "bead") rfl)
  have d4 : DV P w K mg base "NoSuchBead" (cak K 4) (gE1 "bead") := dv1 g4 (own_of e (k := 4) (by decide)) (c.fact 35 (f := .meth "NoSuchBead" "__init__") rfl) n4_bead F4 (F4.bindsN fun _ _ _ _ _ _ us hl => match us, hl with | [_, _], _ => rfl) sI_4 (Or.inl rfl) (Or.inl rfl) (by decide) (by decide) (by decide) (by decide)
  have g5 : mg "GoneBead" = some (.ref (cak K 5)) := (He.glo_ok X G (c.fact 37 (f := .glo "GoneBead") rfl))
  obtain ⟨fd5, F5⟩ := c.def_ 17 (d := di_5) rfl
  have n5_bead := (c.fact 39 (f := .noat "GoneBead" "bead") rfl)
  have d5 : DV P w K mg base "GoneBead" (cak K 5) (gE1 "bead") := dv1 g5 (own_of e (k := 5) (by decide)) (c.fact 38 (f := .meth "GoneBead" "__init__") rfl) n5_bead F5 (F5.bindsN fun _ _ _ _ _ _ us hl => match us, hl with | [_, _], _ => rfl) sI_5 (Or.inl rfl) (Or.inl rfl) (by decide) (by decide) (by decide) (by decide)
  have g6 : mg "EndBead" = some (.ref (cak K 6)) := (He.glo_ok X G (c.fact 40 (f := .glo "EndBead") rfl))
  obtain ⟨fd6, F6⟩ := c.def_ 18 (d := di_6) rfl
  have n6_bead := (c.fact 42 (f := .noat "EndBead" "bead") rfl)
  have d6 : DV P w K mg base "EndBead" (cak K 6) (gE1 "bead") := dv1 g6 (own_of e (k := 6) (by decide)) (c.fact 41 (f := .meth "EndBead" "__init__") rfl) n6_bead F6 (F6.bindsN fun _ _ _ _ _ _ us hl => match us, hl with | [_, _], _ => rfl) sI_6 (Or.inl rfl) (Or.inl rfl) (by decide) (by decide) (by decide) (by decide)
  have g7 : mg "NotApart" = some (.ref (cak K 7)) := (He.glo_ok X G (c.fact 43 (f := .glo "NotApart") rfl))
  obtain ⟨fd7, F7⟩ := c.def_ 19 (d := di_7) rfl
  have n7_left := (c.fact 45 (f := .noat "NotApart" "left") rfl)
  have n7_right := (c.fact 46 (f := .noat "NotApart" "right") rfl)
  have d7 : DV P w K mg base "NotApart" (cak K 7) (gE2 "left" "right") := dv2 g7 (own_of e (k := 7) (by decide)) (c.fact 44 (f := .meth "NotApart" "__init__") rfl) n7_left n7_right F7 (F7.bindsN fun _ _ _ _ _ _ us hl => match us, hl with | [_, _, _], _ => rfl) sI_7 (Or.inl rfl) (Or.inl rfl) (Or.inl rfl) (by decide) (by decide) (by decide) (by decide) (by decide) (by decide)
  have g8 : mg "RowFull" = some (.ref (cak K 8)) := (He.glo_ok X G (c.fact 47 (f := .glo "RowFull") rfl))
  have x8 := He.exc_ok (c.fact 48 (f := .exc "RowFull") rfl)
  have g9 : mg "NothingToUndo" = some (.ref (cak K 9)) := (He.glo_ok X G (c.fact 49 (f := .glo "NothingToUndo") rfl))
  have x9 := He.exc_ok (c.fact 50 (f := .exc "NothingToUndo") rfl)
  have g10 : mg "NothingToRedo" = some (.ref (cak K 10)) := (He.glo_ok X G (c.fact 51 (f := .glo "NothingToRedo") rfl))
  have x10 := He.exc_ok (c.fact 52 (f := .exc "NothingToRedo") rfl)
  have g11 : mg "BadRun" = some (.ref (cak K 11)) := (He.glo_ok X G (c.fact 53 (f := .glo "BadRun") rfl))
  obtain ⟨fd11, F11⟩ := c.def_ 20 (d := di_11) rfl
  have n11_at := (c.fact 55 (f := .noat "BadRun" "at") rfl)
  have d11 : DV P w K mg base "BadRun" (cak K 11) (gE1 "at") := dv1 g11 (own_of e (k := 11) (by decide)) (c.fact 54 (f := .meth "BadRun" "__init__") rfl) n11_at F11 (F11.bindsN fun _ _ _ _ _ _ us hl => match us, hl with | [_, _], _ => rfl) sI_11 (Or.inl rfl) (Or.inl rfl) (by decide) (by decide) (by decide) (by decide)
  have g12 : mg "TwoLeft" = some (.ref (cak K 12)) := (He.glo_ok X G (c.fact 56 (f := .glo "TwoLeft") rfl))
  have x12 := He.exc_ok (c.fact 57 (f := .exc "TwoLeft") rfl)
  have g13 : mg "NotDone" = some (.ref (cak K 13)) := (He.glo_ok X G (c.fact 58 (f := .glo "NotDone") rfl))
  have x13 := He.exc_ok (c.fact 59 (f := .exc "NotDone") rfl)
  have g14 : mg "BadBook" = some (.ref (cak K 14)) := (He.glo_ok X G (c.fact 60 (f := .glo "BadBook") rfl))
  obtain ⟨fd14, F14⟩ := c.def_ 21 (d := di_14) rfl
  have n14_rule := (c.fact 62 (f := .noat "BadBook" "rule") rfl)
  have n14_where := (c.fact 63 (f := .noat "BadBook" "where") rfl)
  have d14 : DV P w K mg base "BadBook" (cak K 14) (gE2 "rule" "where") := dv2 g14 (own_of e (k := 14) (by decide)) (c.fact 61 (f := .meth "BadBook" "__init__") rfl) n14_rule n14_where F14 (F14.bindsN fun _ _ _ _ _ _ us hl => match us, hl with | [_, _, _], _ => rfl) sI_14 (Or.inl rfl) (Or.inl rfl) (Or.inl rfl) (by decide) (by decide) (by decide) (by decide) (by decide) (by decide)
  have g15 : mg "OtherStrand" = some (.ref (cak K 15)) := (He.glo_ok X G (c.fact 64 (f := .glo "OtherStrand") rfl))
  have x15 := He.exc_ok (c.fact 65 (f := .exc "OtherStrand") rfl)
  have g16 : mg "NotGood" = some (.ref (cak K 16)) := (He.glo_ok X G (c.fact 66 (f := .glo "NotGood") rfl))
  obtain ⟨fd16, F16⟩ := c.def_ 22 (d := di_16) rfl
  have n16_gap := (c.fact 68 (f := .noat "NotGood" "gap") rfl)
  have d16 : DV P w K mg base "NotGood" (cak K 16) (gE1 "gap") := dv1 g16 (own_of e (k := 16) (by decide)) (c.fact 67 (f := .meth "NotGood" "__init__") rfl) n16_gap F16 (F16.bindsN fun _ _ _ _ _ _ us hl => match us, hl with | [_, _], _ => rfl) sI_16 (Or.inl rfl) (Or.inl rfl) (by decide) (by decide) (by decide) (by decide)
  have g17 : mg "OutOfReach" = some (.ref (cak K 17)) := (He.glo_ok X G (c.fact 69 (f := .glo "OutOfReach") rfl))
  obtain ⟨fd17, F17⟩ := c.def_ 23 (d := di_17) rfl
  have n17_least := (c.fact 71 (f := .noat "OutOfReach" "least") rfl)
  have n17_greatest := (c.fact 72 (f := .noat "OutOfReach" "greatest") rfl)
  have d17 : DV P w K mg base "OutOfReach" (cak K 17) (gE2 "least" "greatest") := dv2 g17 (own_of e (k := 17) (by decide)) (c.fact 70 (f := .meth "OutOfReach" "__init__") rfl) n17_least n17_greatest F17 (F17.bindsN fun _ _ _ _ _ _ us hl => match us, hl with | [_, _, _], _ => rfl) sI_17 (Or.inl rfl) (Or.inl rfl) (Or.inl rfl) (by decide) (by decide) (by decide) (by decide) (by decide) (by decide)
  have g18 : mg "BadFloors" = some (.ref (cak K 18)) := (He.glo_ok X G (c.fact 73 (f := .glo "BadFloors") rfl))
  obtain ⟨fd18, F18⟩ := c.def_ 24 (d := di_18) rfl
  have n18_where := (c.fact 75 (f := .noat "BadFloors" "where") rfl)
  have d18 : DV P w K mg base "BadFloors" (cak K 18) (gE1 "where") := dv1 g18 (own_of e (k := 18) (by decide)) (c.fact 74 (f := .meth "BadFloors" "__init__") rfl) n18_where F18 (F18.bindsN fun _ _ _ _ _ _ us hl => match us, hl with | [_, _], _ => rfl) sI_18 (Or.inl rfl) (Or.inl rfl) (by decide) (by decide) (by decide) (by decide)
  have g19 : mg "CannotBe" = some (.ref (cak K 19)) := (He.glo_ok X G (c.fact 76 (f := .glo "CannotBe") rfl))
  obtain ⟨fd19, F19⟩ := c.def_ 25 (d := di_19) rfl
  have n19_word := (c.fact 78 (f := .noat "CannotBe" "word") rfl)
  have n19_bound := (c.fact 79 (f := .noat "CannotBe" "bound") rfl)
  have d19 : DV P w K mg base "CannotBe" (cak K 19) (gE2 "word" "bound") := dv2 g19 (own_of e (k := 19) (by decide)) (c.fact 77 (f := .meth "CannotBe" "__init__") rfl) n19_word n19_bound F19 (F19.bindsN fun _ _ _ _ _ _ us hl => match us, hl with | [_, _, _], _ => rfl) sI_19 (Or.inl rfl) (Or.inl rfl) (Or.inl rfl) (by decide) (by decide) (by decide) (by decide) (by decide) (by decide)
  have g20 : mg "NoSuchTotal" = some (.ref (cak K 20)) := (He.glo_ok X G (c.fact 80 (f := .glo "NoSuchTotal") rfl))
  obtain ⟨fd20, F20⟩ := c.def_ 26 (d := di_20) rfl
  have n20_below := (c.fact 82 (f := .noat "NoSuchTotal" "below") rfl)
  have n20_above := (c.fact 83 (f := .noat "NoSuchTotal" "above") rfl)
  have d20 : DV P w K mg base "NoSuchTotal" (cak K 20) (gE2 "below" "above") := dv2 g20 (own_of e (k := 20) (by decide)) (c.fact 81 (f := .meth "NoSuchTotal" "__init__") rfl) n20_below n20_above F20 (F20.bindsN fun _ _ _ _ _ _ us hl => match us, hl with | [_, _, _], _ => rfl) sI_20 (Or.inl rfl) (Or.inl rfl) (Or.inl rfl) (by decide) (by decide) (by decide) (by decide) (by decide) (by decide)
  have g21 : mg "TooManyStretches" = some (.ref (cak K 21)) := (He.glo_ok X G (c.fact 84 (f := .glo "TooManyStretches") rfl))
  obtain ⟨fd21, F21⟩ := c.def_ 27 (d := di_21) rfl
  have n21_count := (c.fact 86 (f := .noat "TooManyStretches" "count") rfl)
  have d21 : DV P w K mg base "TooManyStretches" (cak K 21) (gE1 "count") := dv1 g21 (own_of e (k := 21) (by decide)) (c.fact 85 (f := .meth "TooManyStretches" "__init__") rfl) n21_count F21 (F21.bindsN fun _ _ _ _ _ _ us hl => match us, hl with | [_, _], _ => rfl) sI_21 (Or.inl rfl) (Or.inl rfl) (by decide) (by decide) (by decide) (by decide)
  have g22 : mg "NoSuchNumber" = some (.ref (cak K 22)) := (He.glo_ok X G (c.fact 87 (f := .glo "NoSuchNumber") rfl))
  obtain ⟨fd22, F22⟩ := c.def_ 28 (d := di_22) rfl
  have n22_number := (c.fact 89 (f := .noat "NoSuchNumber" "number") rfl)
  have n22_count := (c.fact 90 (f := .noat "NoSuchNumber" "count") rfl)
  have d22 : DV P w K mg base "NoSuchNumber" (cak K 22) (gE2 "number" "count") := dv2 g22 (own_of e (k := 22) (by decide)) (c.fact 88 (f := .meth "NoSuchNumber" "__init__") rfl) n22_number n22_count F22 (F22.bindsN fun _ _ _ _ _ _ us hl => match us, hl with | [_, _, _], _ => rfl) sI_22 (Or.inl rfl) (Or.inl rfl) (Or.inl rfl) (by decide) (by decide) (by decide) (by decide) (by decide) (by decide)
  have g23 : mg "NotTwoKinds" = some (.ref (cak K 23)) := (He.glo_ok X G (c.fact 91 (f := .glo "NotTwoKinds") rfl))
  obtain ⟨fd23, F23⟩ := c.def_ 29 (d := di_23) rfl
  have n23_variety := (c.fact 93 (f := .noat "NotTwoKinds" "variety") rfl)
  have d23 : DV P w K mg base "NotTwoKinds" (cak K 23) (gE1 "variety") := dv1 g23 (own_of e (k := 23) (by decide)) (c.fact 92 (f := .meth "NotTwoKinds" "__init__") rfl) n23_variety F23 (F23.bindsN fun _ _ _ _ _ _ us hl => match us, hl with | [_, _], _ => rfl) sI_23 (Or.inl rfl) (Or.inl rfl) (by decide) (by decide) (by decide) (by decide)
  have g24 : mg "TooManyBeads" = some (.ref (cak K 24)) := (He.glo_ok X G (c.fact 94 (f := .glo "TooManyBeads") rfl))
  obtain ⟨fd24, F24⟩ := c.def_ 30 (d := di_24) rfl
  have n24_size := (c.fact 96 (f := .noat "TooManyBeads" "size") rfl)
  have d24 : DV P w K mg base "TooManyBeads" (cak K 24) (gE1 "size") := dv1 g24 (own_of e (k := 24) (by decide)) (c.fact 95 (f := .meth "TooManyBeads" "__init__") rfl) n24_size F24 (F24.bindsN fun _ _ _ _ _ _ us hl => match us, hl with | [_, _], _ => rfl) sI_24 (Or.inl rfl) (Or.inl rfl) (by decide) (by decide) (by decide) (by decide)
  have g25 : mg "BadLeft" = some (.ref (cak K 25)) := (He.glo_ok X G (c.fact 97 (f := .glo "BadLeft") rfl))
  obtain ⟨fd25, F25⟩ := c.def_ 31 (d := di_25) rfl
  have n25_at := (c.fact 99 (f := .noat "BadLeft" "at") rfl)
  have d25 : DV P w K mg base "BadLeft" (cak K 25) (gE1 "at") := dv1 g25 (own_of e (k := 25) (by decide)) (c.fact 98 (f := .meth "BadLeft" "__init__") rfl) n25_at F25 (F25.bindsN fun _ _ _ _ _ _ us hl => match us, hl with | [_, _], _ => rfl) sI_25 (Or.inl rfl) (Or.inl rfl) (by decide) (by decide) (by decide) (by decide)
  have g26 : mg "NotEnough" = some (.ref (cak K 26)) := (He.glo_ok X G (c.fact 100 (f := .glo "NotEnough") rfl))
  obtain ⟨fd26, F26⟩ := c.def_ 32 (d := di_26) rfl
  have n26_least := (c.fact 102 (f := .noat "NotEnough" "least") rfl)
  have d26 : DV P w K mg base "NotEnough" (cak K 26) (gE1 "least") := dv1 g26 (own_of e (k := 26) (by decide)) (c.fact 101 (f := .meth "NotEnough" "__init__") rfl) n26_least F26 (F26.bindsN fun _ _ _ _ _ _ us hl => match us, hl with | [_, _], _ => rfl) sI_26 (Or.inl rfl) (Or.inl rfl) (by decide) (by decide) (by decide) (by decide)
  have g27 : mg "NotFree" = some (.ref (cak K 27)) := (He.glo_ok X G (c.fact 103 (f := .glo "NotFree") rfl))
  obtain ⟨fd27, F27⟩ := c.def_ 33 (d := di_27) rfl
  have n27_least := (c.fact 105 (f := .noat "NotFree" "least") rfl)
  have d27 : DV P w K mg base "NotFree" (cak K 27) (gE1 "least") := dv1 g27 (own_of e (k := 27) (by decide)) (c.fact 104 (f := .meth "NotFree" "__init__") rfl) n27_least F27 (F27.bindsN fun _ _ _ _ _ _ us hl => match us, hl with | [_, _], _ => rfl) sI_27 (Or.inl rfl) (Or.inl rfl) (by decide) (by decide) (by decide) (by decide)
  have g28 : mg "BadPlace" = some (.ref (cak K 28)) := (He.glo_ok X G (c.fact 106 (f := .glo "BadPlace") rfl))
  obtain ⟨fd28, F28⟩ := c.def_ 34 (d := di_28) rfl
  have n28_place := (c.fact 108 (f := .noat "BadPlace" "place") rfl)
  have d28 : DV P w K mg base "BadPlace" (cak K 28) (gE1 "place") := dv1 g28 (own_of e (k := 28) (by decide)) (c.fact 107 (f := .meth "BadPlace" "__init__") rfl) n28_place F28 (F28.bindsN fun _ _ _ _ _ _ us hl => match us, hl with | [_, _], _ => rfl) sI_28 (Or.inl rfl) (Or.inl rfl) (by decide) (by decide) (by decide) (by decide)
  have g29 : mg "BadLog" = some (.ref (cak K 29)) := (He.glo_ok X G (c.fact 109 (f := .glo "BadLog") rfl))
  obtain ⟨fd29, F29⟩ := c.def_ 35 (d := di_29) rfl
  have n29_at := (c.fact 111 (f := .noat "BadLog" "at") rfl)
  have d29 : DV P w K mg base "BadLog" (cak K 29) (gE1 "at") := dv1 g29 (own_of e (k := 29) (by decide)) (c.fact 110 (f := .meth "BadLog" "__init__") rfl) n29_at F29 (F29.bindsN fun _ _ _ _ _ _ us hl => match us, hl with | [_, _], _ => rfl) sI_29 (Or.inl rfl) (Or.inl rfl) (by decide) (by decide) (by decide) (by decide)
  have g30 : mg "NoFit" = some (.ref (cak K 30)) := (He.glo_ok X G (c.fact 112 (f := .glo "NoFit") rfl))
  obtain ⟨fd30, F30⟩ := c.def_ 36 (d := di_30) rfl
  have n30_at := (c.fact 114 (f := .noat "NoFit" "at") rfl)
  have d30 : DV P w K mg base "NoFit" (cak K 30) (gE1 "at") := dv1 g30 (own_of e (k := 30) (by decide)) (c.fact 113 (f := .meth "NoFit" "__init__") rfl) n30_at F30 (F30.bindsN fun _ _ _ _ _ _ us hl => match us, hl with | [_, _], _ => rfl) sI_30 (Or.inl rfl) (Or.inl rfl) (by decide) (by decide) (by decide) (by decide)
  have g31 : mg "BadText" = some (.ref (cak K 31)) := (He.glo_ok X G (c.fact 115 (f := .glo "BadText") rfl))
  obtain ⟨fd31, F31⟩ := c.def_ 37 (d := di_31) rfl
  have n31_at := (c.fact 117 (f := .noat "BadText" "at") rfl)
  have d31 : DV P w K mg base "BadText" (cak K 31) (gE1 "at") := dv1 g31 (own_of e (k := 31) (by decide)) (c.fact 116 (f := .meth "BadText" "__init__") rfl) n31_at F31 (F31.bindsN fun _ _ _ _ _ _ us hl => match us, hl with | [_, _], _ => rfl) sI_31 (Or.inl rfl) (Or.inl rfl) (by decide) (by decide) (by decide) (by decide)
  have g32 : mg "NoSuchTally" = some (.ref (cak K 32)) := (He.glo_ok X G (c.fact 118 (f := .glo "NoSuchTally") rfl))
  have x32 := He.exc_ok (c.fact 119 (f := .exc "NoSuchTally") rfl)
  have g33 : mg "BadSize" = some (.ref (cak K 33)) := (He.glo_ok X G (c.fact 120 (f := .glo "BadSize") rfl))
  obtain ⟨fd33, F33⟩ := c.def_ 38 (d := di_33) rfl
  have n33_size := (c.fact 122 (f := .noat "BadSize" "size") rfl)
  have d33 : DV P w K mg base "BadSize" (cak K 33) (gE1 "size") := dv1 g33 (own_of e (k := 33) (by decide)) (c.fact 121 (f := .meth "BadSize" "__init__") rfl) n33_size F33 (F33.bindsN fun _ _ _ _ _ _ us hl => match us, hl with | [_, _], _ => rfl) sI_33 (Or.inl rfl) (Or.inl rfl) (by decide) (by decide) (by decide) (by decide)
  have g34 : mg "Clash" = some (.ref (cak K 34)) := (He.glo_ok X G (c.fact 123 (f := .glo "Clash") rfl))
  obtain ⟨fd34, F34⟩ := c.def_ 39 (d := di_34) rfl
  have n34_chain := (c.fact 125 (f := .noat "Clash" "chain") rfl)
  have d34 : DV P w K mg base "Clash" (cak K 34) (gE1 "chain") := dv1 g34 (own_of e (k := 34) (by decide)) (c.fact 124 (f := .meth "Clash" "__init__") rfl) n34_chain F34 (F34.bindsN fun _ _ _ _ _ _ us hl => match us, hl with | [_, _], _ => rfl) sI_34 (Or.inl rfl) (Or.inl rfl) (by decide) (by decide) (by decide) (by decide)
  have g35 : mg "BadJoin" = some (.ref (cak K 35)) := (He.glo_ok X G (c.fact 126 (f := .glo "BadJoin") rfl))
  obtain ⟨fd35, F35⟩ := c.def_ 40 (d := di_35) rfl
  have n35_at := (c.fact 128 (f := .noat "BadJoin" "at") rfl)
  have d35 : DV P w K mg base "BadJoin" (cak K 35) (gE1 "at") := dv1 g35 (own_of e (k := 35) (by decide)) (c.fact 127 (f := .meth "BadJoin" "__init__") rfl) n35_at F35 (F35.bindsN fun _ _ _ _ _ _ us hl => match us, hl with | [_, _], _ => rfl) sI_35 (Or.inl rfl) (Or.inl rfl) (by decide) (by decide) (by decide) (by decide)
  have g36 : mg "NotNested" = some (.ref (cak K 36)) := (He.glo_ok X G (c.fact 129 (f := .glo "NotNested") rfl))
  obtain ⟨fd36, F36⟩ := c.def_ 41 (d := di_36) rfl
  have n36_level := (c.fact 131 (f := .noat "NotNested" "level") rfl)
  have n36_where := (c.fact 132 (f := .noat "NotNested" "where") rfl)
  have d36 : DV P w K mg base "NotNested" (cak K 36) (gE2 "level" "where") := dv2 g36 (own_of e (k := 36) (by decide)) (c.fact 130 (f := .meth "NotNested" "__init__") rfl) n36_level n36_where F36 (F36.bindsN fun _ _ _ _ _ _ us hl => match us, hl with | [_, _, _], _ => rfl) sI_36 (Or.inl rfl) (Or.inl rfl) (Or.inl rfl) (by decide) (by decide) (by decide) (by decide) (by decide) (by decide)
  have g37 : mg "QuietMove" = some (.ref (cak K 37)) := (He.glo_ok X G (c.fact 133 (f := .glo "QuietMove") rfl))
  obtain ⟨fd37, F37⟩ := c.def_ 42 (d := di_37) rfl
  have n37_bead := (c.fact 135 (f := .noat "QuietMove" "bead") rfl)
  have d37 : DV P w K mg base "QuietMove" (cak K 37) (gE1 "bead") := dv1 g37 (own_of e (k := 37) (by decide)) (c.fact 134 (f := .meth "QuietMove" "__init__") rfl) n37_bead F37 (F37.bindsN fun _ _ _ _ _ _ us hl => match us, hl with | [_, _], _ => rfl) sI_37 (Or.inl rfl) (Or.inl rfl) (by decide) (by decide) (by decide) (by decide)
  have g38 : mg "BadClaim" = some (.ref (cak K 38)) := (He.glo_ok X G (c.fact 136 (f := .glo "BadClaim") rfl))
  have x38 := He.exc_ok (c.fact 137 (f := .exc "BadClaim") rfl)
  have g39 : mg "BadCoins" = some (.ref (cak K 39)) := (He.glo_ok X G (c.fact 138 (f := .glo "BadCoins") rfl))
  obtain ⟨fd39, F39⟩ := c.def_ 43 (d := di_39) rfl
  have n39_coins := (c.fact 140 (f := .noat "BadCoins" "coins") rfl)
  have d39 : DV P w K mg base "BadCoins" (cak K 39) (gE1 "coins") := dv1 g39 (own_of e (k := 39) (by decide)) (c.fact 139 (f := .meth "BadCoins" "__init__") rfl) n39_coins F39 (F39.bindsN fun _ _ _ _ _ _ us hl => match us, hl with | [_, _], _ => rfl) sI_39 (Or.inl rfl) (Or.inl rfl) (by decide) (by decide) (by decide) (by decide)
  have g40 : mg "NoCoins" = some (.ref (cak K 40)) := (He.glo_ok X G (c.fact 141 (f := .glo "NoCoins") rfl))
  obtain ⟨fd40, F40⟩ := c.def_ 44 (d := di_40) rfl
  have n40_price := (c.fact 143 (f := .noat "NoCoins" "price") rfl)
  have n40_coins := (c.fact 144 (f := .noat "NoCoins" "coins") rfl)
  have d40 : DV P w K mg base "NoCoins" (cak K 40) (gE2 "price" "coins") := dv2 g40 (own_of e (k := 40) (by decide)) (c.fact 142 (f := .meth "NoCoins" "__init__") rfl) n40_price n40_coins F40 (F40.bindsN fun _ _ _ _ _ _ us hl => match us, hl with | [_, _, _], _ => rfl) sI_40 (Or.inl rfl) (Or.inl rfl) (Or.inl rfl) (by decide) (by decide) (by decide) (by decide) (by decide) (by decide)
  have g41 : mg "BadName" = some (.ref (cak K 41)) := (He.glo_ok X G (c.fact 145 (f := .glo "BadName") rfl))
  obtain ⟨fd41, F41⟩ := c.def_ 45 (d := di_41) rfl
  have n41_name := (c.fact 147 (f := .noat "BadName" "name") rfl)
  have d41 : DV P w K mg base "BadName" (cak K 41) (gE1 "name") := dv1 g41 (own_of e (k := 41) (by decide)) (c.fact 146 (f := .meth "BadName" "__init__") rfl) n41_name F41 (F41.bindsN fun _ _ _ _ _ _ us hl => match us, hl with | [_, _], _ => rfl) sI_41 (Or.inl rfl) (Or.inl rfl) (by decide) (by decide) (by decide) (by decide)
  have g42 : mg "NameTaken" = some (.ref (cak K 42)) := (He.glo_ok X G (c.fact 148 (f := .glo "NameTaken") rfl))
  obtain ⟨fd42, F42⟩ := c.def_ 46 (d := di_42) rfl
  have n42_name := (c.fact 150 (f := .noat "NameTaken" "name") rfl)
  have d42 : DV P w K mg base "NameTaken" (cak K 42) (gE1 "name") := dv1 g42 (own_of e (k := 42) (by decide)) (c.fact 149 (f := .meth "NameTaken" "__init__") rfl) n42_name F42 (F42.bindsN fun _ _ _ _ _ _ us hl => match us, hl with | [_, _], _ => rfl) sI_42 (Or.inl rfl) (Or.inl rfl) (by decide) (by decide) (by decide) (by decide)
  have g43 : mg "DeskFull" = some (.ref (cak K 43)) := (He.glo_ok X G (c.fact 151 (f := .glo "DeskFull") rfl))
  have x43 := He.exc_ok (c.fact 152 (f := .exc "DeskFull") rfl)
  have g44 : mg "NoSuchRow" = some (.ref (cak K 44)) := (He.glo_ok X G (c.fact 153 (f := .glo "NoSuchRow") rfl))
  obtain ⟨fd44, F44⟩ := c.def_ 47 (d := di_44) rfl
  have n44_name := (c.fact 155 (f := .noat "NoSuchRow" "name") rfl)
  have d44 : DV P w K mg base "NoSuchRow" (cak K 44) (gE1 "name") := dv1 g44 (own_of e (k := 44) (by decide)) (c.fact 154 (f := .meth "NoSuchRow" "__init__") rfl) n44_name F44 (F44.bindsN fun _ _ _ _ _ _ us hl => match us, hl with | [_, _], _ => rfl) sI_44 (Or.inl rfl) (Or.inl rfl) (by decide) (by decide) (by decide) (by decide)
  have g45 : mg "BadLine" = some (.ref (cak K 45)) := (He.glo_ok X G (c.fact 156 (f := .glo "BadLine") rfl))
  have x45 := He.exc_ok (c.fact 157 (f := .exc "BadLine") rfl)
  have g46 : mg "Refused" = some (.ref (cak K 46)) := (He.glo_ok X G (c.fact 158 (f := .glo "Refused") rfl))
  obtain ⟨fd46, F46⟩ := c.def_ 48 (d := di_46) rfl
  have n46_at := (c.fact 160 (f := .noat "Refused" "at") rfl)
  have d46 : DV P w K mg base "Refused" (cak K 46) (gE1 "at") := dv1 g46 (own_of e (k := 46) (by decide)) (c.fact 159 (f := .meth "Refused" "__init__") rfl) n46_at F46 (F46.bindsN fun _ _ _ _ _ _ us hl => match us, hl with | [_, _], _ => rfl) sI_46 (Or.inl rfl) (Or.inl rfl) (by decide) (by decide) (by decide) (by decide)
  have g47 : mg "BadJournal" = some (.ref (cak K 47)) := (He.glo_ok X G (c.fact 161 (f := .glo "BadJournal") rfl))
  obtain ⟨fd47, F47⟩ := c.def_ 49 (d := di_47) rfl
  have n47_line := (c.fact 163 (f := .noat "BadJournal" "line") rfl)
  have d47 : DV P w K mg base "BadJournal" (cak K 47) (gE1 "line") := dv1 g47 (own_of e (k := 47) (by decide)) (c.fact 162 (f := .meth "BadJournal" "__init__") rfl) n47_line F47 (F47.bindsN fun _ _ _ _ _ _ us hl => match us, hl with | [_, _], _ => rfl) sI_47 (Or.inl rfl) (Or.inl rfl) (by decide) (by decide) (by decide) (by decide)
  have one : ∀ k, k < 48 → _ := fun k hk => one_of e (k := k) hk
  exact ⟨g0, d0, He.noat_ok n0_at, g1, d1, He.noat_ok n1_kind, g2, d2, He.noat_ok n2_word, g3, d3, He.noat_ok n3_word, g4, d4, He.noat_ok n4_bead, g5, d5, He.noat_ok n5_bead, g6, d6, He.noat_ok n6_bead, g7, d7, He.noat_ok n7_left, He.noat_ok n7_right, g8, x8.1, x8.2.1, g9, x9.1, x9.2.1, g10, x10.1, x10.2.1, g11, d11, He.noat_ok n11_at, g12, x12.1, x12.2.1, g13, x13.1, x13.2.1, g14, d14, He.noat_ok n14_rule, He.noat_ok n14_where, g15, x15.1, x15.2.1, g16, d16, He.noat_ok n16_gap, g17, d17, He.noat_ok n17_least, He.noat_ok n17_greatest, g18, d18, He.noat_ok n18_where, g19, d19, He.noat_ok n19_word, He.noat_ok n19_bound, g20, d20, He.noat_ok n20_below, He.noat_ok n20_above, g21, d21, He.noat_ok n21_count, g22, d22, He.noat_ok n22_number, He.noat_ok n22_count, g23, d23, He.noat_ok n23_variety, g24, d24, He.noat_ok n24_size, g25, d25, He.noat_ok n25_at, g26, d26, He.noat_ok n26_least, g27, d27, He.noat_ok n27_least, g28, d28, He.noat_ok n28_place, g29, d29, He.noat_ok n29_at, g30, d30, He.noat_ok n30_at, g31, d31, He.noat_ok n31_at, g32, x32.1, x32.2.1, g33, d33, He.noat_ok n33_size, g34, d34, He.noat_ok n34_chain, g35, d35, He.noat_ok n35_at, g36, d36, He.noat_ok n36_level, He.noat_ok n36_where, g37, d37, He.noat_ok n37_bead, g38, x38.1, x38.2.1, g39, d39, He.noat_ok n39_coins, g40, d40, He.noat_ok n40_price, He.noat_ok n40_coins, g41, d41, He.noat_ok n41_name, g42, d42, He.noat_ok n42_name, g43, x43.1, x43.2.1, g44, d44, He.noat_ok n44_name, g45, x45.1, x45.2.1, g46, d46, He.noat_ok n46_at, g47, d47, He.noat_ok n47_line, fun k hk => (excB_ok (He.ba (one k hk)).1).2, fun k hk => (excB_ok (He.ba (one k hk)).1).1, kit_all e, fun i hi => kit_M e hi, fun i hi => kit_V e hi, He.glo_ok X G (c.fact 0 (f := .glo "MootError") rfl)⟩
theorem df_of {x : Str} {st : Stmt} {ps : List Str} {sp : Sp} {k : Nat} (F : FnP K x st f fd) (m : mg x = some (.ref f)) (ok : FnOk P w K mg base CX0 k f fd ps sp) (bd : Binds K fd ps []) : DF P w K mg base k x sp := ⟨⟨f, fd, ps, ok, m, F.kp, bd⟩⟩
theorem facts (X : K.In h) (G : h.Ns mainGlobals mg) (hfa : mg ("law" : Str) = some (.ref f)) (c : He.SaysD fa fn K) (e : allB K = true) :
    ∃ fd : FuncData, (∀ (s : Shared) (v : Value), BindsTo s fd ⟨[v], []⟩ [("_law_script", v)]) ∧ ∀ base : Heap, K.In base → base.Ns mainGlobals mg → FnOk P w K mg base CX0 7 f fd ["_law_script"] (spD K gLaw) := by
  obtain ⟨fd_law_cell, F_law_cell⟩ := c.def_ 0 (d := dd_law_cell) rfl
  have G_law_cell := He.glo_ok X G (c.fact 1 (f := .glo "_law_cell") rfl)
  obtain ⟨fd_law_mixed, F_law_mixed⟩ := c.def_ 1 (d := dd_law_mixed) rfl
  have G_law_mixed := He.glo_ok X G (c.fact 2 (f := .glo "_law_mixed") rfl)
  obtain ⟨fd_law_draws, F_law_draws⟩ := c.def_ 2 (d := dd_law_draws) rfl
  have G_law_draws := He.glo_ok X G (c.fact 3 (f := .glo "_law_draws") rfl)
  obtain ⟨fd_law_is_integer, F_law_is_integer⟩ := c.def_ 3 (d := dd_law_is_integer) rfl
  have G_law_is_integer := He.glo_ok X G (c.fact 4 (f := .glo "_law_is_integer") rfl)
  obtain ⟨fd_law_same, F_law_same⟩ := c.def_ 4 (d := dd_law_same) rfl
  have G_law_same := He.glo_ok X G (c.fact 5 (f := .glo "_law_same") rfl)
  obtain ⟨fd_law_values, F_law_values⟩ := c.def_ 5 (d := dd_law_values) rfl
  have G_law_values := He.glo_ok X G (c.fact 6 (f := .glo "_law_values") rfl)
  obtain ⟨fd_law_made, F_law_made⟩ := c.def_ 6 (d := dd_law_made) rfl
  have G_law_made := He.glo_ok X G (c.fact 7 (f := .glo "_law_made") rfl)
  obtain ⟨fd_law_made_more, F_law_made_more⟩ := c.def_ 7 (d := dd_law_made_more) rfl
  have G_law_made_more := He.glo_ok X G (c.fact 8 (f := .glo "_law_made_more") rfl)
  obtain ⟨fd_law_made_last, F_law_made_last⟩ := c.def_ 8 (d := dd_law_made_last) rfl
  have G_law_made_last := He.glo_ok X G (c.fact 9 (f := .glo "_law_made_last") rfl)
  obtain ⟨fd_law_answers, F_law_answers⟩ := c.def_ 9 (d := dd_law_answers) rfl
  have G_law_answers := He.glo_ok X G (c.fact 10 (f := .glo "_law_answers") rfl)
  obtain ⟨fd_law_holds, F_law_holds⟩ := c.def_ 10 (d := dd_law_holds) rfl
  have G_law_holds := He.glo_ok X G (c.fact 11 (f := .glo "_law_holds") rfl)
  obtain ⟨fdlaw, Flaw⟩ := c.def_ 11 (d := dd_law) rfl
  have Glaw := He.glo_ok X G (c.fact 12 (f := .glo "law") rfl)
  have m_int := He.free_ok X G (c.fact 13 (f := .free "int") rfl)
  have m_range := He.free_ok X G (c.fact 14 (f := .free "range") rfl)
  have m_len := He.free_ok X G (c.fact 15 (f := .free "len") rfl)
  have m_isinstance := He.free_ok X G (c.fact 16 (f := .free "isinstance") rfl)
  have m_str := He.free_ok X G (c.fact 17 (f := .free "str") rfl)
  have m_list := He.free_ok X G (c.fact 18 (f := .free "list") rfl)
  have m_tuple := He.free_ok X G (c.fact 19 (f := .free "tuple") rfl)
  have m_bool := He.free_ok X G (c.fact 20 (f := .free "bool") rfl)
  have m_ValueError := He.free_ok X G (c.fact 21 (f := .free "ValueError") rfl)
  have eL := hfa.symm.trans Glaw
  cases eL
  have b := FunD.bindsA (ps := ["_law_script"]) Flaw fun _ _ _ _ _ _ us hl => match us, hl with | [_], _ => rfl
  refine ⟨fdlaw, fun s v => b s [v] rfl, fun base _ _ => ?_⟩
  have FX := fx_of (P := P) (w := w) (base := base) X G c e
  have D_law_cell := df_of (st := top 51) F_law_cell G_law_cell (ok_cell (P := P) (w := w) (mg := mg) (base := base) F_law_cell m_len) (F_law_cell.bindsN fun _ _ _ _ _ _ us hl => match us, hl with | [_, _], _ => rfl)
  have D_law_mixed := df_of (st := top 52) F_law_mixed G_law_mixed (ok_mixed (P := P) (w := w) (mg := mg) (base := base) F_law_mixed m_int) (F_law_mixed.bindsN fun _ _ _ _ _ _ us hl => match us, hl with | [_, _], _ => rfl)
  have D_law_draws := df_of (st := top 53) F_law_draws G_law_draws (ok_draws (P := P) (w := w) (mg := mg) (base := base) F_law_draws m_int m_range D_law_mixed) (F_law_draws.bindsN fun _ _ _ _ _ _ us hl => match us, hl with | [_, _, _], _ => rfl)
  have D_law_is_integer := df_of (st := top 54) F_law_is_integer G_law_is_integer (ok_isint (P := P) (w := w) (mg := mg) (base := base) F_law_is_integer m_isinstance m_int m_bool) (F_law_is_integer.bindsN fun _ _ _ _ _ _ us hl => match us, hl with | [_], _ => rfl)
  have D_law_same := df_of (st := top 55) F_law_same G_law_same (ok_same_of (P := P) (w := w) (mg := mg) (base := base) F_law_same G_law_same D_law_is_integer m_isinstance m_int m_str m_list m_tuple m_len m_range 2) (F_law_same.bindsN fun _ _ _ _ _ _ us hl => match us, hl with | [_, _], _ => rfl)
  have D_law_values := df_of (st := top 56) F_law_values G_law_values (ok_vals (P := P) (w := w) (mg := mg) (base := base) F_law_values m_int m_tuple D_law_draws) (F_law_values.bindsN fun _ _ _ _ _ _ us hl => match us, hl with | [_], _ => rfl)
  have D_law_made_last := df_of (st := top 59) F_law_made_last G_law_made_last (ok_last (P := P) (w := w) (mg := mg) (base := base) F_law_made_last FX) (F_law_made_last.bindsN fun _ _ _ _ _ _ us hl => match us, hl with | [_, _], _ => rfl)
  have D_law_made_more := df_of (st := top 58) F_law_made_more G_law_made_more (ok_more (P := P) (w := w) (mg := mg) (base := base) F_law_made_more FX D_law_made_last) (F_law_made_more.bindsN fun _ _ _ _ _ _ us hl => match us, hl with | [_, _], _ => rfl)
  have D_law_made := df_of (st := top 57) F_law_made G_law_made (ok_made (P := P) (w := w) (mg := mg) (base := base) F_law_made FX D_law_made_more) (F_law_made.bindsN fun _ _ _ _ _ _ us hl => match us, hl with | [_, _], _ => rfl)
  have D_law_answers := df_of (st := top 60) F_law_answers G_law_answers (ok_ans (P := P) (w := w) (mg := mg) (base := base) F_law_answers FX m_isinstance) (F_law_answers.bindsN fun _ _ _ _ _ _ us hl => match us, hl with | [_], _ => rfl)
  have D_law_holds := df_of (st := top 61) F_law_holds G_law_holds (ok_holds (P := P) (w := w) (mg := mg) (base := base) F_law_holds FX m_isinstance m_ValueError D_law_made D_law_answers D_law_same) (F_law_holds.bindsN fun _ _ _ _ _ _ us hl => match us, hl with | [_, _], _ => rfl)
  exact ok_law Flaw m_range D_law_cell D_law_values D_law_holds
end
end Er
end

section
set_option autoImplicit false
set_option Elab.async false
set_option linter.all false
set_option maxRecDepth 100000
set_option maxHeartbeats 0
open PySem PySem.W PySem.Calls PyProof.Rows
theorem PySem.Challenge.cw_beadmoot_k13_errors_holds : PySem.Challenge.rw_beadmoot_k13_errors.Holds := by
  w_on; o_law
  refine HandSHeadRun.head_any (r := OpenLaw.row PySem.Challenge.rw_beadmoot_k13_errors) (q := view (OpenLaw.row PySem.Challenge.rw_beadmoot_k13_errors).prog [62]) (H := Er.hk) (ob := Er.ob) (M := 20000) (loose := Er.names) (d := HandSHeadRun.topDef (OpenLaw.row PySem.Challenge.rw_beadmoot_k13_errors).prog 62) (kwd := []) Er.ob_eq
    (by kernel_rfl) (fun s => by kernel_rfl) Er.run (by kernel_rfl) (by kernel_rfl) (by kernel_rfl) (by rfl) (by first | assumption | decide +kernel) (by decide +kernel) ⟨rfl, rfl, rfl, rfl, rfl, by decide +kernel⟩ ?hw ?hc
  case hw => w_witness2
  case hc =>
    refine L2.walk_ofE (l := PySem.Challenge.rw_beadmoot_k13_errors) (n := 63) (k := 7) (x := "_law_script") (CX := L2.CX0) rfl (by decide) (by kernel_rfl) ⟨rfl, by decide, by decide⟩ ?F (fun _ _ _ _ z => z)
    intro w mg fa h Y G hmg0
    obtain ⟨K, KX, c, e⟩ := Y
    have hmg : mg ("law" : PySem.Str) = some (.ref fa) := by
      have e : (HandSHeadRun.topDef (OpenLaw.row PySem.Challenge.rw_beadmoot_k13_errors).prog 62).name = ("law" : PySem.Str) := by kernel_rfl
      rw [← e]
      exact hmg0
    obtain ⟨fd, hb, hF⟩ := Er.facts (P := (PySem.Challenge.rw_beadmoot_k13_errors).prog) (w := w) KX G hmg c e
    exact ⟨K, fd, Pd.spD K Er.gLaw, KX, hb, fun H a ns hl _ hS => ⟨H, [.rol (ns.map .int)], .bl true, L2.Same.refl _, .cons (.rol hS (Pd.Reps.of_ints ns)) .nil, ⟨ns, rfl, rfl⟩, fun v Hs' H' g r => by cases r; rfl⟩, hF⟩
end
