import PyProof.Rows.All
import Wide.All
import OpenK.AllK
import Wide.FinOn
import HandS.ForMost
import HandS.Wide
import HandS.Defaults
import HandS.IsInst
import HandS.ExcInit
import HandS.Exc
import HandS.ExcField
import HandS.ExcIs
import HandS.ExcOwn
import HandS.ClsMeth
import KE.KIsAll
import KE.KTryMore
import HandS.ExcValue
import HandS.Text
import HandS.SetFor
import HandS.HeadHook1
import HandS.HeadHook2
import PyProof.EqKinds
import KE.GoesMore
import PyProof.Draws
import PyProof.EnumMake
import HandS.Iter
import HandS.Set
import HandS.Conv
import HandS.TupAny
import HandS.Style
import KE.KRevSl
import HandS.Ends
import HandS.Words
import HandS.WordsExc
import HandS.Head0
import HandS.MakeKw
import HandS.Gcd
import KE.KStateDown
import Lean
import HandS.More
import HandS.Head1
import HandS.Head2
import HandS.HeadEnd
import HandS.Head3
import PySem.Challenge.RW_beadmoot_k39_whole_mean_tally
section
set_option autoImplicit false
set_option Elab.async false
set_option linter.all false
set_option maxRecDepth 100000
set_option maxHeartbeats 4000000
namespace Pd
open PySem PySem.Spec PyProof.Rows L2

/-! ### data -/
inductive D where
  | non | bl (b : Bool) | int (i : Int) | str (x : Str) | lst (ds : List D) | tup (ds : List D) | rol (ds : List D) | ty (n : String) | adr (a : Addr)
  | obj (C : Addr) (fs : List (Str × D)) | exc (a dd : Addr) (fs : List (Str × D)) | dK (kvs : List (Key × D)) | dT (kvs : List (List Key × D))
  | ev (C : Addr) (fs : List (Str × D))

mutual
inductive Rep (K : PySem.W.Frag) (H : Hp) : V → D → Prop
  | non : Rep K H .non .non
  | bl (b : Bool) : Rep K H (.bl b) (.bl b)
  | int (i : Int) : Rep K H (.int i) (.int i)
  | str (x : Str) : Rep K H (.str x) (.str x)
  | ty (n : String) : Rep K H (.ty n) (.ty n)
  | adr (a : Addr) : Rep K H (.ref a) (.adr a)
  | lst {a : Addr} {vs : List V} {ds : List D} : H a = some (.lst vs) → Reps K H vs ds → Rep K H (.ref a) (.lst ds)
  | rol {a : Addr} {vs : List V} {ds : List D} : SqL K H a vs → Reps K H vs ds → Rep K H (.ref a) (.rol ds)
  | tup {a : Addr} {vs : List V} {ds : List D} : SqT K H a vs → Reps K H vs ds → Rep K H (.ref a) (.tup ds)
  | obj {a C dx : Addr} {vs : List (Str × V)} {ds : List (Str × D)} : H a = some (.ins C dx vs) → RepF K H vs ds → Rep K H (.ref a) (.obj C ds)
  | exc {a dd : Addr} {vs : List (Str × V)} {ds : List (Str × D)} : H dd = some (.xd vs) → RepF K H vs ds → Rep K H (.ref a) (.exc a dd ds)
  | dK {a : Addr} {vs : List (Key × V)} {ds : List (Key × D)} : H a = some (.dK vs) → RepK K H vs ds → Rep K H (.ref a) (.dK ds)
  | dT {a : Addr} {vs : List (List Key × V)} {ds : List (List Key × D)} : H a = some (.dT vs) → RepT K H vs ds → Rep K H (.ref a) (.dT ds)
  | ev0 {a C : Addr} : H a = some (exo a C none) → Rep K H (.ref a) (.ev C [])
  | ev1 {a C dx : Addr} {vs : List (Str × V)} {ds : List (Str × D)} : H a = some (exo a C (some dx)) → H dx = some (exd dx vs) → RepF K H vs ds → Rep K H (.ref a) (.ev C ds)
inductive Reps (K : PySem.W.Frag) (H : Hp) : List V → List D → Prop
  | nil : Reps K H [] []
  | cons {v : V} {d : D} {vs : List V} {ds : List D} : Rep K H v d → Reps K H vs ds → Reps K H (v :: vs) (d :: ds)
inductive RepF (K : PySem.W.Frag) (H : Hp) : List (Str × V) → List (Str × D) → Prop
  | nil : RepF K H [] []
  | cons {x : Str} {v : V} {d : D} {vs : List (Str × V)} {ds : List (Str × D)} : Rep K H v d → RepF K H vs ds → RepF K H ((x, v) :: vs) ((x, d) :: ds)
inductive RepK (K : PySem.W.Frag) (H : Hp) : List (Key × V) → List (Key × D) → Prop
  | nil : RepK K H [] []
  | cons {x : Key} {v : V} {d : D} {vs : List (Key × V)} {ds : List (Key × D)} : Rep K H v d → RepK K H vs ds → RepK K H ((x, v) :: vs) ((x, d) :: ds)
inductive RepT (K : PySem.W.Frag) (H : Hp) : List (List Key × V) → List (List Key × D) → Prop
  | nil : RepT K H [] []
  | cons {x : List Key} {v : V} {d : D} {vs : List (List Key × V)} {ds : List (List Key × D)} : Rep K H v d → RepT K H vs ds → RepT K H ((x, v) :: vs) ((x, d) :: ds)
end

/-- a field is put -/
def putFD (f : Str) (d : D) : List (Str × D) → List (Str × D)
  | [] => [(f, d)]
  | (x, y) :: r => if x = f then (x, d) :: r else (x, y) :: putFD f d r
theorem rd_mono {H H' : Hp} {a : Addr} {u : HO} (e : Same H H') (h : Rd H a u) : Rd H' a u := by
  rcases h with h | ⟨o, h⟩
  · exact Or.inl (e a _ h)
  · exact Or.inr ⟨o, e a _ h⟩
theorem sqL_mono {K : PySem.W.Frag} {H H' : Hp} {a : Addr} {xs : List V} (e : Same H H') (h : SqL K H a xs) : SqL K H' a xs := by
  rcases h with h | h
  · exact Or.inl (rd_mono e h)
  · exact Or.inr h
theorem sqT_mono {K : PySem.W.Frag} {H H' : Hp} {a : Addr} {xs : List V} (e : Same H H') (h : SqT K H a xs) : SqT K H' a xs := by
  rcases h with h | h
  · exact Or.inl (rd_mono e h)
  · exact Or.inr h
mutual
theorem Rep.mono {K : PySem.W.Frag} {H H' : Hp} (e : Same H H') : ∀ {v : V} {d : D}, Rep K H v d → Rep K H' v d
  | _, _, .non => .non
  | _, _, .bl b => .bl b
  | _, _, .int i => .int i
  | _, _, .str x => .str x
  | _, _, .ty n => .ty n
  | _, _, .adr a => .adr a
  | _, _, .lst h r => .lst (e _ _ h) (Reps.mono e r)
  | _, _, .rol h r => .rol (sqL_mono e h) (Reps.mono e r)
  | _, _, .tup h r => .tup (sqT_mono e h) (Reps.mono e r)
  | _, _, .obj h r => .obj (e _ _ h) (RepF.mono e r)
  | _, _, .exc h r => .exc (e _ _ h) (RepF.mono e r)
  | _, _, .dK h r => .dK (e _ _ h) (RepK.mono e r)
  | _, _, .dT h r => .dT (e _ _ h) (RepT.mono e r)
  | _, _, .ev0 h => .ev0 (e _ _ h)
  | _, _, .ev1 h q r => .ev1 (e _ _ h) (e _ _ q) (RepF.mono e r)
theorem Reps.mono {K : PySem.W.Frag} {H H' : Hp} (e : Same H H') : ∀ {v : List V} {d : List D}, Reps K H v d → Reps K H' v d
  | _, _, .nil => .nil
  | _, _, .cons r t => .cons (Rep.mono e r) (Reps.mono e t)
theorem RepF.mono {K : PySem.W.Frag} {H H' : Hp} (e : Same H H') : ∀ {v : List (Str × V)} {d : List (Str × D)}, RepF K H v d → RepF K H' v d
  | _, _, .nil => .nil
  | _, _, .cons r t => .cons (Rep.mono e r) (RepF.mono e t)
theorem RepK.mono {K : PySem.W.Frag} {H H' : Hp} (e : Same H H') : ∀ {v : List (Key × V)} {d : List (Key × D)}, RepK K H v d → RepK K H' v d
  | _, _, .nil => .nil
  | _, _, .cons r t => .cons (Rep.mono e r) (RepK.mono e t)
theorem RepT.mono {K : PySem.W.Frag} {H H' : Hp} (e : Same H H') : ∀ {v : List (List Key × V)} {d : List (List Key × D)}, RepT K H v d → RepT K H' v d
  | _, _, .nil => .nil
  | _, _, .cons r t => .cons (Rep.mono e r) (RepT.mono e t)
end
theorem Reps.length {K : PySem.W.Frag} {H : Hp} : ∀ {vs : List V} {ds : List D}, Reps K H vs ds → vs.length = ds.length
  | _, _, .nil => rfl
  | _, _, .cons _ t => congrArg Nat.succ (Reps.length t)
theorem Reps.get {K : PySem.W.Frag} {H : Hp} : ∀ {vs : List V} {ds : List D} {i : Nat} {d : D}, Reps K H vs ds → ds[i]? = some d → ∃ v, vs[i]? = some v ∧ Rep K H v d
  | _, _, _, _, .nil, e => by simp at e
  | _, _, 0, _, .cons r _, e => by simp at e; subst e; exact ⟨_, rfl, r⟩
  | _, _, i + 1, d, .cons _ t, e => by
    obtain ⟨v, h1, h2⟩ := Reps.get (i := i) (d := d) t (by simpa using e)
    exact ⟨v, by simpa using h1, h2⟩
theorem Reps.getV {K : PySem.W.Frag} {H : Hp} : ∀ {vs : List V} {ds : List D} {i : Nat} {v : V}, Reps K H vs ds → vs[i]? = some v → ∃ d, ds[i]? = some d ∧ Rep K H v d
  | _, _, _, _, .nil, e => by simp at e
  | _, _, 0, _, .cons r _, e => by simp at e; subst e; exact ⟨_, rfl, r⟩
  | _, _, i + 1, v, .cons _ t, e => by
    obtain ⟨d, h1, h2⟩ := Reps.getV (i := i) (v := v) t (by simpa using e)
    exact ⟨d, by simpa using h1, h2⟩
theorem Reps.append {K : PySem.W.Frag} {H : Hp} : ∀ {vs us : List V} {ds es : List D}, Reps K H vs ds → Reps K H us es → Reps K H (vs ++ us) (ds ++ es)
  | _, _, _, _, .nil, h => h
  | _, _, _, _, .cons r t, h => .cons r (Reps.append t h)
theorem Reps.take {K : PySem.W.Frag} {H : Hp} : ∀ {vs : List V} {ds : List D} (n : Nat), Reps K H vs ds → Reps K H (vs.take n) (ds.take n)
  | _, _, 0, _ => .nil
  | _, _, _ + 1, .nil => .nil
  | _, _, n + 1, .cons r t => .cons r (Reps.take n t)
theorem Reps.drop {K : PySem.W.Frag} {H : Hp} : ∀ {vs : List V} {ds : List D} (n : Nat), Reps K H vs ds → Reps K H (vs.drop n) (ds.drop n)
  | _, _, 0, h => h
  | _, _, _ + 1, .nil => .nil
  | _, _, n + 1, .cons _ t => Reps.drop n t
theorem Reps.set {K : PySem.W.Frag} {H : Hp} {v : V} {d : D} (r : Rep K H v d) : ∀ {vs : List V} {ds : List D} (n : Nat), Reps K H vs ds → Reps K H (vs.set n v) (ds.set n d)
  | _, _, _, .nil => .nil
  | _, _, 0, .cons _ t => .cons r t
  | _, _, n + 1, .cons q t => .cons q (Reps.set r n t)
theorem Reps.ints {K : PySem.W.Frag} {H : Hp} : ∀ {vs : List V} {ns : List Int}, Reps K H vs (ns.map D.int) → vs = ns.map V.int
  | [], [], _ => rfl
  | [], _ :: _, h => by cases h
  | _ :: _, [], h => by cases h
  | v :: vs, n :: ns, h => by
    cases h with
    | cons r t => cases r; rw [Reps.ints t] <;> rfl
theorem Reps.of_ints {K : PySem.W.Frag} {H : Hp} : ∀ (ns : List Int), Reps K H (ns.map V.int) (ns.map D.int)
  | [] => .nil
  | n :: ns => .cons (.int n) (Reps.of_ints ns)
theorem RepF.get {K : PySem.W.Frag} {H : Hp} {f : Str} {d : D} : ∀ {vs : List (Str × V)} {ds : List (Str × D)}, RepF K H vs ds → ds.lookup f = some d → ∃ v, vs.lookup f = some v ∧ Rep K H v d
  | _, _, .nil, e => by cases e
  | _, _, .cons (x := x) r t, e => by
    simp only [List.lookup] at e ⊢
    cases q : (f == x) with
    | true =>
      rw [q] at e
      cases e
      exact ⟨_, rfl, r⟩
    | false =>
      rw [q] at e
      exact RepF.get t e

theorem RepF.put {K : PySem.W.Frag} {H : Hp} {f : Str} {v : V} {d : D} (r : Rep K H v d) : ∀ {vs : List (Str × V)} {ds : List (Str × D)}, RepF K H vs ds → RepF K H (putF f v vs) (putFD f d ds)
  | _, _, .nil => .cons r .nil
  | _, _, .cons (x := x) q t => by
    unfold putF putFD
    by_cases h : x = f
    · rw [if_pos h, if_pos h]; exact .cons r t
    · rw [if_neg h, if_neg h]; exact .cons q (RepF.put r t)
theorem RepF.none_of {K : PySem.W.Frag} {H : Hp} {f : Str} : ∀ {vs : List (Str × V)} {ds : List (Str × D)}, RepF K H vs ds → ds.lookup f = none → vs.lookup f = none
  | _, _, .nil, _ => rfl
  | _, _, .cons (x := x) q t, e => by
    simp only [List.lookup] at e ⊢
    cases h : (f == x) with
    | true => rw [h] at e; cases e
    | false => rw [h] at e; exact RepF.none_of t e
theorem RepF.length {K : PySem.W.Frag} {H : Hp} : ∀ {vs : List (Str × V)} {ds : List (Str × D)}, RepF K H vs ds → vs.length = ds.length
  | _, _, .nil => rfl
  | _, _, .cons _ t => congrArg Nat.succ (RepF.length t)
/-! ### heaps: what is shared, what there is -/
structure Gr (Hs H Hs' H' : Hp) : Prop where
  sh : Same Hs Hs'
  ext : Same H H'
  sub : Same Hs' H'
  loc : ∀ a, H a ≠ none → Hs a = none → Hs' a = none
theorem Gr.refl {Hs H : Hp} (s : Same Hs H) : Gr Hs H Hs H := ⟨Same.refl _, Same.refl _, s, fun _ _ h => h⟩
theorem Gr.trans {Hs H Hs1 H1 Hs2 H2 : Hp} (a : Gr Hs H Hs1 H1) (b : Gr Hs1 H1 Hs2 H2) : Gr Hs H Hs2 H2 := ⟨a.sh.trans b.sh, a.ext.trans b.ext, b.sub, fun x h h' => b.loc x (fun q => by
  cases e : H x with
  | none => exact h e
  | some o =>
    have z := a.ext x o e
    rw [q] at z
    cases z) (a.loc x h h')⟩
/-- a new thing, shared -/
theorem Gr.new {Hs H : Hp} (s : Same Hs H) {p : Addr} {o : HO} (h : H p = none) : Gr Hs H (upd Hs p o) (upd H p o) where
  sh := fun a u e => by
    have : H a = some u := s a u e
    rw [upd_ne (ne_of_none this h)]; exact e
  ext := fun a u e => by rw [upd_ne (ne_of_none e h)]; exact e
  sub := fun a u e => by
    by_cases q : a = p
    · subst q; rw [upd_same] at e ⊢; exact e
    · rw [upd_ne q] at e ⊢; exact s a u e
  loc := fun a h1 h2 => by
    have : a ≠ p := fun q => h1 (by rw [q]; exact h)
    rw [upd_ne this]; exact h2
theorem Same.none {H H' : Hp} (e : Same H H') {l : Addr} (h : H' l = Option.none) : H l = Option.none := e.free h

/-! ### what an expression gives -/
/-- a slot: nothing known; a value; a list of one's own -/
inductive Sl where
  | no | sh (d : D) | ow (ds : List D) | ob (p C : Addr) (fs : List (Str × D))
structure SE (K : PySem.W.Frag) (Hs : Hp) (σ : L2.St) (γ : List Sl) : Prop where
  len : σ.length = γ.length
  sh : ∀ (i : Nat) (d : D), γ[i]? = some (Sl.sh d) → ∃ v, σ[i]? = some (some v) ∧ Rep K Hs v d
theorem SE.mono {K : PySem.W.Frag} {Hs Hs' : Hp} {σ : L2.St} {γ : List Sl} (e : Same Hs Hs') (h : SE K Hs σ γ) : SE K Hs' σ γ := ⟨h.len, fun i d q => let ⟨v, a, b⟩ := h.sh i d q; ⟨v, a, b.mono e⟩⟩

def wE (X : Cx) (e : Expr) : TE := fun σ H Q => ∀ (pins : List (Addr × Obj)) (s : Shared), Inv X pins σ H s → wpAny (model X.prog X.w) X.A (eval e X.env) (EP X pins σ Q) X.xe s
theorem wE_ok {X : Cx} (e : Expr) : PE X e (wE X e) := ⟨fun pins s σ H Q I h => h pins s I⟩
theorem wE_of {X : Cx} {e : Expr} {t : TE} (h : PE X e t) {σ : L2.St} {H : Hp} {Q : VK} (q : t σ H Q) : wE X e σ H Q := fun pins s I => h.run pins s σ H Q I q
def wT (X : Cx) (e : Expr) : TT := fun σ H Q => ∀ (pins : List (Addr × Obj)) (s : Shared), Inv X pins σ H s → wpAny (model X.prog X.w) X.A (isTrue e X.env (eval e X.env)) (TP X pins σ Q) X.xe s
theorem wT_ok {X : Cx} (e : Expr) : PT X e (wT X e) := ⟨fun pins s σ H Q I h => h pins s I⟩
theorem wT_of {X : Cx} {e : Expr} {t : TT} (h : PT X e t) {σ : L2.St} {H : Hp} {Q : Bool → Hp → Prop} (q : t σ H Q) : wT X e σ H Q := fun pins s I => h.run pins s σ H Q I q
def wW (X : Cx) (e : Expr) : TT := fun σ H Q => ∀ (whole : Sem Value) (pins : List (Addr × Obj)) (s : Shared), Inv X pins σ H s → wpAny (model X.prog X.w) X.A (isTrue e X.env whole) (TP X pins σ Q) X.xe s
theorem wW_ok {X : Cx} (e : Expr) : PW X e (wW X e) := ⟨fun wh pins s σ H Q I h => h wh pins s I⟩
theorem wW_of {X : Cx} {e : Expr} {t : TT} (h : PW X e t) {σ : L2.St} {H : Hp} {Q : Bool → Hp → Prop} (q : t σ H Q) : wW X e σ H Q := fun wh pins s I => h.run wh pins s σ H Q I q
def wA (X : Cx) (es : List Expr) : TA := fun σ H Q => ∀ (pos : Pos) (pins : List (Addr × Obj)) (s : Shared), Inv X pins σ H s → wpAny (model X.prog X.w) X.A (spliced (backTo pos (starEach es X.env))) (AP X pins σ Q) X.xe s
theorem wA_ok {X : Cx} (es : List Expr) : PA X es (wA X es) := ⟨fun pos pins s σ H Q I h => h pos pins s I⟩
theorem wA_of {X : Cx} {e : List Expr} {t : TA} (h : PA X e t) {σ : L2.St} {H : Hp} {Q : List V → Hp → Prop} (q : t σ H Q) : wA X e σ H Q := fun pos pins s I => h.run pos pins s σ H Q I q
def wO (X : Cx) (e : Option Expr) (t : TO) : Prop := PO X e t

/-- e gives d -/
def PD (X : Cx) (γ : List Sl) (e : Expr) (d : D) : Prop := ∀ (σ : L2.St) (Hs H : Hp) (Q : VK), Same Hs H → SE X.K Hs σ γ → (∀ v Hs' H', Gr Hs H Hs' H' → Rep X.K Hs' v d → Q v H') → wE X e σ H Q
/-- e gives a new list of these -/
def PN (X : Cx) (γ : List Sl) (e : Expr) (ds : List D) : Prop := ∀ (σ : L2.St) (Hs H : Hp) (Q : VK), Same Hs H → SE X.K Hs σ γ →
  (∀ l vs Hs' H', Gr Hs H Hs' H' → H l = none → Hs' l = none → H' l = some (.lst vs) → Reps X.K Hs' vs ds → Q (.ref l) H') → wE X e σ H Q
def PDT (X : Cx) (γ : List Sl) (e : Expr) (b : Bool) : Prop := ∀ (σ : L2.St) (Hs H : Hp) (Q : Bool → Hp → Prop), Same Hs H → SE X.K Hs σ γ → (∀ Hs' H', Gr Hs H Hs' H' → Q b H') → wT X e σ H Q
def PDW (X : Cx) (γ : List Sl) (e : Expr) (b : Bool) : Prop := ∀ (σ : L2.St) (Hs H : Hp) (Q : Bool → Hp → Prop), Same Hs H → SE X.K Hs σ γ → (∀ Hs' H', Gr Hs H Hs' H' → Q b H') → wW X e σ H Q
def PDA (X : Cx) (γ : List Sl) (es : List Expr) (ds : List D) : Prop := ∀ (σ : L2.St) (Hs H : Hp) (Q : List V → Hp → Prop), Same Hs H → SE X.K Hs σ γ → (∀ vs Hs' H', Gr Hs H Hs' H' → Reps X.K Hs' vs ds → Q vs H') → wA X es σ H Q
/-- an operation on two data, on one, on several -/
def RVD (K : PySem.W.Frag) (r : R2) (x y z : D) : Prop := ∀ (Hs H : Hp) (v u : V) (Q : VK), Same Hs H → Rep K Hs v x → Rep K Hs u y → (∀ w Hs' H', Gr Hs H Hs' H' → Rep K Hs' w z → Q w H') → r v u H Q
def RUD (K : PySem.W.Frag) (r : V → Hp → VK → Prop) (x z : D) : Prop := ∀ (Hs H : Hp) (v : V) (Q : VK), Same Hs H → Rep K Hs v x → (∀ w Hs' H', Gr Hs H Hs' H' → Rep K Hs' w z → Q w H') → r v H Q
def RCD (K : PySem.W.Frag) (r : List V → Hp → VK → Prop) (xs : List D) (z : D) : Prop := ∀ (Hs H : Hp) (vs : List V) (Q : VK), Same Hs H → Reps K Hs vs xs → (∀ w Hs' H', Gr Hs H Hs' H' → Rep K Hs' w z → Q w H') → r vs H Q
def RCN (K : PySem.W.Frag) (r : List V → Hp → VK → Prop) (xs : List D) (zs : List D) : Prop := ∀ (Hs H : Hp) (vs : List V) (Q : VK), Same Hs H → Reps K Hs vs xs →
  (∀ l us Hs' H', Gr Hs H Hs' H' → H l = none → Hs' l = none → H' l = some (.lst us) → Reps K Hs' us zs → Q (.ref l) H') → r vs H Q
def RVN (K : PySem.W.Frag) (r : R2) (x y : D) (zs : List D) : Prop := ∀ (Hs H : Hp) (v u : V) (Q : VK), Same Hs H → Rep K Hs v x → Rep K Hs u y →
  (∀ l us Hs' H', Gr Hs H Hs' H' → H l = none → Hs' l = none → H' l = some (.lst us) → Reps K Hs' us zs → Q (.ref l) H') → r v u H Q

section
variable {X : Cx} {γ : List Sl} {a b c e : Expr} {es : List Expr} {x y z d : D} {ds zs : List D} {pos : Pos}
theorem PD.is {d' : D} (h : PD X γ e d) (q : d = d') : PD X γ e d' := by rw [← q]; exact h
theorem PN.is {d' : List D} (h : PN X γ e ds) (q : ds = d') : PN X γ e d' := by rw [← q]; exact h
theorem PDT.is {p q : Bool} (h : PDT X γ e p) (w : p = q) : PDT X γ e q := by rw [← w]; exact h
/-- what is new may be shared -/
theorem share {K : PySem.W.Frag} {Hs H Hs' H' : Hp} {l : Addr} {vs : List V} (s : Same Hs H) (g : Gr Hs H Hs' H') (h1 : H l = none) (h2 : Hs' l = none) (h3 : H' l = some (.lst vs)) (r : Reps K Hs' vs ds) :
    Gr Hs H (upd Hs' l (.lst vs)) H' ∧ Rep K (upd Hs' l (.lst vs)) (.ref l) (.lst ds) := by
  have s1 : Same Hs' (upd Hs' l (.lst vs)) := fun a u e => by rw [upd_ne (ne_of_none e h2)]; exact e
  refine ⟨⟨g.sh.trans s1, g.ext, fun a u e => ?_, fun a q1 q2 => ?_⟩, .lst upd_same (r.mono s1)⟩
  · by_cases q : a = l
    · subst q; rw [upd_same] at e; rw [← e]; exact h3
    · rw [upd_ne q] at e; exact g.sub a u e
  · have : a ≠ l := fun q => q1 (by rw [q]; exact h1)
    rw [upd_ne this]; exact g.loc a q1 q2
theorem PN.pd (h : PN X γ e ds) : PD X γ e (.lst ds) := fun σ Hs H Q s E k => h σ Hs H Q s E fun l vs Hs' H' g h1 h2 h3 r => by
  obtain ⟨g', r'⟩ := share s g h1 h2 h3 r
  exact k _ _ _ g' r'

theorem pd_v (i : Nat) {n : Str} (h : γ[i]? = some (.sh d) := by rfl) (hN : X.N[i]? = some n := by rfl) (hv : Vis X.env.scope n := by first | exact Or.inl rfl | exact Or.inr (Or.inl rfl) | exact Or.inr (Or.inr rfl)) (hd : (n == ("__debug__" : Str)) = false := by decide)
    (hcd : (n == ("__classdict__" : Str)) = false := by decide) : PD X γ (.Name n pos) d := fun σ Hs H Q s E k => by
  obtain ⟨v, h1, h2⟩ := E.sh i d h
  exact wE_of (pe_var hN hv hd hcd) ⟨v, h1, k v Hs H (Gr.refl s) h2⟩
theorem pd_int {i : Int} {j : Nat} : PD X γ (.Constant (.int i) j pos) (.int i) := fun σ Hs H Q s E k => wE_of pe_int (k _ Hs H (Gr.refl s) (.int i))
theorem pd_bl {i : Bool} {j : Nat} : PD X γ (.Constant (.bool i) j pos) (.bl i) := fun σ Hs H Q s E k => wE_of pe_bl (k _ Hs H (Gr.refl s) (.bl i))
theorem pd_non {j : Nat} : PD X γ (.Constant .none j pos) .non := fun σ Hs H Q s E k => wE_of pe_non (k _ Hs H (Gr.refl s) .non)
theorem pd_str {i : Str} {j : Nat} : PD X γ (.Constant (.str i) j pos) (.str i) := fun σ Hs H Q s E k => wE_of pe_str (k _ Hs H (Gr.refl s) (.str i))
/-- a global name that holds d -/
theorem pd_glob {n : Str} {v : V} {u : Value} (hg : Gl X n) (hm : X.mg n = some u) (r : RelV v u) (hv : ∀ H, Rep X.K H v d) (hd : (n == ("__debug__" : Str)) = false := by decide) : PD X γ (.Name n pos) d :=
  fun σ Hs H Q s E k => wE_of (pe_glob hg hm r hd) (k _ Hs H (Gr.refl s) (hv Hs))

theorem bin2 {R : V → V → Hp → Prop} {σ : L2.St} {Hs H : Hp} (ha : PD X γ a x) (hb : PD X γ b y) (s : Same Hs H) (E : SE X.K Hs σ γ)
    (k : ∀ v u Hs' H', Gr Hs H Hs' H' → Rep X.K Hs' v x → Rep X.K Hs' u y → R v u H') : wE X a σ H fun v H1 => wE X b σ H1 fun u H2 => R v u H2 :=
  ha σ Hs H _ s E fun v Hs1 H1 g1 r1 => hb σ Hs1 H1 _ g1.sub (E.mono g1.sh) fun u Hs2 H2 g2 r2 => k v u Hs2 H2 (g1.trans g2) (r1.mono g2.sh) r2
theorem pd_op {op : Operator} {r : R2} (ho : OpR X (binaryOp op) r) (hr : RVD X.K r x y z) (ha : PD X γ a x) (hb : PD X γ b y) : PD X γ (.BinOp a op b pos) z := fun σ Hs H Q s E k =>
  wE_of (pe_op ho (wE_ok a) (wE_ok b)) (bin2 ha hb s E fun v u Hs' H' g r1 r2 => hr Hs' H' v u Q g.sub r1 r2 fun w Hs2 H2 g2 r3 => k w Hs2 H2 (g.trans g2) r3)
theorem pn_op {op : Operator} {r : R2} (ho : OpR X (binaryOp op) r) (hr : RVN X.K r x y zs) (ha : PD X γ a x) (hb : PD X γ b y) : PN X γ (.BinOp a op b pos) zs := fun σ Hs H Q s E k =>
  wE_of (pe_op ho (wE_ok a) (wE_ok b)) (bin2 ha hb s E fun v u Hs' H' g r1 r2 => hr Hs' H' v u Q g.sub r1 r2 fun l us Hs2 H2 g2 h1 h2 h3 r3 => k l us Hs2 H2 (g.trans g2) (g.ext.free h1) h2 h3 r3)
theorem pd_un {op : UnaryOp} {r : V → Hp → VK → Prop} (ho : UnR X (unaryOp op) r) (hr : RUD X.K r x z) (ha : PD X γ a x) : PD X γ (.UnaryOp op a pos) z := fun σ Hs H Q s E k =>
  wE_of (pe_un ho (wE_ok a)) (ha σ Hs H _ s E fun v Hs' H' g r1 => hr Hs' H' v Q g.sub r1 fun w Hs2 H2 g2 r3 => k w Hs2 H2 (g.trans g2) r3)
theorem pd_cmp {op : CmpOp} {r : R2} (ho : OpR X (compareOp op) r) (hr : RVD X.K r x y z) (ha : PD X γ a x) (hb : PD X γ b y) (hm : behindInMarks op b = false := by first | exact nomark _ | rfl) : PD X γ (.Compare a [op] [b] pos) z := fun σ Hs H Q s E k =>
  wE_of (pe_cmpR ho (wE_ok a) (wE_ok b) hm) (bin2 ha hb s E fun v u Hs' H' g r1 r2 => hr Hs' H' v u Q g.sub r1 r2 fun w Hs2 H2 g2 r3 => k w Hs2 H2 (g.trans g2) r3)
theorem pt_cmp {op : CmpOp} {r : R2} {p : Bool} (ho : OpR X (compareOp op) r) (hr : RVD X.K r x y (.bl p)) (ha : PD X γ a x) (hb : PD X γ b y) (hm : behindInMarks op b = false := by first | exact nomark _ | rfl) : PDT X γ (.Compare a [op] [b] pos) p := fun σ Hs H Q s E k =>
  wT_of (pt_cmpR ho (wE_ok a) (wE_ok b) hm) (bin2 ha hb s E fun v u Hs' H' g r1 r2 => hr Hs' H' v u _ g.sub r1 r2 fun w Hs2 H2 g2 r3 => by
    cases r3
    exact ⟨p, rfl, k Hs2 H2 (g.trans g2)⟩)
theorem rd_I0 {K : PySem.W.Frag} {f : Int → Int → V} {i j : Int} (hf : ∀ H, Rep K H (f i j) z) : RVD K (rI0 f) (.int i) (.int j) z := fun Hs H v u Q s r1 r2 k => by
  cases r1; cases r2
  exact ⟨i, j, rfl, rfl, k _ _ _ (Gr.refl s) (hf _)⟩
theorem rd_I {K : PySem.W.Frag} {C : Int → Int → Prop} {f : Int → Int → V} {i j : Int} (hf : ∀ H, Rep K H (f i j) z) (hc : C i j) : RVD K (rI C f) (.int i) (.int j) z := fun Hs H v u Q s r1 r2 k => by
  cases r1; cases r2
  exact ⟨i, j, rfl, rfl, hc, k _ _ _ (Gr.refl s) (hf _)⟩
section
variable {i j : Int}
theorem pd_add (ha : PD X γ a (.int i)) (hb : PD X γ b (.int j)) : PD X γ (.BinOp a .Add b pos) (.int (i + j)) := pd_op op_add (rd_I0 fun _ => .int _) ha hb
theorem pd_sub (ha : PD X γ a (.int i)) (hb : PD X γ b (.int j)) : PD X γ (.BinOp a .Sub b pos) (.int (i - j)) := pd_op op_sub (rd_I0 fun _ => .int _) ha hb
theorem pd_mul (ha : PD X γ a (.int i)) (hb : PD X γ b (.int j)) (h : CMulW i j) : PD X γ (.BinOp a .Mult b pos) (.int (i * j)) := pd_op op_mulW (rd_I (fun _ => .int _) h) ha hb
theorem pd_mod (ha : PD X γ a (.int i)) (hb : PD X γ b (.int j)) (h : 0 < j := by decide) : PD X γ (.BinOp a .Mod b pos) (.int (i % j)) := pd_op op_mod (rd_I (fun _ => .int _) h) ha hb
theorem pd_div (ha : PD X γ a (.int i)) (hb : PD X γ b (.int j)) (h : CDivW i j) : PD X γ (.BinOp a .FloorDiv b pos) (.int (i / j)) := pd_op op_fdivW (rd_I (fun _ => .int _) h) ha hb
theorem pd_pow (ha : PD X γ a (.int i)) (hb : PD X γ b (.int j)) (h : 0 ≤ j ∧ j ≤ 1000000 ∧ i.natAbs < 2 ^ 64 := by decide) : PD X γ (.BinOp a .Pow b pos) (.int (i ^ j.toNat)) := pd_op op_pow (rd_I (fun _ => .int _) h) ha hb
theorem pd_neg (ha : PD X γ a (.int i)) : PD X γ (.UnaryOp .USub a pos) (.int (-i)) := pd_un un_neg (fun Hs H v Q s r k => by
  cases r
  exact ⟨i, rfl, k _ _ _ (Gr.refl s) (.int _)⟩) ha
theorem pd_lt (ha : PD X γ a (.int i)) (hb : PD X γ b (.int j)) : PD X γ (.Compare a [.Lt] [b] pos) (.bl (decide (i < j))) := pd_cmp op_lt (rd_I0 fun _ => .bl _) ha hb
theorem pd_le (ha : PD X γ a (.int i)) (hb : PD X γ b (.int j)) : PD X γ (.Compare a [.LtE] [b] pos) (.bl (decide (i ≤ j))) := pd_cmp op_le (rd_I0 fun _ => .bl _) ha hb
theorem pd_gt (ha : PD X γ a (.int i)) (hb : PD X γ b (.int j)) : PD X γ (.Compare a [.Gt] [b] pos) (.bl (decide (j < i))) := pd_cmp op_gt (rd_I0 fun _ => .bl _) ha hb
theorem pd_ge (ha : PD X γ a (.int i)) (hb : PD X γ b (.int j)) : PD X γ (.Compare a [.GtE] [b] pos) (.bl (decide (j ≤ i))) := pd_cmp op_ge (rd_I0 fun _ => .bl _) ha hb
theorem pt_lt (ha : PD X γ a (.int i)) (hb : PD X γ b (.int j)) : PDT X γ (.Compare a [.Lt] [b] pos) (decide (i < j)) := pt_cmp op_lt (rd_I0 fun _ => .bl _) ha hb
theorem pt_le (ha : PD X γ a (.int i)) (hb : PD X γ b (.int j)) : PDT X γ (.Compare a [.LtE] [b] pos) (decide (i ≤ j)) := pt_cmp op_le (rd_I0 fun _ => .bl _) ha hb
theorem pt_gt (ha : PD X γ a (.int i)) (hb : PD X γ b (.int j)) : PDT X γ (.Compare a [.Gt] [b] pos) (decide (j < i)) := pt_cmp op_gt (rd_I0 fun _ => .bl _) ha hb
theorem pt_ge (ha : PD X γ a (.int i)) (hb : PD X γ b (.int j)) : PDT X γ (.Compare a [.GtE] [b] pos) (decide (j ≤ i)) := pt_cmp op_ge (rd_I0 fun _ => .bl _) ha hb
theorem rd_eqI {K : PySem.W.Frag} : RVD K rEq (.int i) (.int j) (.bl (decide (i = j))) := fun Hs H v u Q s r1 r2 k => by
  cases r1; cases r2
  refine ⟨rfl, k _ _ _ (Gr.refl s) ?_⟩
  have : decide (V.int i = V.int j) = decide (i = j) := by simp
  rw [this]
  exact .bl _
theorem rd_neI {K : PySem.W.Frag} : RVD K rNe (.int i) (.int j) (.bl (!decide (i = j))) := fun Hs H v u Q s r1 r2 k => by
  cases r1; cases r2
  refine ⟨rfl, k _ _ _ (Gr.refl s) ?_⟩
  have : decide (V.int i = V.int j) = decide (i = j) := by simp
  rw [this]
  exact .bl _
theorem pd_eqI (ha : PD X γ a (.int i)) (hb : PD X γ b (.int j)) : PD X γ (.Compare a [.Eq] [b] pos) (.bl (decide (i = j))) := pd_cmp op_eq rd_eqI ha hb
theorem pd_neI (ha : PD X γ a (.int i)) (hb : PD X γ b (.int j)) : PD X γ (.Compare a [.NotEq] [b] pos) (.bl (!decide (i = j))) := pd_cmp op_ne rd_neI ha hb
theorem pt_eqI (ha : PD X γ a (.int i)) (hb : PD X γ b (.int j)) : PDT X γ (.Compare a [.Eq] [b] pos) (decide (i = j)) := pt_cmp op_eq rd_eqI ha hb
theorem pt_neI (ha : PD X γ a (.int i)) (hb : PD X γ b (.int j)) : PDT X γ (.Compare a [.NotEq] [b] pos) (!decide (i = j)) := pt_cmp op_ne rd_neI ha hb
end
end
end Pd
end

section
set_option autoImplicit false
set_option Elab.async false
set_option linter.all false
set_option maxRecDepth 100000
set_option maxHeartbeats 4000000
namespace Pd
open PySem PySem.Spec PyProof.Rows L2

section
variable {X : Cx} {γ : List Sl} {a b c e : Expr} {es : List Expr} {x y z d : D} {ds zs : List D} {pos : Pos} {i j : Int} {p q : Bool}
/-! ### tests -/
theorem pt_val (h : PD X γ e (.bl p)) (he : ∀ whole, isTrue e X.env whole = (do let v ← whole; standAt e.pos; holding [v] (truthy v)) := by intro _; rfl) : PDT X γ e p := fun σ Hs H Q s E k =>
  wT_of (L2.pt_val (wE_ok e) he) (h σ Hs H _ s E fun v Hs' H' g r => by
    cases r
    exact ⟨p, rfl, k Hs' H' g⟩)
theorem pt_not (h : PDT X γ a p) : PDT X γ (.UnaryOp .Not a pos) (!p) := fun σ Hs H Q s E k => wT_of (L2.pt_not (wT_ok a)) (h σ Hs H _ s E fun Hs' H' g => k Hs' H' g)
theorem PDW.pt (h : PDW X γ e p) : PDT X γ e p := fun σ Hs H Q s E k => wT_of (wW_ok e).pt (h σ Hs H Q s E k)
theorem pw_and1 (h : PDT X γ a p) : PDW X γ (.BoolOp .And [a] pos) p := fun σ Hs H Q s E k => wW_of (L2.pw_and1 (wT_ok a)) (h σ Hs H Q s E k)
theorem pw_or1 (h : PDT X γ a p) : PDW X γ (.BoolOp .Or [a] pos) p := fun σ Hs H Q s E k => wW_of (L2.pw_or1 (wT_ok a)) (h σ Hs H Q s E k)
theorem pw_and {rest : List Expr} (h : PDT X γ a p) (h2 : p = true → PDW X γ (.BoolOp .And (b :: rest) pos) q) : PDW X γ (.BoolOp .And (a :: b :: rest) pos) (p && q) := fun σ Hs H Q s E k =>
  wW_of (L2.pw_and (wT_ok a) (wW_ok _)) (h σ Hs H _ s E fun Hs' H' g => by
    cases p with
    | true => exact h2 rfl σ Hs' H' Q g.sub (E.mono g.sh) fun Hs2 H2 g2 => k Hs2 H2 (g.trans g2)
    | false => exact k Hs' H' g)
theorem pw_or {rest : List Expr} (h : PDT X γ a p) (h2 : p = false → PDW X γ (.BoolOp .Or (b :: rest) pos) q) : PDW X γ (.BoolOp .Or (a :: b :: rest) pos) (p || q) := fun σ Hs H Q s E k =>
  wW_of (L2.pw_or (wT_ok a) (wW_ok _)) (h σ Hs H _ s E fun Hs' H' g => by
    cases p with
    | false => exact h2 rfl σ Hs' H' Q g.sub (E.mono g.sh) fun Hs2 H2 g2 => k Hs2 H2 (g.trans g2)
    | true => exact k Hs' H' g)
/-! ### the same as values -/
theorem pd_one {op : BoolOp} (h : PD X γ a x) : PD X γ (.BoolOp op [a] pos) x := fun σ Hs H Q s E k => wE_of (pe_one (wE_ok a)) (h σ Hs H Q s E k)
theorem pd_and {rest : List Expr} (h : PD X γ a (.bl p)) (h2 : p = true → PD X γ (.BoolOp .And (b :: rest) pos) (.bl q)) : PD X γ (.BoolOp .And (a :: b :: rest) pos) (.bl (p && q)) := fun σ Hs H Q s E k =>
  wE_of (pe_and (wE_ok a) (wE_ok _)) (h σ Hs H _ s E fun v Hs' H' g r => by
    cases r
    refine ⟨p, rfl, ?_⟩
    cases p with
    | true => exact h2 rfl σ Hs' H' Q g.sub (E.mono g.sh) fun w Hs2 H2 g2 r2 => k w Hs2 H2 (g.trans g2) r2
    | false => exact k _ Hs' H' g (.bl false))
theorem pd_or {rest : List Expr} (h : PD X γ a (.bl p)) (h2 : p = false → PD X γ (.BoolOp .Or (b :: rest) pos) (.bl q)) : PD X γ (.BoolOp .Or (a :: b :: rest) pos) (.bl (p || q)) := fun σ Hs H Q s E k =>
  wE_of (pe_or (wE_ok a) (wE_ok _)) (h σ Hs H _ s E fun v Hs' H' g r => by
    cases r
    refine ⟨p, rfl, ?_⟩
    cases p with
    | false => exact h2 rfl σ Hs' H' Q g.sub (E.mono g.sh) fun w Hs2 H2 g2 r2 => k w Hs2 H2 (g.trans g2) r2
    | true => exact k _ Hs' H' g (.bl true))
theorem pd_not (h : PD X γ a (.bl p)) : PD X γ (.UnaryOp .Not a pos) (.bl (!p)) := fun σ Hs H Q s E k =>
  wE_of (pe_not (wE_ok a)) (h σ Hs H _ s E fun v Hs' H' g r => by
    cases r
    exact ⟨p, rfl, k _ Hs' H' g (.bl _)⟩)
theorem pd_ife (h : PDT X γ c p) (h1 : p = true → PD X γ a d) (h2 : p = false → PD X γ b d) : PD X γ (.IfExp c a b pos) d := fun σ Hs H Q s E k =>
  wE_of (pe_ifExp (wT_ok c) (wE_ok a) (wE_ok b)) (h σ Hs H _ s E fun Hs' H' g => by
    cases p with
    | true => exact h1 rfl σ Hs' H' Q g.sub (E.mono g.sh) fun w Hs2 H2 g2 r2 => k w Hs2 H2 (g.trans g2) r2
    | false => exact h2 rfl σ Hs' H' Q g.sub (E.mono g.sh) fun w Hs2 H2 g2 r2 => k w Hs2 H2 (g.trans g2) r2)
/-- a op b op c -/
theorem pt_chain {op op' : CmpOp} {r r' : R2} (ho : OpR X (compareOp op) r) (ho' : OpR X (compareOp op') r') (h1 : RVD X.K r x y (.bl p)) (h2 : p = true → RVD X.K r' y z (.bl q)) (ha : PD X γ a x) (hb : PD X γ b y) (hc : PD X γ c z)
    (hm : lastMarks [op, op'] [b, c] = false := by with_unfolding_all rfl) : PDT X γ (.Compare a [op, op'] [b, c] pos) (p && q) := fun σ Hs H Q s E k =>
  wT_of (L2.pt_chain ho ho' (wE_ok a) (wE_ok b) (wE_ok c) hm) (bin2 (R := fun v u H2 => r v u H2 fun w H3 => ∃ k2, w = .bl k2 ∧ (if k2 = true then wE X c σ H3 fun w' H4 => r' u w' H4 fun t H5 => ∃ k3, t = .bl k3 ∧ Q k3 H5 else ∃ k3, V.bl false = .bl k3 ∧ Q k3 H3)) ha hb s E
    fun v u Hs' H' g r1 r2 => h1 Hs' H' v u _ g.sub r1 r2 fun w Hs2 H2 g2 r3 => by
      cases r3
      refine ⟨p, rfl, ?_⟩
      cases p with
      | true =>
        rw [if_pos rfl]
        have E2 := E.mono ((g.trans g2).sh)
        refine hc σ Hs2 H2 _ g2.sub E2 fun w' Hs3 H3 g3 r4 => h2 rfl Hs3 H3 u w' _ g3.sub ((r2.mono g2.sh).mono g3.sh) r4 fun t Hs4 H4 g4 r5 => ?_
        cases r5
        exact ⟨q, rfl, k Hs4 H4 (((g.trans g2).trans g3).trans g4)⟩
      | false =>
        rw [if_neg Bool.false_ne_true]
        exact ⟨false, rfl, k Hs2 H2 (g.trans g2)⟩)
theorem rd_le {K : PySem.W.Frag} : RVD K (rI0 fun i j => .bl (decide (i ≤ j))) (.int i) (.int j) (.bl (decide (i ≤ j))) := rd_I0 fun _ => .bl _
theorem rd_lt {K : PySem.W.Frag} : RVD K (rI0 fun i j => .bl (decide (i < j))) (.int i) (.int j) (.bl (decide (i < j))) := rd_I0 fun _ => .bl _
/-! ### arguments, displays -/
theorem pa_nil : PDA X γ [] [] := fun σ Hs H Q s E k => wA_of L2.pa_nil (k [] Hs H (Gr.refl s) .nil)
theorem pa_cons (h : PD X γ e d) (h2 : PDA X γ es ds) (hs : starEach (e :: es) X.env = (false, eval e X.env) :: starEach es X.env := by rfl) : PDA X γ (e :: es) (d :: ds) := fun σ Hs H Q s E k =>
  wA_of (L2.pa_cons (wE_ok e) (wA_ok es) hs) (h σ Hs H _ s E fun v Hs' H' g r => h2 σ Hs' H' _ g.sub (E.mono g.sh) fun vs Hs2 H2 g2 r2 => k _ Hs2 H2 (g.trans g2) (.cons (r.mono g2.sh) r2))
theorem newL {K : PySem.W.Frag} {Hs H : Hp} {vs : List V} {zs : List D} {Q : VK} (s : Same Hs H) (r : Reps K Hs vs zs)
    (k : ∀ l vs Hs' H', Gr Hs H Hs' H' → H l = none → Hs' l = none → H' l = some (.lst vs) → Reps K Hs' vs zs → Q (.ref l) H') : ∀ l, H l = none → Q (.ref l) (upd H l (.lst vs)) := fun l hl =>
  k l vs Hs (upd H l (.lst vs)) ⟨Same.refl _, fun a u e => by rw [upd_ne (ne_of_none e hl)]; exact e, fun a u e => by rw [upd_ne (ne_of_none (s a u e) hl)]; exact s a u e, fun _ _ h => h⟩ hl (s.free hl) upd_same r
theorem newT {K : PySem.W.Frag} {Hs H : Hp} {vs : List V} {zs : List D} {Q : VK} (s : Same Hs H) (r : Reps K Hs vs zs)
    (k : ∀ v Hs' H', Gr Hs H Hs' H' → Rep K Hs' v (.tup zs) → Q v H') : ∀ l, H l = none → Q (.ref l) (upd H l (.tup vs)) := fun l hl =>
  k _ _ _ (Gr.new s hl) (.tup (SqT.of upd_same) (r.mono (Gr.new s hl (o := .tup vs)).sh))
theorem sz_of {n : Nat} (h : n ≤ 100000) : n ≤ sizeLine := Nat.le_trans h (by decide)
theorem sz_lt {n : Nat} (h : n < 100000) : n < sizeLine := Nat.lt_of_lt_of_le h (by decide)
theorem pn_lst (h : PDA X γ es ds) (hz : ds.length ≤ 100000 := by simp) : PN X γ (.List es pos) ds := fun σ Hs H Q s E k =>
  wE_of (pe_lst (wA_ok es)) (h σ Hs H _ s E fun vs Hs' H' g r => ⟨sz_of (by rw [r.length]; exact hz), newL g.sub r fun l us Hs2 H2 g2 h1 h2 h3 r2 => k l us Hs2 H2 (g.trans g2) (g.ext.free h1) h2 h3 r2⟩)
theorem pd_tup {n : Nat} (h : PDA X γ es ds) (hz : ds.length ≤ 100000 := by simp) : PD X γ (.Tuple es n pos) (.tup ds) := fun σ Hs H Q s E k =>
  wE_of (pe_tup (wA_ok es)) (h σ Hs H _ s E fun vs Hs' H' g r => ⟨sz_of (by rw [r.length]; exact hz), newT g.sub r fun w Hs2 H2 g2 r2 => k w Hs2 H2 (g.trans g2) r2⟩)
/-! ### items -/
theorem atI_of {K : PySem.W.Frag} {H : Hp} {vs : List V} {ds : List D} (r : Reps K H vs ds) {d : D} (h : atI ds i = some d) : ∃ v, atI vs i = some v ∧ Rep K H v d := by
  unfold atI at h ⊢
  rw [r.length]
  cases q : ixN ds.length i with
  | none => rw [q] at h; cases h
  | some n =>
    rw [q] at h
    exact r.get h
theorem rd_ixL {K : PySem.W.Frag} (h : atI ds i = some d) : RVD K (rIxL K) (.lst ds) (.int i) d := fun Hs H v u Q s r1 r2 k => by
  cases r1 with
  | lst h1 r1 =>
    cases r2
    obtain ⟨w, hw, rw'⟩ := atI_of r1 h
    exact ⟨_, _, i, w, rfl, rfl, .inl (.inl (s _ _ h1)), hw, k w Hs H (Gr.refl s) rw'⟩
theorem rd_ixR {K : PySem.W.Frag} (h : atI ds i = some d) : RVD K (rIxL K) (.rol ds) (.int i) d := fun Hs H v u Q s r1 r2 k => by
  cases r1 with
  | rol h1 r1 =>
    cases r2
    obtain ⟨w, hw, rw'⟩ := atI_of r1 h
    exact ⟨_, _, i, w, rfl, rfl, sqL_mono s h1, hw, k w Hs H (Gr.refl s) rw'⟩
theorem rd_ixT {K : PySem.W.Frag} (h : atI ds i = some d) : RVD K (rIxT K) (.tup ds) (.int i) d := fun Hs H v u Q s r1 r2 k => by
  cases r1 with
  | tup h1 r1 =>
    cases r2
    obtain ⟨w, hw, rw'⟩ := atI_of r1 h
    exact ⟨_, _, i, w, rfl, rfl, sqT_mono s h1, hw, k w Hs H (Gr.refl s) rw'⟩
theorem rd_ixS {K : PySem.W.Frag} {x : Str} {n : Nat} (hz : x.length ≤ 100000) (h : atI x.cps.toList i = some n) : RVD K rIxS (.str x) (.int i) (.str ⟨#[n]⟩) := fun Hs H v u Q s r1 r2 k => by
  cases r1; cases r2
  exact ⟨_, _, _, rfl, rfl, sz_of hz, h, k _ Hs H (Gr.refl s) (.str _)⟩
theorem pd_ix {r : R2} (hr : IxR X r) (hd : RVD X.K r x y z) (ha : PD X γ a x) (hb : PD X γ b y) (hs : PlainIx b := by exact fun _ _ => rfl) : PD X γ (.Subscript a b pos) z := fun σ Hs H Q s E k =>
  wE_of (pe_ix hr (wE_ok a) (wE_ok b) hs) (bin2 ha hb s E fun v u Hs' H' g r1 r2 => hd Hs' H' v u Q g.sub r1 r2 fun w Hs2 H2 g2 r3 => k w Hs2 H2 (g.trans g2) r3)
theorem pd_ixL (ha : PD X γ a (.lst ds)) (hb : PD X γ b (.int i)) (h : atI ds i = some d) (hs : PlainIx b := by exact fun _ _ => rfl) : PD X γ (.Subscript a b pos) d := pd_ix ix_list (rd_ixL h) ha hb hs
theorem pd_ixR (ha : PD X γ a (.rol ds)) (hb : PD X γ b (.int i)) (h : atI ds i = some d) (hs : PlainIx b := by exact fun _ _ => rfl) : PD X γ (.Subscript a b pos) d := pd_ix ix_list (rd_ixR h) ha hb hs
theorem pd_ixT (ha : PD X γ a (.tup ds)) (hb : PD X γ b (.int i)) (h : atI ds i = some d) (hs : PlainIx b := by exact fun _ _ => rfl) : PD X γ (.Subscript a b pos) d := pd_ix ix_tup (rd_ixT h) ha hb hs
theorem pd_ixS {x : Str} {n : Nat} (ha : PD X γ a (.str x)) (hb : PD X γ b (.int i)) (hz : x.length ≤ 100000) (h : atI x.cps.toList i = some n) (hs : PlainIx b := by exact fun _ _ => rfl) : PD X γ (.Subscript a b pos) (.str ⟨#[n]⟩) := pd_ix ix_str (rd_ixS hz h) ha hb hs
/-! ### slices -/
def PDO (X : Cx) (γ : List Sl) (e : Option Expr) (o : Option Int) : Prop := match e, o with
  | none, none => True
  | some e, some i => PD X γ e (.int i)
  | _, _ => False
def cutD (xs : List D) (lo hi : Option Int) : List D := (xs.drop (HT.sIx xs.length 0 lo)).take (HT.sIx xs.length xs.length hi - HT.sIx xs.length 0 lo)
theorem Reps.cut {K : PySem.W.Frag} {H : Hp} {vs : List V} {ds : List D} (r : Reps K H vs ds) (lo hi : Option Int) : Reps K H (cutV vs lo hi) (cutD ds lo hi) := by
  unfold cutV cutD
  rw [r.length]
  exact (r.drop _).take _
def tO (X : Cx) : Option Expr → TO
  | none => tNoPart
  | some e => tPart (wE X e)
theorem tO_ok {X : Cx} : ∀ (e : Option Expr), PO X e (tO X e)
  | none => po_none
  | some e => po_some (wE_ok e)
theorem po_go {lo : Option Expr} {o : Option Int} {σ : L2.St} {Hs H : Hp} {Q : Option Int → Hp → Prop} (h : PDO X γ lo o) (s : Same Hs H) (E : SE X.K Hs σ γ) (k : ∀ Hs' H', Gr Hs H Hs' H' → Q o H') : tO X lo σ H Q := by
  cases lo with
  | none =>
    cases o with
    | none => exact k Hs H (Gr.refl s)
    | some _ => exact h.elim
  | some e =>
    cases o with
    | none => exact h.elim
    | some i =>
      refine (show PD X γ e (.int i) from h) σ Hs H _ s E fun v Hs' H' g r => ?_
      cases r
      exact ⟨i, rfl, k Hs' H' g⟩
theorem pn_slL {lo hi : Option Expr} {ol oh : Option Int} {p2 : Pos} (ha : PD X γ a (.lst ds)) (hl : PDO X γ lo ol) (hh : PDO X γ hi oh) : PN X γ (.Subscript a (.Slice lo hi none p2) pos) (cutD ds ol oh) := fun σ Hs H Q s E k =>
  wE_of (pe_slice sl_list (wE_ok a) (tO_ok lo) (tO_ok hi)) (ha σ Hs H _ s E fun v Hs1 H1 g1 r1 => po_go hl g1.sub (E.mono g1.sh) fun Hs2 H2 g2 => po_go hh g2.sub (E.mono (g1.trans g2).sh) fun Hs3 H3 g3 => by
    cases r1 with
    | lst h1 r1 =>
      have s3 := g2.sh.trans g3.sh
      exact ⟨_, _, rfl, .inl (.inl (g3.sub _ _ (s3 _ _ h1))), newL g3.sub ((r1.mono s3).cut ol oh) fun l us Hs4 H4 g4 q1 q2 q3 r4 => k l us Hs4 H4 (((g1.trans g2).trans g3).trans g4) (((g1.trans g2).trans g3).ext.free q1) q2 q3 r4⟩)
theorem pd_slT {lo hi : Option Expr} {ol oh : Option Int} {p2 : Pos} (ha : PD X γ a (.tup ds)) (hl : PDO X γ lo ol) (hh : PDO X γ hi oh) (hw : ¬ (HT.sIx ds.length 0 ol = 0 ∧ HT.sIx ds.length ds.length oh = ds.length)) : PD X γ (.Subscript a (.Slice lo hi none p2) pos) (.tup (cutD ds ol oh)) := fun σ Hs H Q s E k =>
  wE_of (pe_slice sl_tup (wE_ok a) (tO_ok lo) (tO_ok hi)) (ha σ Hs H _ s E fun v Hs1 H1 g1 r1 => po_go hl g1.sub (E.mono g1.sh) fun Hs2 H2 g2 => po_go hh g2.sub (E.mono (g1.trans g2).sh) fun Hs3 H3 g3 => by
    cases r1 with
    | tup h1 r1 =>
      have s3 := g2.sh.trans g3.sh
      exact ⟨_, _, rfl, sqT_mono (s3.trans g3.sub) h1, by rw [r1.length]; exact hw, newT g3.sub ((r1.mono s3).cut ol oh) fun w Hs4 H4 g4 r4 => k w Hs4 H4 (((g1.trans g2).trans g3).trans g4) r4⟩)
/-! ### built-ins by name -/
theorem pd_cb {id : String} {n : Str} {r : List V → Hp → VK → Prop} {pn : Pos} (hc : CallR X (.builtin id) r) (hd : RCD X.K r ds z) (hg : Gl X n) (hm : X.mg n = none) (hv : bootBuiltins n = some (.builtin id)) (ha : PDA X γ (e :: es) ds) (hn : n ≠ "__name__" := by decide) (hdb : (n == ("__debug__" : Str)) = false := by decide)
    (he : starEach (e :: es) X.env = (false, eval e X.env) :: starEach es X.env := by rfl) (hpl : (backTo pos (starEach es X.env)).any (·.1) = false := by rfl) : PD X γ (.Call (.Name n pn) (e :: es) [] pos) z := fun σ Hs H Q s E k =>
  wE_of (pe_callB hc hg hm hv (wA_ok _) hn hdb he hpl) (ha σ Hs H _ s E fun vs Hs' H' g r => hd Hs' H' vs Q g.sub r fun w Hs2 H2 g2 r3 => k w Hs2 H2 (g.trans g2) r3)
theorem pd_cty {T : String} {n : Str} {r : List V → Hp → VK → Prop} {pn : Pos} (hc : CallR X (.type T) r) (hd : RCD X.K r ds z) (hg : Gl X n) (hm : X.mg n = none) (hv : bootBuiltins n = some (.type T)) (ha : PDA X γ (e :: es) ds) (hn : n ≠ "__name__" := by decide) (hdb : (n == ("__debug__" : Str)) = false := by decide)
    (he : starEach (e :: es) X.env = (false, eval e X.env) :: starEach es X.env := by rfl) (hpl : (backTo pos (starEach es X.env)).any (·.1) = false := by rfl) : PD X γ (.Call (.Name n pn) (e :: es) [] pos) z := fun σ Hs H Q s E k =>
  wE_of (pe_callTy hc hg hm hv (wA_ok _) hn hdb he hpl) (ha σ Hs H _ s E fun vs Hs' H' g r => hd Hs' H' vs Q g.sub r fun w Hs2 H2 g2 r3 => k w Hs2 H2 (g.trans g2) r3)
theorem pn_cty {T : String} {n : Str} {r : List V → Hp → VK → Prop} {pn : Pos} (hc : CallR X (.type T) r) (hd : RCN X.K r ds zs) (hg : Gl X n) (hm : X.mg n = none) (hv : bootBuiltins n = some (.type T)) (ha : PDA X γ (e :: es) ds) (hn : n ≠ "__name__" := by decide) (hdb : (n == ("__debug__" : Str)) = false := by decide)
    (he : starEach (e :: es) X.env = (false, eval e X.env) :: starEach es X.env := by rfl) (hpl : (backTo pos (starEach es X.env)).any (·.1) = false := by rfl) : PN X γ (.Call (.Name n pn) (e :: es) [] pos) zs := fun σ Hs H Q s E k =>
  wE_of (pe_callTy hc hg hm hv (wA_ok _) hn hdb he hpl) (ha σ Hs H _ s E fun vs Hs' H' g r => hd Hs' H' vs Q g.sub r fun l us Hs2 H2 g2 h1 h2 h3 r3 => k l us Hs2 H2 (g.trans g2) (g.ext.free h1) h2 h3 r3)
theorem rc_one {K : PySem.W.Frag} {r : List V → Hp → VK → Prop} (h : RUD K (fun v => r [v]) x z) : RCD K r [x] z := fun Hs H vs Q s rs k => by
  cases rs with
  | cons r1 rn =>
    cases rn
    exact h Hs H _ Q s r1 k
theorem pd_int1 {pn : Pos} (h : PD X γ e (.int i)) (hm : X.mg "int" = none) (hg : Gl X "int" := by rfl) (he : starEach [e] X.env = (false, eval e X.env) :: starEach [] X.env := by rfl) : PD X γ (.Call (.Name "int" pn) [e] [] pos) (.int i) :=
  pd_cty call_int1 (rc_one fun Hs H v Q s r k => by
    cases r
    exact .inl ⟨i, rfl, k _ Hs H (Gr.refl s) (.int i)⟩) hg hm boot_int (pa_cons h pa_nil he) (by decide) (by decide) he rfl
theorem pd_intB {pn : Pos} (h : PD X γ e (.bl p)) (hm : X.mg "int" = none) (hg : Gl X "int" := by rfl) (he : starEach [e] X.env = (false, eval e X.env) :: starEach [] X.env := by rfl) : PD X γ (.Call (.Name "int" pn) [e] [] pos) (.int (if p then 1 else 0)) :=
  pd_cty call_int1 (rc_one fun Hs H v Q s r k => by
    cases r
    exact .inr ⟨p, rfl, k _ Hs H (Gr.refl s) (.int _)⟩) hg hm boot_int (pa_cons h pa_nil he) (by decide) (by decide) he rfl
theorem pd_len {pn : Pos} {x : D} {n : Nat} (h : PD X γ e x) (hx : (∃ ds, x = .lst ds ∧ n = ds.length) ∨ (∃ ds, x = .rol ds ∧ n = ds.length) ∨ (∃ ds, x = .tup ds ∧ n = ds.length)) (hm : X.mg "len" = none) (hg : Gl X "len" := by rfl) (he : starEach [e] X.env = (false, eval e X.env) :: starEach [] X.env := by rfl) :
    PD X γ (.Call (.Name "len" pn) [e] [] pos) (.int (n : Int)) :=
  pd_cb call_len_seq (rc_one fun Hs H v Q s r k => by
    rcases hx with ⟨ds, rfl, rfl⟩ | ⟨ds, rfl, rfl⟩ | ⟨ds, rfl, rfl⟩
    · cases r with
      | lst h1 r1 => exact ⟨_, _, rfl, .inl (.inl (.inl (s _ _ h1))), by rw [r1.length]; exact k _ Hs H (Gr.refl s) (.int _)⟩
    · cases r with
      | rol h1 r1 => exact ⟨_, _, rfl, .inl (sqL_mono s h1), by rw [r1.length]; exact k _ Hs H (Gr.refl s) (.int _)⟩
    · cases r with
      | tup h1 r1 => exact ⟨_, _, rfl, .inr (sqT_mono s h1), by rw [r1.length]; exact k _ Hs H (Gr.refl s) (.int _)⟩) hg hm boot_len (pa_cons h pa_nil he) (by decide) (by decide) he rfl
theorem pd_lenL {pn : Pos} (h : PD X γ e (.lst ds)) (hm : X.mg "len" = none) (hg : Gl X "len" := by rfl) (he : starEach [e] X.env = (false, eval e X.env) :: starEach [] X.env := by rfl) : PD X γ (.Call (.Name "len" pn) [e] [] pos) (.int (ds.length : Int)) := pd_len h (.inl ⟨_, rfl, rfl⟩) hm hg he
theorem pd_lenR {pn : Pos} (h : PD X γ e (.rol ds)) (hm : X.mg "len" = none) (hg : Gl X "len" := by rfl) (he : starEach [e] X.env = (false, eval e X.env) :: starEach [] X.env := by rfl) : PD X γ (.Call (.Name "len" pn) [e] [] pos) (.int (ds.length : Int)) := pd_len h (.inr (.inl ⟨_, rfl, rfl⟩)) hm hg he
theorem pd_lenT {pn : Pos} (h : PD X γ e (.tup ds)) (hm : X.mg "len" = none) (hg : Gl X "len" := by rfl) (he : starEach [e] X.env = (false, eval e X.env) :: starEach [] X.env := by rfl) : PD X γ (.Call (.Name "len" pn) [e] [] pos) (.int (ds.length : Int)) := pd_len h (.inr (.inr ⟨_, rfl, rfl⟩)) hm hg he
theorem pd_lenS {pn : Pos} {x : Str} (h : PD X γ e (.str x)) (hz : x.length ≤ 100000) (hm : X.mg "len" = none) (hg : Gl X "len" := by rfl) (he : starEach [e] X.env = (false, eval e X.env) :: starEach [] X.env := by rfl) : PD X γ (.Call (.Name "len" pn) [e] [] pos) (.int (x.length : Int)) :=
  pd_cb call_len_str (rc_one fun Hs H v Q s r k => by
    cases r
    exact ⟨_, rfl, sz_of hz, k _ Hs H (Gr.refl s) (.int _)⟩) hg hm boot_len (pa_cons h pa_nil he) (by decide) (by decide) he rfl
theorem pn_list {pn : Pos} {x : D} (h : PD X γ e x) (hx : x = .lst ds ∨ x = .rol ds ∨ x = .tup ds) (hm : X.mg "list" = none) (hg : Gl X "list" := by rfl) (he : starEach [e] X.env = (false, eval e X.env) :: starEach [] X.env := by rfl) : PN X γ (.Call (.Name "list" pn) [e] [] pos) ds :=
  pn_cty call_list_of (fun Hs H vs Q s rs k => by
    cases rs with
    | cons r rn =>
      cases rn
      rcases hx with rfl | rfl | rfl
      · cases r with
        | lst h1 r1 => exact ⟨_, _, rfl, .inl (.inl (.inl (s _ _ h1))), newL s r1 k⟩
      · cases r with
        | rol h1 r1 => exact ⟨_, _, rfl, .inl (sqL_mono s h1), newL s r1 k⟩
      · cases r with
        | tup h1 r1 => exact ⟨_, _, rfl, .inr (sqT_mono s h1), newL s r1 k⟩) hg hm (by decide +kernel) (pa_cons h pa_nil he) (by decide) (by decide) he rfl
theorem pd_tupleL {pn : Pos} (h : PD X γ e (.lst ds)) (hm : X.mg "tuple" = none) (hg : Gl X "tuple" := by rfl) (he : starEach [e] X.env = (false, eval e X.env) :: starEach [] X.env := by rfl) : PD X γ (.Call (.Name "tuple" pn) [e] [] pos) (.tup ds) :=
  pd_cty call_tuple_of (rc_one fun Hs H v Q s r k => by
    cases r with
    | lst h1 r1 => exact ⟨_, _, rfl, .inl ⟨.inl (.inl (s _ _ h1)), newT s r1 k⟩⟩) hg hm boot_tuple (pa_cons h pa_nil he) (by decide) (by decide) he rfl
theorem pd_tupleT {pn : Pos} (h : PD X γ e (.tup ds)) (hm : X.mg "tuple" = none) (hg : Gl X "tuple" := by rfl) (he : starEach [e] X.env = (false, eval e X.env) :: starEach [] X.env := by rfl) : PD X γ (.Call (.Name "tuple" pn) [e] [] pos) (.tup ds) :=
  pd_cty call_tuple_of (rc_one fun Hs H v Q s r k => by
    cases r with
    | tup h1 r1 => exact ⟨_, _, rfl, .inr ⟨sqT_mono s h1, k _ Hs H (Gr.refl s) (.tup h1 r1)⟩⟩) hg hm boot_tuple (pa_cons h pa_nil he) (by decide) (by decide) he rfl
/-- xs + ys -/
theorem pn_cat {es' : List D} (ha : PD X γ a (.lst ds)) (hb : PD X γ b (.lst es')) (hz : ds.length + es'.length ≤ 100000) : PN X γ (.BinOp a .Add b pos) (ds ++ es') :=
  pn_op op_cat (fun Hs H v u Q s r1 r2 k => by
    cases r1 with
    | lst h1 r1 =>
      cases r2 with
      | lst h2 r2 => exact ⟨_, _, _, _, rfl, rfl, s _ _ h1, s _ _ h2, sz_of (by rw [r1.length, r2.length]; exact hz), newL s (r1.append r2) k⟩) ha hb
end
end Pd
end

section
set_option autoImplicit false
set_option Elab.async false
set_option linter.all false
set_option maxRecDepth 100000
set_option maxHeartbeats 4000000
namespace Pd
open PySem PySem.Spec PyProof.Rows L2

/-! ### the state of a body -/
/-- a thing of one's own, as a slot has it -/
def RepO (K : PySem.W.Frag) (Hs : Hp) (l : Addr) (o : HO) : Sl → Prop
  | .ow ds => ∃ vs, o = .lst vs ∧ Reps K Hs vs ds
  | .ob p C fs => p = l ∧ ∃ dx vs, o = .ins C dx vs ∧ RepF K Hs vs fs
  | _ => False
def Sl.isO : Sl → Bool
  | .ow _ => true
  | .ob _ _ _ => true
  | _ => false
/-- looked at as shared -/
def Sl.vw : Sl → Sl
  | .ow ds => .sh (.lst ds)
  | .ob _ C fs => .sh (.obj C fs)
  | s => s
theorem repO_l {K : PySem.W.Frag} {Hs : Hp} {l : Addr} {vs : List V} {ds : List D} (r : Reps K Hs vs ds) : RepO K Hs l (.lst vs) (.ow ds) := ⟨vs, rfl, r⟩
theorem repO_o {K : PySem.W.Frag} {Hs : Hp} {p C dx : Addr} {vs : List (Str × V)} {fs : List (Str × D)} (r : RepF K Hs vs fs) : RepO K Hs p (.ins C dx vs) (.ob p C fs) := ⟨rfl, dx, vs, rfl, r⟩
theorem RepO.mono {K : PySem.W.Frag} {Hs Hs' : Hp} {l : Addr} {o : HO} (e : Same Hs Hs') : ∀ {s : Sl}, RepO K Hs l o s → RepO K Hs' l o s
  | .ow _, ⟨vs, h, r⟩ => ⟨vs, h, r.mono e⟩
  | .ob _ _ _, ⟨hp, dx, vs, h, r⟩ => ⟨hp, dx, vs, h, r.mono e⟩
  | .no, h => h.elim
  | .sh _, h => h.elim
theorem RepO.isO {K : PySem.W.Frag} {Hs : Hp} {l : Addr} {o : HO} : ∀ {s : Sl}, RepO K Hs l o s → s.isO = true
  | .ow _, _ => rfl
  | .ob _ _ _, _ => rfl
  | .no, h => h.elim
  | .sh _, h => h.elim
theorem RepO.vw {K : PySem.W.Frag} {Hs H : Hp} {o : HO} {l : Addr} (e : Same Hs H) (hl : H l = some o) : ∀ {s : Sl}, RepO K Hs l o s → ∃ d, s.vw = .sh d ∧ Rep K H (.ref l) d
  | .ow _, ⟨vs, h, r⟩ => ⟨_, rfl, .lst (by rw [hl, h]) (r.mono e)⟩
  | .ob _ _ _, ⟨_, dx, vs, h, r⟩ => ⟨_, rfl, .obj (by rw [hl, h]) (r.mono e)⟩
  | .no, h => h.elim
  | .sh _, h => h.elim
structure ST (K : PySem.W.Frag) (Hs0 H0 Hr Hs H : Hp) (σ : L2.St) (γ : List Sl) : Prop where
  gr : Gr Hs0 H0 Hs H
  rf : Same Hr Hs
  len : σ.length = γ.length
  shd : ∀ (i : Nat) (d : D), γ[i]? = some (Sl.sh d) → ∃ v, σ[i]? = some (some v) ∧ Rep K Hs v d
  own : ∀ (i : Nat) (s : Sl), γ[i]? = some s → s.isO = true → ∃ l o, σ[i]? = some (some (V.ref l)) ∧ H l = some o ∧ Hs l = none ∧ H0 l = none ∧ RepO K Hs l o s
  dif : ∀ (i j : Nat) (s t : Sl) (l : Addr), i ≠ j → γ[i]? = some s → γ[j]? = some t → s.isO = true → t.isO = true → σ[i]? = some (some (V.ref l)) → σ[j]? ≠ some (some (V.ref l))
/-- what is wanted behind -/
structure Rs where
  nx : List Sl → Prop
  rt : D → Prop
  bk : List Sl → Prop := fun _ => False
  ct : List Sl → Prop := fun _ => False
  rn : List D → Prop := fun _ => False
  xs : Addr → List (Str × D) → List Sl → Prop := fun _ _ _ => False
structure Fit (X : Cx) (Hs0 H0 Hr : Hp) (R : Rs) (E : Ends) : Prop where
  nx : ∀ γ σ Hs H, ST X.K Hs0 H0 Hr Hs H σ γ → R.nx γ → E.nx σ H
  bk : ∀ γ σ Hs H, ST X.K Hs0 H0 Hr Hs H σ γ → R.bk γ → E.bk σ H
  ct : ∀ γ σ Hs H, ST X.K Hs0 H0 Hr Hs H σ γ → R.ct γ → E.ct σ H
  rt : ∀ d v Hs H, Gr Hs0 H0 Hs H → Rep X.K Hs v d → R.rt d → E.rt v H
  rn : ∀ ds l vs Hs H, Gr Hs0 H0 Hs H → H0 l = none → Hs l = none → H l = some (.lst vs) → Reps X.K Hs vs ds → R.rn ds → E.rt (.ref l) H
  xs : (∀ C fs γ, ¬ R.xs C fs γ) ∨ ∃ W : WX, Takes X W ∧ ∀ C fs dd vs γ σ Hs H, ST X.K Hs0 H0 Hr Hs H σ γ → Hs dd = some (.xd vs) → RepF X.K Hs vs fs → R.xs C fs γ → W (.ref C) (some dd) σ H
def wS (X : Cx) (st : Stmt) : TS := fun E σ H => ∀ (pins : List (Addr × Obj)) (s : Shared), Inv X pins σ H s → wpAny (model X.prog X.w) X.A (exec st X.env) (SP X pins E) X.xe s
theorem wS_ok {X : Cx} (st : Stmt) : PS X st (wS X st) := ⟨fun pins s σ H E I h => h pins s I⟩
theorem wS_of {X : Cx} {st : Stmt} {t : TS} (h : PS X st t) {E : Ends} {σ : L2.St} {H : Hp} (q : t E σ H) : wS X st E σ H := fun pins s I => h.run pins s σ H E I q
def wSs (X : Cx) (st : List Stmt) : TS := fun E σ H => ∀ (pins : List (Addr × Obj)) (s : Shared), Inv X pins σ H s → wpAny (model X.prog X.w) X.A (execs st X.env) (SP X pins E) X.xe s
theorem wSs_ok {X : Cx} (st : List Stmt) : PSs X st (wSs X st) := ⟨fun pins s σ H E I h => h pins s I⟩
theorem wSs_of {X : Cx} {st : List Stmt} {t : TS} (h : PSs X st t) {E : Ends} {σ : L2.St} {H : Hp} (q : t E σ H) : wSs X st E σ H := fun pins s I => h.run pins s σ H E I q
/-- a statement, a block: from γ to what R wants -/
def S1 (X : Cx) (st : Stmt) (γ : List Sl) (R : Rs) : Prop := ∀ (Hs0 H0 Hr : Hp) (E : Ends), Fit X Hs0 H0 Hr R E → ∀ σ Hs H, ST X.K Hs0 H0 Hr Hs H σ γ → wS X st E σ H
def SD (X : Cx) (st : List Stmt) (γ : List Sl) (R : Rs) : Prop := ∀ (Hs0 H0 Hr : Hp) (E : Ends), Fit X Hs0 H0 Hr R E → ∀ σ Hs H, ST X.K Hs0 H0 Hr Hs H σ γ → wSs X st E σ H

section
variable {K : PySem.W.Frag} {Hs0 H0 Hr Hs H Hs' H' : Hp} {σ : L2.St} {γ : List Sl}
theorem set_self_of {α : Type} {l : List α} {i : Nat} {a b : α} (q : (l.set i a)[i]? = some b) : a = b := by
  by_cases hl : i < l.length
  · rw [List.getElem?_set_self hl] at q; exact Option.some.inj q
  · rw [List.getElem?_eq_none (by simpa using Nat.le_of_not_lt hl)] at q; cases q
theorem ST.se (t : ST K Hs0 H0 Hr Hs H σ γ) : SE K Hs σ γ := ⟨t.len, t.shd⟩
theorem ST.sub (t : ST K Hs0 H0 Hr Hs H σ γ) : Same Hs H := t.gr.sub
theorem ST.go (t : ST K Hs0 H0 Hr Hs H σ γ) (g : Gr Hs H Hs' H') : ST K Hs0 H0 Hr Hs' H' σ γ where
  gr := t.gr.trans g
  rf := t.rf.trans g.sh
  len := t.len
  shd := fun i d q => let ⟨v, a, b⟩ := t.shd i d q; ⟨v, a, b.mono g.sh⟩
  own := fun i s q w => let ⟨l, o, a, b, c, d, r⟩ := t.own i s q w; ⟨l, o, a, g.ext _ _ b, g.loc l (by rw [b]; intro z; cases z) c, d, r.mono g.sh⟩
  dif := t.dif
/-- a slot is stored -/
theorem ST.set {i : Nat} {v : V} {d : D} (t : ST K Hs0 H0 Hr Hs H σ γ) (r : Rep K Hs v d) : ST K Hs0 H0 Hr Hs H (σ.set i (some v)) (γ.set i (.sh d)) where
  gr := t.gr
  rf := t.rf
  len := by simpa using t.len
  shd := fun j e q => by
    by_cases h : i = j
    · subst h
      have hl : i < γ.length := by
        have := (List.getElem?_eq_some_iff.mp q).1
        simpa using this
      have z := set_self_of q
      cases z
      exact ⟨v, by rw [List.getElem?_set_self (by rw [t.len]; exact hl)], r⟩
    · rw [List.getElem?_set_ne h] at q ⊢
      exact t.shd j e q
  own := fun j s q w => by
    by_cases h : i = j
    · subst h
      have z := set_self_of q
      subst z
      cases w
    · rw [List.getElem?_set_ne h] at q ⊢
      exact t.own j s q w
  dif := fun j k s u l hjk q1 q2 w1 w2 => by
    by_cases h : i = j
    · subst h
      have z := set_self_of q1
      subst z
      cases w1
    · by_cases h2 : i = k
      · subst h2
        have z := set_self_of q2
        subst z
        cases w2
      · rw [List.getElem?_set_ne h] at q1 ⊢
        rw [List.getElem?_set_ne h2] at q2 ⊢
        exact t.dif j k s u l hjk q1 q2 w1 w2
/-- a slot holds a new thing of one's own -/
theorem ST.setO {i : Nat} {l : Addr} {o : HO} {s : Sl} (t : ST K Hs0 H0 Hr Hs H σ γ) (g : Gr Hs H Hs' H') (h1 : H l = none) (h2 : Hs' l = none) (h3 : H' l = some o) (r : RepO K Hs' l o s) : ST K Hs0 H0 Hr Hs' H' (σ.set i (some (.ref l))) (γ.set i s) where
  gr := t.gr.trans g
  rf := t.rf.trans g.sh
  len := by simpa using t.len
  shd := fun j e q => by
    by_cases h : i = j
    · subst h
      have z := set_self_of q
      subst z
      exact r.elim
    · rw [List.getElem?_set_ne h] at q ⊢
      exact (t.go g).shd j e q
  own := fun j u q w => by
    by_cases h : i = j
    · subst h
      have hl : i < γ.length := by
        have := (List.getElem?_eq_some_iff.mp q).1
        simpa using this
      have z := set_self_of q
      subst z
      exact ⟨l, o, by rw [List.getElem?_set_self (by rw [t.len]; exact hl)], h3, h2, t.gr.ext.free h1, r⟩
    · rw [List.getElem?_set_ne h] at q ⊢
      exact (t.go g).own j u q w
  dif := fun j k s' u l' hjk q1 q2 v1 v2 => by
    have old : ∀ (m : Nat) (u'' : Sl) (l'' : Addr), γ[m]? = some u'' → u''.isO = true → σ[m]? = some (some (V.ref l'')) → l'' ≠ l := fun m u'' l'' q v w z => by
      obtain ⟨l2, o2, a, b, _⟩ := t.own m u'' q v
      rw [w] at a
      cases a
      rw [z, h1] at b
      cases b
    by_cases h : i = j
    · subst h
      have h2' : i ≠ k := hjk
      rw [List.getElem?_set_ne h2'] at q2 ⊢
      intro w1 w2
      have z := set_self_of w1
      cases z
      exact old k u l q2 v2 w2 rfl
    · rw [List.getElem?_set_ne h] at q1 ⊢
      by_cases h2' : i = k
      · subst h2'
        intro w1 w2
        have z := set_self_of w2
        cases z
        exact old j s' l q1 v1 w1 rfl
      · rw [List.getElem?_set_ne h2'] at q2 ⊢
        exact t.dif j k s' u l' hjk q1 q2 v1 v2
/-- a thing of one's own is changed -/
theorem ST.upd {i : Nat} {l : Addr} {o : HO} {s u : Sl} (t : ST K Hs0 H0 Hr Hs H σ γ) (q : γ[i]? = some s) (w : s.isO = true) (hl : σ[i]? = some (some (.ref l))) (r : RepO K Hs l o u) : ST K Hs0 H0 Hr Hs (upd H l o) σ (γ.set i u) := by
  obtain ⟨l', o', a, b, c, d, _⟩ := t.own i s q w
  rw [hl] at a
  cases a
  have hi : i < γ.length := (List.getElem?_eq_some_iff.mp q).1
  refine ⟨⟨t.gr.sh, fun x y e => ?_, fun x y e => ?_, t.gr.loc⟩, t.rf, by simpa using t.len, fun j e z => ?_, fun j s' z v => ?_, fun j k s' u' l' hjk q1 q2 v1 v2 => ?_⟩
  · rw [upd_ne (ne_of_none e d)]; exact t.gr.ext x y e
  · rw [upd_ne (ne_of_none e c)]; exact t.gr.sub x y e
  · by_cases h : i = j
    · subst h
      have y := set_self_of z
      subst y
      exact r.elim
    · rw [List.getElem?_set_ne h] at z; exact t.shd j e z
  · by_cases h : i = j
    · subst h
      have y := set_self_of z
      subst y
      exact ⟨l, o, hl, upd_same, c, d, r⟩
    · rw [List.getElem?_set_ne h] at z
      obtain ⟨l2, o2, a2, b2, c2, d2, r2⟩ := t.own j s' z v
      refine ⟨l2, o2, a2, ?_, c2, d2, r2⟩
      rw [upd_ne fun y => t.dif i j s s' l h q z w v hl (by rw [← y]; exact a2)]
      exact b2
  · have q1' : ∃ s'', γ[j]? = some s'' ∧ s''.isO = true := by
      by_cases h : i = j
      · subst h; exact ⟨s, q, w⟩
      · rw [List.getElem?_set_ne h] at q1; exact ⟨_, q1, v1⟩
    have q2' : ∃ s'', γ[k]? = some s'' ∧ s''.isO = true := by
      by_cases h : i = k
      · subst h; exact ⟨s, q, w⟩
      · rw [List.getElem?_set_ne h] at q2; exact ⟨_, q2, v2⟩
    obtain ⟨_, q1', z1⟩ := q1'
    obtain ⟨_, q2', z2⟩ := q2'
    exact t.dif j k _ _ l' hjk q1' q2' z1 z2
/-- a thing of one's own is given away -/
theorem ST.freeze {i : Nat} {s : Sl} (t : ST K Hs0 H0 Hr Hs H σ γ) (q : γ[i]? = some s) (w : s.isO = true) : ∃ Hs', Same Hs Hs' ∧ ST K Hs0 H0 Hr Hs' H σ (γ.set i s.vw) := by
  obtain ⟨l, o, a, b, c, d, r⟩ := t.own i s q w
  have hi : i < γ.length := (List.getElem?_eq_some_iff.mp q).1
  have s1 : Same Hs (L2.upd Hs l o) := fun x u e => by rw [upd_ne (ne_of_none e c)]; exact e
  obtain ⟨dd, hv, rv⟩ := (r.mono s1).vw (Same.refl _) (upd_same (H := Hs) (a := l) (o := o))
  refine ⟨L2.upd Hs l o, s1, ⟨t.gr.sh.trans s1, t.gr.ext, fun x u e => ?_, fun x h1 h2 => ?_⟩, t.rf.trans s1, by simpa using t.len, fun j e z => ?_, fun j u z v => ?_, fun j k s' u l' hjk q1 q2 v1 v2 => ?_⟩
  · by_cases z : x = l
    · subst z; rw [upd_same] at e; rw [← e]; exact b
    · rw [upd_ne z] at e; exact t.gr.sub x u e
  · have z : x ≠ l := fun z => h1 (by rw [z]; exact d)
    rw [upd_ne z]; exact t.gr.loc x h1 h2
  · by_cases h : i = j
    · subst h
      have y := set_self_of z
      rw [hv] at y
      cases y
      exact ⟨_, a, rv⟩
    · rw [List.getElem?_set_ne h] at z
      obtain ⟨v, h1, h2⟩ := t.shd j e z
      exact ⟨v, h1, h2.mono s1⟩
  · by_cases h : i = j
    · subst h
      have y := set_self_of z
      rw [hv] at y
      subst y
      cases v
    · rw [List.getElem?_set_ne h] at z
      obtain ⟨l2, o2, a2, b2, c2, d2, r2⟩ := t.own j u z v
      refine ⟨l2, o2, a2, b2, ?_, d2, r2.mono s1⟩
      rw [upd_ne fun y => t.dif i j s u l h q z w v a (by rw [← y]; exact a2)]
      exact c2
  · have q1' : i ≠ j := fun h => by
      subst h
      have y := set_self_of q1
      rw [hv] at y
      subst y
      cases v1
    have q2' : i ≠ k := fun h => by
      subst h
      have y := set_self_of q2
      rw [hv] at y
      subst y
      cases v2
    rw [List.getElem?_set_ne q1'] at q1
    rw [List.getElem?_set_ne q2'] at q2
    exact t.dif j k _ _ l' hjk q1 q2 v1 v2
/-- a slot forgotten -/
theorem ST.forget {i : Nat} (t : ST K Hs0 H0 Hr Hs H σ γ) : ST K Hs0 H0 Hr Hs H σ (γ.set i .no) where
  gr := t.gr
  rf := t.rf
  len := by simpa using t.len
  shd := fun j e w => by
    by_cases h : i = j
    · subst h
      have z := set_self_of w
      cases z
    · rw [List.getElem?_set_ne h] at w; exact t.shd j e w
  own := fun j e w v => by
    by_cases h : i = j
    · subst h
      have z := set_self_of w
      subst z
      cases v
    · rw [List.getElem?_set_ne h] at w; exact t.own j e w v
  dif := fun j k s u l' hjk q1 q2 v1 v2 => by
    have q1' : i ≠ j := fun h => by
      subst h
      have y := set_self_of q1
      subst y
      cases v1
    have q2' : i ≠ k := fun h => by
      subst h
      have y := set_self_of q2
      subst y
      cases v2
    rw [List.getElem?_set_ne q1'] at q1
    rw [List.getElem?_set_ne q2'] at q2
    exact t.dif j k _ _ l' hjk q1 q2 v1 v2
theorem ST.view (t : ST K Hs0 H0 Hr Hs H σ γ) : SE K H σ (γ.map Sl.vw) := by
  refine ⟨by simpa using t.len, fun i d q => ?_⟩
  rw [List.getElem?_map] at q
  cases e : γ[i]? with
  | none => rw [e] at q; cases q
  | some s =>
    rw [e] at q
    have q' := Option.some.inj q
    cases hO : s.isO with
    | true =>
      obtain ⟨l, o, a, b, c, dd, r⟩ := t.own i s e hO
      obtain ⟨d2, h1, h2⟩ := r.vw t.sub b
      rw [q'] at h1
      cases h1
      exact ⟨_, a, h2⟩
    | false =>
      cases s with
      | no => cases q'
      | sh d' =>
        cases q'
        obtain ⟨v, h1, h2⟩ := t.shd i _ e
        exact ⟨v, h1, h2.mono t.sub⟩
      | ow ds => cases hO
      | ob p C fs => cases hO
end

section
variable {X : Cx} {γ : List Sl} {R : Rs} {st : Stmt} {sts rest : List Stmt} {e a b c : Expr} {es : List Expr} {d : D} {ds : List D} {pos : Pos} {i : Nat} {p : Bool}
theorem sd_nil (h : R.nx γ) : SD X [] γ R := fun Hs0 H0 Hr E F σ Hs H t => wSs_of pss_nil (F.nx γ σ Hs H t h)
theorem sd_cons (h : S1 X st γ { R with nx := fun γ' => SD X rest γ' R }) : SD X (st :: rest) γ R := fun Hs0 H0 Hr E F σ Hs H t =>
  wSs_of (pss_cons (wS_ok st) (wSs_ok rest)) (h Hs0 H0 Hr { E with nx := wSs X rest E } ⟨fun γ' σ' Hs' H' t' n => n Hs0 H0 Hr E F σ' Hs' H' t', F.bk, F.ct, F.rt, F.rn, F.xs⟩ σ Hs H t)
theorem sd_one (h : S1 X st γ R) : SD X [st] γ R := fun Hs0 H0 Hr E F σ Hs H t => wSs_of (pss_one (wS_ok st)) (h Hs0 H0 Hr E F σ Hs H t)
theorem sd_freeze (i : Nat) (q : γ[i]? = some (.ow ds)) (h : SD X sts (γ.set i (.sh (.lst ds))) R) : SD X sts γ R := fun Hs0 H0 Hr E F σ Hs H t => by
  obtain ⟨Hs', s, t'⟩ := t.freeze q rfl
  exact h Hs0 H0 Hr E F σ Hs' H t'
theorem s1_freeze (i : Nat) (q : γ[i]? = some (.ow ds)) (h : S1 X st (γ.set i (.sh (.lst ds))) R) : S1 X st γ R := fun Hs0 H0 Hr E F σ Hs H t => by
  obtain ⟨Hs', s, t'⟩ := t.freeze q rfl
  exact h Hs0 H0 Hr E F σ Hs' H t'
theorem sd_forget (i : Nat) (h : SD X sts (γ.set i .no) R) : SD X sts γ R := fun Hs0 H0 Hr E F σ Hs H t => h Hs0 H0 Hr E F σ Hs H t.forget
theorem sd_to {γ' : List Sl} (h : SD X sts γ' R) (e : γ = γ') : SD X sts γ R := by rw [e]; exact h
theorem SD.imp {R' : Rs} (h : SD X sts γ R) (nx : ∀ γ, R.nx γ → R'.nx γ) (rt : ∀ d, R.rt d → R'.rt d) (bk : ∀ γ, R.bk γ → R'.bk γ) (ct : ∀ γ, R.ct γ → R'.ct γ) (rn : ∀ d, R.rn d → R'.rn d) (xs : ∀ C fs γ, R.xs C fs γ → R'.xs C fs γ) : SD X sts γ R' := fun Hs0 H0 Hr E F =>
  h Hs0 H0 Hr E ⟨fun γ σ Hs H t q => F.nx γ σ Hs H t (nx γ q), fun γ σ Hs H t q => F.bk γ σ Hs H t (bk γ q), fun γ σ Hs H t q => F.ct γ σ Hs H t (ct γ q), fun d v Hs H g r q => F.rt d v Hs H g r (rt d q), fun ds l vs Hs H g h1 h2 h3 r q => F.rn ds l vs Hs H g h1 h2 h3 r (rn ds q), F.xs.elim (fun h => .inl fun C fs γ q => h C fs γ (xs C fs γ q)) fun ⟨W, a, b⟩ => .inr ⟨W, a, fun C fs dd vs γ σ Hs H t h1 h2 q => b C fs dd vs γ σ Hs H t h1 h2 (xs C fs γ q)⟩⟩
theorem s1_pass (h : R.nx γ) : S1 X (.Pass pos) γ R := fun Hs0 H0 Hr E F σ Hs H t => wS_of ps_pass (F.nx γ σ Hs H t h)
theorem s1_continue (h : R.ct γ) : S1 X (.Continue pos) γ R := fun Hs0 H0 Hr E F σ Hs H t => wS_of ps_continue (F.ct γ σ Hs H t h)
theorem s1_break (h : R.bk γ) : S1 X (.Break pos) γ R := fun Hs0 H0 Hr E F σ Hs H t => wS_of ps_break (F.bk γ σ Hs H t h)
theorem s1_ret (h : PD X γ e d) (k : R.rt d) : S1 X (.Return (some e) pos) γ R := fun Hs0 H0 Hr E F σ Hs H t =>
  wS_of (ps_ret (wE_ok e)) (h σ Hs H _ t.sub t.se fun v Hs' H' g r => F.rt d v Hs' H' (t.gr.trans g) r k)
/-- a list of one's own, a new list handed back -/
theorem s1_retO {n : Str} {p' : Pos} (i : Nat) (q : γ[i]? = some (.ow ds)) (k : R.rn ds) (hN : X.N[i]? = some n := by rfl) (hv : Vis X.env.scope n := by first | exact Or.inl rfl | exact Or.inr (Or.inl rfl) | exact Or.inr (Or.inr rfl))
    (hd : (n == ("__debug__" : Str)) = false := by decide) (hcd : (n == ("__classdict__" : Str)) = false := by decide) : S1 X (.Return (some (.Name n p')) pos) γ R := fun Hs0 H0 Hr E F σ Hs H t => by
  obtain ⟨l, o, a, b, c, d, vs, rfl, r⟩ := t.own i _ q rfl
  exact wS_of (ps_ret (pe_var hN hv hd hcd)) ⟨_, a, F.rn ds l vs Hs H t.gr d c b r k⟩
theorem s1_retNw (h : PN X γ e ds) (k : R.rn ds) : S1 X (.Return (some e) pos) γ R := fun Hs0 H0 Hr E F σ Hs H t =>
  wS_of (ps_ret (wE_ok e)) (h σ Hs H _ t.sub t.se fun l vs Hs' H' g h1 h2 h3 r => F.rn ds l vs Hs' H' (t.gr.trans g) (t.gr.ext.free h1) h2 h3 r k)
/-- scalars hang on no list -/
def D.sc : D → Bool
  | .non => true | .bl _ => true | .int _ => true | .str _ => true
  | _ => false
theorem Rep.sc {K : PySem.W.Frag} {H H' : Hp} {v : V} {d : D} (r : Rep K H v d) (h : d.sc = true) : Rep K H' v d := by
  cases r with
  | non => exact .non
  | bl b => exact .bl b
  | int i => exact .int i
  | str x => exact .str x
  | _ => cases h
/-- a scalar over one's own lists -/
theorem s1_retV (h : PD X (γ.map Sl.vw) e d) (hd : d.sc = true) (k : R.rt d) : S1 X (.Return (some e) pos) γ R := fun Hs0 H0 Hr E F σ Hs H t =>
  wS_of (ps_ret (wE_ok e)) (h σ H H _ (Same.refl _) t.view fun v Hs' H' g r => F.rt d v Hs H' ⟨t.gr.sh, t.gr.ext.trans g.ext, t.gr.sub.trans g.ext, t.gr.loc⟩ (r.sc hd) k)
theorem s1_retN (k : R.rt .non) : S1 X (.Return none pos) γ R := fun Hs0 H0 Hr E F σ Hs H t => wS_of ps_retN (F.rt .non .non Hs H t.gr .non k)
theorem ST.scal {K : PySem.W.Frag} {Hs0 H0 Hr Hs H Hs' H' : Hp} {σ : L2.St} (t : ST K Hs0 H0 Hr Hs H σ γ) (g : Gr H H Hs' H') : ST K Hs0 H0 Hr Hs H' σ γ :=
  t.go ⟨Same.refl _, g.ext, t.sub.trans g.ext, fun _ _ h => h⟩
theorem s1_asg {n : Str} {p' : Pos} (i : Nat) (h : PD X γ e d) (k : R.nx (γ.set i (.sh d))) (hN : X.N.Nodup) (hi : X.N[i]? = some n := by rfl) (hx : Loc X.env.scope n := by first | exact Or.inl rfl | exact Or.inr rfl) (hs : swapsWith e (some (.Name n p')) pos.line X.env = pure false := by rfl)
    (hf : X.fn n = true ∨ X.env.scope.names.lookup n = some .local := by first | exact .inl rfl | exact .inr rfl) : S1 X (.Assign [.Name n p'] e pos) γ R := fun Hs0 H0 Hr E F σ Hs H t =>
  wS_of (ps_set hN hi hx (wE_ok e) hs hf) (h σ Hs H _ t.sub t.se fun v Hs' H' g r => F.nx _ _ Hs' H' ((t.go g).set r) k)
theorem s1_asgV {n : Str} {p' : Pos} (i : Nat) (h : PD X (γ.map Sl.vw) e d) (hd : d.sc = true) (k : R.nx (γ.set i (.sh d))) (hN : X.N.Nodup) (hi : X.N[i]? = some n := by rfl) (hx : Loc X.env.scope n := by first | exact Or.inl rfl | exact Or.inr rfl) (hs : swapsWith e (some (.Name n p')) pos.line X.env = pure false := by rfl)
    (hf : X.fn n = true ∨ X.env.scope.names.lookup n = some .local := by first | exact .inl rfl | exact .inr rfl) : S1 X (.Assign [.Name n p'] e pos) γ R := fun Hs0 H0 Hr E F σ Hs H t =>
  wS_of (ps_set hN hi hx (wE_ok e) hs hf) (h σ H H _ (Same.refl _) t.view fun v Hs' H' g r => F.nx _ _ Hs H' ((t.scal g).set (r.sc hd)) k)
theorem s1_asgN {n : Str} {p' : Pos} (i : Nat) (h : PN X γ e ds) (k : R.nx (γ.set i (.ow ds))) (hN : X.N.Nodup) (hi : X.N[i]? = some n := by rfl) (hx : Loc X.env.scope n := by first | exact Or.inl rfl | exact Or.inr rfl) (hs : swapsWith e (some (.Name n p')) pos.line X.env = pure false := by rfl)
    (hf : X.fn n = true ∨ X.env.scope.names.lookup n = some .local := by first | exact .inl rfl | exact .inr rfl) : S1 X (.Assign [.Name n p'] e pos) γ R := fun Hs0 H0 Hr E F σ Hs H t =>
  wS_of (ps_set hN hi hx (wE_ok e) hs hf) (h σ Hs H _ t.sub t.se fun l vs Hs' H' g h1 h2 h3 r => F.nx _ _ Hs' H' (t.setO g h1 h2 h3 (repO_l r)) k)
theorem s1_drop (h : PD X γ e d) (k : R.nx γ) (hs : swapsWith e none pos.line X.env = pure false := by rfl) : S1 X (.Expr e pos) γ R := fun Hs0 H0 Hr E F σ Hs H t =>
  wS_of (ps_expr (wE_ok e) hs) (h σ Hs H _ t.sub t.se fun v Hs' H' g r => F.nx _ _ Hs' H' (t.go g) k)
theorem s1_if (h : PDT X γ c p) (h1 : p = true → SD X sts γ R) (h2 : p = false → SD X rest γ R) : S1 X (.If c sts rest pos) γ R := fun Hs0 H0 Hr E F σ Hs H t =>
  wS_of (ps_if (wT_ok c) (wSs_ok sts) (wSs_ok rest)) (h σ Hs H _ t.sub t.se fun Hs' H' g => by
    cases p with
    | true => exact h1 rfl Hs0 H0 Hr E F σ Hs' H' (t.go g)
    | false => exact h2 rfl Hs0 H0 Hr E F σ Hs' H' (t.go g))
theorem s1_ifV (h : PDT X (γ.map Sl.vw) c p) (h1 : p = true → SD X sts γ R) (h2 : p = false → SD X rest γ R) : S1 X (.If c sts rest pos) γ R := fun Hs0 H0 Hr E F σ Hs H t =>
  wS_of (ps_if (wT_ok c) (wSs_ok sts) (wSs_ok rest)) (h σ H H _ (Same.refl _) t.view fun Hs' H' g => by
    cases p with
    | true => exact h1 rfl Hs0 H0 Hr E F σ Hs H' (t.scal g)
    | false => exact h2 rfl Hs0 H0 Hr E F σ Hs H' (t.scal g))
/-- x.append(e), x a list of one's own -/
theorem s1_app {n : Str} {ap p' : Pos} (i : Nat) (q : γ[i]? = some (.ow ds)) (h : PD X γ e d) (k : R.nx (γ.set i (.ow (ds ++ [d])))) (hz : ds.length < 100000) (hN : X.N[i]? = some n := by rfl) (hv : Vis X.env.scope n := by first | exact Or.inl rfl | exact Or.inr (Or.inl rfl) | exact Or.inr (Or.inr rfl))
    (hd : (n == ("__debug__" : Str)) = false := by decide) (hcd : (n == ("__classdict__" : Str)) = false := by decide)
    (hs : swapsWith (.Call (.Attribute (.Name n p') "append" ap) [e] [] pos) none pos.line X.env = pure false := by rfl)
    (hbase : attributeBase (.Name n p') "append" X.env (eval (.Name n p') X.env) = eval (.Name n p') X.env := by rfl)
    (hfew : ((backTo pos (starEach [e] X.env)).all (fun x => !x.1) && (backToKw pos (keywordEach [] X.env)).all (fun x => x.1.isSome)
      && decide (([e] : List Expr).length + ([] : List Keyword).length + (if ([] : List Keyword).isEmpty then 0 else 1) < 30)) = true := by rfl)
    (hline : (ap.endLine == pos.line) = true := by rfl) (hst : starEach [e] X.env = (false, eval e X.env) :: starEach [] X.env := by rfl) (hpl : (backTo pos (starEach [] X.env)).any (·.1) = false := by rfl) :
    S1 X (.Expr (.Call (.Attribute (.Name n p') "append" ap) [e] [] pos) pos) γ R := fun Hs0 H0 Hr E F σ Hs H t => by
  obtain ⟨l, o, a, b, c, dd, vs, rfl, r⟩ := t.own i _ q rfl
  refine wS_of (ps_expr (pe_bm PySem.F.plainAttrs_list PySem.F.slot_list_append PySem.F.type_list_append mt_append (pe_var hN hv hd hcd) (L2.pa_cons (wE_ok e) L2.pa_nil hst) hbase hfew hline hst hpl) hs) ?_
  refine ⟨.ref l, a, .inl ⟨rfl, _, SqL.of b⟩, ?_⟩
  refine h σ Hs H _ t.sub t.se fun v Hs' H' g r' => ?_
  have t' := t.go g
  refine ⟨l, vs, v, rfl, rfl, g.ext _ _ b, sz_lt (by rw [r.length]; exact hz), ?_⟩
  exact F.nx _ _ Hs' _ (t'.upd q rfl a (repO_l ((r.mono g.sh).append (.cons r' .nil)))) k
/-- x[k] = e, x a list of one's own -/
theorem s1_setO {n : Str} {p' p2 : Pos} {j : Nat} {ji : Int} (i : Nat) (q : γ[i]? = some (.ow ds)) (h : PD X γ e d) (hix : PD X γ b (.int ji)) (hj : ixN ds.length ji = some j) (k : R.nx (γ.set i (.ow (ds.set j d)))) (hN : X.N[i]? = some n := by rfl) (hv : Vis X.env.scope n := by first | exact Or.inl rfl | exact Or.inr (Or.inl rfl) | exact Or.inr (Or.inr rfl))
    (hd : (n == ("__debug__" : Str)) = false := by decide) (hcd : (n == ("__classdict__" : Str)) = false := by decide)
    (ha : ∀ v, assign (.Subscript (.Name n p') b p2) X.env v = (do
      let ov ← holding [v] (eval (.Name n p') X.env)
      let iv ← holding [v, ov] (eval b X.env)
      standAt p2
      holding [v, ov, iv] (setItem ov iv v)
      release [v, ov, iv] []) := by intro _; rfl)
    (hs : swapsWithSole [.Subscript (.Name n p') b p2] e pos.line X.env = pure false := by rfl) (hw : swappedStores [.Subscript (.Name n p') b p2] e X.env = pure none := by rfl)
    (h1 : (assignEach [.Subscript (.Name n p') b p2] X.env).map (·.2) = [assign (.Subscript (.Name n p') b p2) X.env] := by rfl) : S1 X (.Assign [.Subscript (.Name n p') b p2] e pos) γ R := fun Hs0 H0 Hr E F σ Hs H t => by
  obtain ⟨l, o, a, bb, c, dd, vs, rfl, r⟩ := t.own i _ q rfl
  refine wS_of (ps_asg (wE_ok e) (pg_sub (pe_var hN hv hd hcd) (wE_ok b) set_list ha) hs hw h1) ?_
  refine h σ Hs H _ t.sub t.se fun v Hs1 H1 g1 r1 => ?_
  refine ⟨.ref l, a, ?_⟩
  refine hix σ Hs1 H1 _ g1.sub (t.se.mono g1.sh) fun u Hs2 H2 g2 r2 => ?_
  cases r2
  have g := g1.trans g2
  refine ⟨l, vs, ji, j, rfl, rfl, g.ext _ _ bb, by rw [r.length]; exact hj, ?_⟩
  exact F.nx _ _ Hs2 _ ((t.go g).upd q rfl a (repO_l ((r.mono g.sh).set (r1.mono g2.sh) j))) k
end

/-! ### defs -/
/-- from data to data -/
def spD (K : PySem.W.Frag) (G : List D → D → Prop) : Sp := fun vs H Q _ => ∃ Hs ds d, Same Hs H ∧ Reps K Hs vs ds ∧ G ds d ∧ ∀ v Hs' H', Gr Hs H Hs' H' → Rep K Hs' v d → Q v H'
/-- to a new list -/
def spN (K : PySem.W.Frag) (G : List D → List D → Prop) : Sp := fun vs H Q _ => ∃ Hs ds es, Same Hs H ∧ Reps K Hs vs ds ∧ G ds es ∧ ∀ l us Hs' H', Gr Hs H Hs' H' → H l = none → Hs' l = none → H' l = some (.lst us) → Reps K Hs' us es → Q (.ref l) H'
/-- a def of the module's, called by its name -/
structure DF (P : Program) (w : World) (K : PySem.W.Frag) (mg : Str → Option Value) (base : Heap) (k : Nat) (x : Str) (sp : Sp) : Prop where
  ex : ∃ f fd ps, FnOk P w K mg base CX0 k f fd ps sp ∧ mg x = some (.ref f) ∧ PySem.W.keepIn K (.ref f) = true ∧ Binds K fd ps []
theorem DF.mono {P : Program} {w : World} {K : PySem.W.Frag} {mg : Str → Option Value} {base : Heap} {k j : Nat} {x : Str} {sp : Sp} (h : DF P w K mg base k x sp) (l : k ≤ j) : DF P w K mg base j x sp := by
  obtain ⟨f, fd, ps, a, b, c, d⟩ := h.ex
  exact ⟨f, fd, ps, a.mono l, b, c, d⟩
section
variable {X : Cx} {γ : List Sl} {e : Expr} {es : List Expr} {d : D} {ds zs : List D} {pos pn : Pos} {k : Nat} {n : Str}
theorem pd_f {G : List D → D → Prop} (F : DF X.prog X.w X.K X.mg X.base k n (spD X.K G)) (hr : Room k X.A) (ha : PDA X γ (e :: es) ds) (hG : G ds d) (hg : Gl X n := by rfl) (hdb : (n == ("__debug__" : Str)) = false := by decide)
    (he : starEach (e :: es) X.env = (false, eval e X.env) :: starEach es X.env := by rfl) (hpl : (backTo pos (starEach es X.env)).any (·.1) = false := by rfl) : PD X γ (.Call (.Name n pn) (e :: es) [] pos) d := fun σ Hs H Q s E kk => by
  obtain ⟨f, fd, ps, a, b, c, dd⟩ := F.ex
  refine wE_of (pe_call a hr hg b c dd .nil pass0 (wA_ok _) hdb he hpl) (ha σ Hs H _ s E fun vs Hs' H' g r => ?_)
  rw [List.append_nil]
  exact ⟨Hs', ds, d, g.sub, r, hG, fun v Hs2 H2 g2 r2 => kk v Hs2 H2 (g.trans g2) r2⟩
theorem pn_f {G : List D → List D → Prop} (F : DF X.prog X.w X.K X.mg X.base k n (spN X.K G)) (hr : Room k X.A) (ha : PDA X γ (e :: es) ds) (hG : G ds zs) (hg : Gl X n := by rfl) (hdb : (n == ("__debug__" : Str)) = false := by decide)
    (he : starEach (e :: es) X.env = (false, eval e X.env) :: starEach es X.env := by rfl) (hpl : (backTo pos (starEach es X.env)).any (·.1) = false := by rfl) : PN X γ (.Call (.Name n pn) (e :: es) [] pos) zs := fun σ Hs H Q s E kk => by
  obtain ⟨f, fd, ps, a, b, c, dd⟩ := F.ex
  refine wE_of (pe_call a hr hg b c dd .nil pass0 (wA_ok _) hdb he hpl) (ha σ Hs H _ s E fun vs Hs' H' g r => ?_)
  rw [List.append_nil]
  exact ⟨Hs', ds, zs, g.sub, r, hG, fun l us Hs2 H2 g2 h1 h2 h3 r2 => kk l us Hs2 H2 (g.trans g2) (g.ext.free h1) h2 h3 r2⟩
end
/-- the start of a def's body -/
def st0 (N : List Str) (ds : List D) : List Sl := ds.map Sl.sh ++ List.replicate (N.length - ds.length) .no
theorem st_start {K : PySem.W.Frag} {Hs H : Hp} {N : List Str} {vs : List V} {ds : List D} (s : Same Hs H) (r : Reps K Hs vs ds) : ST K Hs H Hs Hs H (L2.start N vs) (st0 N ds) := by
  have hl := r.length
  have no : ∀ (i : Nat) x, (st0 N ds)[i]? = some x → (∃ d, ds[i]? = some d ∧ x = Sl.sh d) ∨ x = Sl.no := fun i x q => by
    unfold st0 at q
    by_cases h : i < (ds.map Sl.sh).length
    · rw [List.getElem?_append_left h, List.getElem?_map] at q
      cases e : ds[i]? with
      | none => rw [e] at q; cases q
      | some d => rw [e] at q; cases q; exact .inl ⟨d, rfl, rfl⟩
    · rw [List.getElem?_append_right (Nat.le_of_not_lt h), List.getElem?_replicate] at q
      split at q
      · cases q; exact .inr rfl
      · cases q
  refine ⟨Gr.refl s, Same.refl _, ?_, fun i d q => ?_, fun i u q w => ?_, fun i j u u' l _ q _ w => ?_⟩
  · unfold L2.start st0; simp [hl]
  · rcases no i _ q with ⟨d', h1, h2⟩ | h
    · cases h2
      obtain ⟨v, hv, rv⟩ := r.get h1
      refine ⟨v, ?_, rv⟩
      unfold L2.start
      have : i < (vs.map some).length := by
        rw [List.length_map]; exact (List.getElem?_eq_some_iff.mp hv).1
      rw [List.getElem?_append_left this, List.getElem?_map, hv] <;> rfl
    · cases h
  · rcases no i _ q with ⟨d', h1, h2⟩ | h
    · subst h2; cases w
    · subst h; cases w
  · rcases no i _ q with ⟨d', h1, h2⟩ | h
    · subst h2; cases w
    · subst h; cases w
end Pd
end

section
set_option autoImplicit false
set_option Elab.async false
set_option linter.all false
set_option maxRecDepth 100000
set_option maxHeartbeats 4000000
namespace Pd
open PySem PySem.Spec PyProof.Rows L2

/-! ### a def's body -/
section
variable {P : Program} {w : World} {K : PySem.W.Frag} {mg : Str → Option Value} {base : Heap} {x qual : Str} {params : Arguments} {body : List Stmt} {scope : Scope} {f : Addr} {fd : FuncData} {N ps : List Str} {k : Nat}
/-- the context of a def that lets no exception out -/
abbrev BX (P : Program) (w : World) (K : PySem.W.Frag) (mg : Str → Option Value) (base : Heap) (N : List Str) (qual : Str) (scope : Scope) (f : Addr) (cdv : Value) (A : Around) (outer : List Env) (s : Shared) (H : Hp) (E : XK) : Cx := (cxOf CX0 P w K mg base N qual scope f cdv A outer s H E).nox
theorem fnD {dvs : List V} {kws : List (Str × V)} {G : List D → D → Prop} (F : FunD K x qual params body scope dvs kws f fd) (S : FnScope N ps scope) (len : ∀ ds d, G ds d → ds.length = ps.length)
    (hbody : ∀ cdv A outer s H E, Room k (BX P w K mg base N qual scope f cdv A outer s H E).A → ∀ ds d, G ds d → SD (BX P w K mg base N qual scope f cdv A outer s H E) body (st0 N ds) { nx := fun _ => d = .non, rt := fun d' => d' = d, rn := fun es => d = .lst es }) :
    FnOk P w K mg base CX0 (k + 1) f fd ps (spD K G) := by
  refine F.ok S (fun vs H Q E h => ?_) (fun cdv A outer s H vs Q E hr h => ?_)
  · obtain ⟨Hs, ds, d, _, r, hG, _⟩ := h
    rw [r.length, len ds d hG]
  · obtain ⟨Hs, ds, d, sm, r, hG, kk⟩ := h
    refine ⟨_, PSs.nox (wSs_ok _), ?_⟩
    refine hbody cdv A outer s H E hr ds d hG Hs H Hs { nx := fun _ H' => Q .non H', rt := Q } ⟨fun γ σ Hs' H' t q => ?_, fun _ _ _ _ _ q => q.elim, fun _ _ _ _ _ q => q.elim, fun d' v Hs' H' g r' q => ?_, fun es l us Hs' H' g h1 h2 h3 r' q => ?_, .inl fun _ _ _ q => q⟩ _ Hs H (st_start sm r)
    · subst q
      exact kk _ Hs' H' t.gr .non
    · subst q
      exact kk v Hs' H' g r'
    · subst q
      obtain ⟨g', r2⟩ := share sm g h1 h2 h3 r'
      exact kk _ _ _ g' r2
theorem fnN {dvs : List V} {kws : List (Str × V)} {G : List D → List D → Prop} (F : FunD K x qual params body scope dvs kws f fd) (S : FnScope N ps scope) (len : ∀ ds d, G ds d → ds.length = ps.length)
    (hbody : ∀ cdv A outer s H E, Room k (BX P w K mg base N qual scope f cdv A outer s H E).A → ∀ ds es, G ds es → SD (BX P w K mg base N qual scope f cdv A outer s H E) body (st0 N ds) { nx := fun _ => False, rt := fun _ => False, rn := fun es' => es' = es }) :
    FnOk P w K mg base CX0 (k + 1) f fd ps (spN K G) := by
  refine F.ok S (fun vs H Q E h => ?_) (fun cdv A outer s H vs Q E hr h => ?_)
  · obtain ⟨Hs, ds, d, _, r, hG, _⟩ := h
    rw [r.length, len ds d hG]
  · obtain ⟨Hs, ds, es, sm, r, hG, kk⟩ := h
    refine ⟨_, PSs.nox (wSs_ok _), ?_⟩
    refine hbody cdv A outer s H E hr ds es hG Hs H Hs { nx := fun _ H' => Q .non H', rt := Q } ⟨fun γ σ Hs' H' t q => q.elim, fun _ _ _ _ _ q => q.elim, fun _ _ _ _ _ q => q.elim, fun d' v Hs' H' g r' q => q.elim, fun es' l us Hs' H' g h1 h2 h3 r' q => ?_, .inl fun _ _ _ q => q⟩ _ Hs H (st_start sm r)
    subst q
    exact kk l us Hs' H' g h1 h2 h3 r'
end

/-! ### what is walked -/
def Feeds (K : PySem.W.Frag) (J : It) (ds : List D) (Hs : Hp) : Prop := ∀ Hs' H', Same Hs Hs' → Same Hs' H' →
  (∀ (i : Nat) d, ds[i]? = some d → J.go i H' ∧ ∀ x H'', J.yld i H' x H'' → ∃ Hs'', Gr Hs' H' Hs'' H'' ∧ Rep K Hs'' x d) ∧ J.stop ds.length H'
structure PDI (X : Cx) (γ : List Sl) (iter : Expr) (ds : List D) : Prop where
  ex : ∃ wi : TI, (∀ tg, PI X tg iter wi) ∧ ∀ σ Hs H (R : It → Hp → Prop), Same Hs H → SE X.K Hs σ γ → (∀ J Hs' H', Gr Hs H Hs' H' → Feeds X.K J ds Hs' → R J H') → wi σ H R
/-- the same for one target -/
structure PDIt (X : Cx) (γ : List Sl) (tg iter : Expr) (ds : List D) : Prop where
  ex : ∃ wi : TI, PI X tg iter wi ∧ ∀ σ Hs H (R : It → Hp → Prop), Same Hs H → SE X.K Hs σ γ → (∀ J Hs' H', Gr Hs H Hs' H' → Feeds X.K J ds Hs' → R J H') → wi σ H R
theorem PDI.at {X : Cx} {γ : List Sl} {iter : Expr} {ds : List D} (h : PDI X γ iter ds) (tg : Expr) : PDIt X γ tg iter ds :=
  let ⟨wi, a, b⟩ := h.ex
  ⟨wi, a tg, b⟩
theorem PDIt.is {X : Cx} {γ : List Sl} {tg e : Expr} {ds ds' : List D} (h : PDIt X γ tg e ds) (q : ds = ds') : PDIt X γ tg e ds' := by rw [← q]; exact h
section
variable {X : Cx} {γ : List Sl} {e a b : Expr} {es : List Expr} {d : D} {ds : List D} {pos pn : Pos}
theorem PDI.is {ds' : List D} (h : PDI X γ e ds) (q : ds = ds') : PDI X γ e ds' := by rw [← q]; exact h
theorem feeds_l {K : PySem.W.Frag} {Hs : Hp} {l : Addr} {vs : List V} (h1 : SqL K Hs l vs) (r : Reps K Hs vs ds) : Feeds K (Itl K l) ds Hs := fun Hs' H' s1 s2 => by
  have q := sqL_mono (s1.trans s2) h1
  refine ⟨fun i d hd => ?_, vs, q, Nat.le_of_eq r.length⟩
  obtain ⟨v, hv, rv⟩ := r.get hd
  refine ⟨⟨vs, v, q, hv⟩, fun x H'' y => ?_⟩
  obtain ⟨e, y⟩ := y
  subst e
  have e2 := y vs q
  rw [hv] at e2
  cases e2
  exact ⟨Hs', Gr.refl s2, rv.mono s1⟩
theorem feeds_t {K : PySem.W.Frag} {Hs : Hp} {l : Addr} {vs : List V} (h1 : SqT K Hs l vs) (r : Reps K Hs vs ds) : Feeds K (Itt K l) ds Hs := fun Hs' H' s1 s2 => by
  have q := sqT_mono (s1.trans s2) h1
  refine ⟨fun i d hd => ?_, vs, q, Nat.le_of_eq r.length⟩
  obtain ⟨v, hv, rv⟩ := r.get hd
  refine ⟨⟨vs, v, q, hv⟩, fun x H'' y => ?_⟩
  obtain ⟨e, y⟩ := y
  subst e
  have e2 := y vs q
  rw [hv] at e2
  cases e2
  exact ⟨Hs', Gr.refl s2, rv.mono s1⟩
theorem it_l (h : PD X γ e (.lst ds)) : PDI X γ e ds := ⟨iList X.K (wE X e), fun tg => pi_list (wE_ok e), fun σ Hs H R s E k => h σ Hs H _ s E fun v Hs' H' g r => by
  cases r with
  | lst h1 r1 => exact ⟨_, rfl, ⟨_, SqL.of (g.sub _ _ h1)⟩, k _ Hs' H' g (feeds_l (SqL.of h1) r1)⟩⟩
theorem it_r (h : PD X γ e (.rol ds)) : PDI X γ e ds := ⟨iList X.K (wE X e), fun tg => pi_list (wE_ok e), fun σ Hs H R s E k => h σ Hs H _ s E fun v Hs' H' g r => by
  cases r with
  | rol h1 r1 => exact ⟨_, rfl, ⟨_, sqL_mono g.sub h1⟩, k _ Hs' H' g (feeds_l h1 r1)⟩⟩
theorem it_t (h : PD X γ e (.tup ds)) : PDI X γ e ds := ⟨iTup X.K (wE X e), fun tg => pi_tup (wE_ok e), fun σ Hs H R s E k => h σ Hs H _ s E fun v Hs' H' g r => by
  cases r with
  | tup h1 r1 => exact ⟨_, rfl, ⟨_, sqT_mono g.sub h1⟩, k _ Hs' H' g (feeds_t h1 r1)⟩⟩
def rngD (lo : Int) (n : Nat) : List D := (List.range n).map fun (i : Nat) => D.int (lo + (i : Int))
theorem rngD_at {lo : Int} {n i : Nat} {d : D} (h : (rngD lo n)[i]? = some d) : i < n ∧ d = .int (lo + (i : Int)) := by
  unfold rngD at h
  rw [List.getElem?_map] at h
  by_cases q : i < n
  · rw [List.getElem?_eq_getElem (by simpa using q)] at h
    simp at h
    exact ⟨q, h.symm⟩
  · rw [List.getElem?_eq_none (by simpa using Nat.le_of_not_lt q)] at h
    cases h
theorem rngD_len {lo : Int} {n : Nat} : (rngD lo n).length = n := by unfold rngD; simp
theorem feeds_r {K : PySem.W.Frag} {Hs : Hp} {lo : Int} {n : Nat} : Feeds K (Itr lo n) (rngD lo n) Hs := fun Hs' H' s1 s2 => by
  refine ⟨fun i d hd => ?_, Nat.le_of_eq (by rw [rngD_len])⟩
  obtain ⟨hi, rfl⟩ := rngD_at hd
  refine ⟨hi, fun x H'' y => ?_⟩
  obtain ⟨e, e2⟩ := y
  subst e e2
  exact ⟨Hs', Gr.refl s2, .int _⟩
theorem it_range1 {j : Int} (h : PD X γ a (.int j)) (hm : X.mg "range" = none) (h0 : -(2 ^ 62) ≤ j) (h1 : j < 2 ^ 62) (hg : Gl X "range" := by rfl) (hs : starEach [a] X.env = [(false, eval a X.env)] := by rfl) : PDI X γ (.Call (.Name "range" pn) [a] [] pos) (rngD 0 j.toNat) :=
  ⟨iRng1 (wA X [a]), fun tg => pi_range1 hg hm (wA_ok _) hs, fun σ Hs H R s E k => pa_cons h pa_nil hs σ Hs H _ s E fun vs Hs' H' g r => by
    cases r with
    | cons r1 rn =>
      cases rn
      cases r1
      exact ⟨j, rfl, h0, h1, k _ Hs' H' g feeds_r⟩⟩
theorem it_range2 {i j : Int} (h : PD X γ a (.int i)) (h2 : PD X γ b (.int j)) (hm : X.mg "range" = none) (hb : -(2 ^ 62) ≤ i ∧ i < 2 ^ 62 ∧ -(2 ^ 62) ≤ j ∧ j < 2 ^ 62) (hg : Gl X "range" := by rfl)
    (hs : starEach [a, b] X.env = [(false, eval a X.env), (false, eval b X.env)] := by rfl) (hs2 : starEach [b] X.env = [(false, eval b X.env)] := by rfl) : PDI X γ (.Call (.Name "range" pn) [a, b] [] pos) (rngD i (j - i).toNat) :=
  ⟨iRng2 (wA X [a, b]), fun tg => pi_range2 hg hm (wA_ok _) hs hs2, fun σ Hs H R s E k => pa_cons h (pa_cons h2 pa_nil hs2) (by rw [hs, hs2]) σ Hs H _ s E fun vs Hs' H' g r => by
    cases r with
    | cons r1 rn =>
      cases rn with
      | cons r2 rn =>
        cases rn
        cases r1
        cases r2
        exact ⟨i, j, rfl, hb, k _ Hs' H' g feeds_r⟩⟩
end

/-! ### targets -/
def wG (X : Cx) (tg : Expr) : TG := fun v σ H Q => ∀ (pins : List (Addr × Obj)) (s : Shared) (u : Value), Inv X pins σ H s → RelV v u → wpAny (model X.prog X.w) X.A (assign tg X.env u) (fun _ s' => ∃ σ' H', Inv X pins σ' H' s' ∧ Q σ' H') X.xe s
theorem wG_ok {X : Cx} (tg : Expr) : PG X tg (wG X tg) := ⟨fun pins s σ H v u Q I r h => h pins s u I r⟩
theorem wG_of {X : Cx} {tg : Expr} {t : TG} (h : PG X tg t) {v : V} {σ : L2.St} {H : Hp} {Q : L2.St → Hp → Prop} (q : t v σ H Q) : wG X tg v σ H Q := fun pins s u I r => h.run pins s σ H v u Q I r q
/-- storing d turns γ to γ', in the slots js -/
def PDG (X : Cx) (γ : List Sl) (tg : Expr) (d : D) (γ' : List Sl) (js : List Nat) : Prop := ∀ (Hs0 H0 Hr Hs H : Hp) (σ : L2.St) (v : V) (Q : L2.St → Hp → Prop), ST X.K Hs0 H0 Hr Hs H σ γ → Rep X.K Hs v d →
  (∀ σ' Hs' H', ST X.K Hs0 H0 Hr Hs' H' σ' γ' → Gr Hs H Hs' H' → σ'.length = σ.length → (∀ i : Nat, i ∉ js → σ'[i]? = σ[i]?) → Q σ' H') → wG X tg v σ H Q
section
variable {X : Cx} {γ : List Sl} {R : Rs} {tg iter e : Expr} {body rest : List Stmt} {d : D} {ds : List D} {pos pn : Pos}
theorem pg_n {n : Str} (i : Nat) (hN : X.N.Nodup) (hi : X.N[i]? = some n := by rfl) (hx : Loc X.env.scope n := by first | exact Or.inl rfl | exact Or.inr rfl) (hf : X.fn n = true ∨ X.env.scope.names.lookup n = some .local := by first | exact .inl rfl | exact .inr rfl) :
    PDG X γ (.Name n pn) d (γ.set i (.sh d)) [i] := fun Hs0 H0 Hr Hs H σ v Q t r k =>
  wG_of (pg_name hN hi hx hf) (k _ Hs H (t.set r) (Gr.refl t.sub) (by simp) fun j hj => by
    rw [List.getElem?_set_ne (fun z => hj (by rw [z]; exact List.mem_singleton.mpr rfl))])
/-- for: the invariant by the turn -/
theorem s1_forT {α : Type} {emb : α → D} (as : List α) (Iv : Nat → List Sl → Prop) (hi : PDIt X γ tg iter (as.map emb)) (h0 : Iv 0 γ)
    (hs : ∀ (i : Nat) a γ1, as[i]? = some a → Iv i γ1 → ∃ γ2 js, PDG X γ1 tg (emb a) γ2 js ∧ SD X body γ2 { nx := Iv (i + 1), ct := Iv (i + 1), bk := R.nx, rt := R.rt, rn := R.rn, xs := R.xs })
    (hd : ∀ γ1, Iv as.length γ1 → R.nx γ1) (hc : X.calm = true := by rfl) (hp : PassesOwn (model X.prog X.w) X.A X.env X.xe := by exact PassesOwn.never) (hsi : ∀ x, foldedSetIterable iter X.env x = pure x := by intro _; rfl) : S1 X (.For tg iter body [] pos) γ R := fun Hs0 H0 Hr E F σ Hs H t => by
  obtain ⟨wi, hpi, hfe⟩ := hi.ex
  refine wS_of (ps_for hp hc hpi (wG_ok tg) (wSs_ok body) hsi) ?_
  refine hfe σ Hs H _ t.sub t.se fun J Hs1 H1 g1 fe => ?_
  refine ⟨fun i m σ' H' => m = as.length - i ∧ i ≤ as.length ∧ ∃ γ' Hs', ST X.K Hs0 H0 Hs1 Hs' H' σ' γ' ∧ Iv i γ', ⟨as.length, by simp, Nat.zero_le _, γ, Hs1, ?_, h0⟩, ?_⟩
  · have t1 := t.go g1
    exact ⟨t1.gr, Same.refl _, t1.len, t1.shd, t1.own, t1.dif⟩
  rintro i m σ' H' ⟨rfl, hle, γ', Hs', t', iv⟩
  obtain ⟨f1, f2⟩ := fe Hs' H' t'.rf t'.sub
  have back : ∀ {γ2 : List Sl} {σ2 : L2.St} {Hs2 H2 : Hp}, ST X.K Hs0 H0 Hs1 Hs2 H2 σ2 γ2 → ST X.K Hs0 H0 Hr Hs2 H2 σ2 γ2 := fun {γ2 σ2 Hs2 H2} t2 => ⟨t2.gr, (t.rf.trans g1.sh).trans t2.rf, t2.len, t2.shd, t2.own, t2.dif⟩
  by_cases hlt : i < as.length
  · have ha : as[i]? = some as[i] := by simp [hlt]
    have hd' : (as.map emb)[i]? = some (emb as[i]) := by rw [List.getElem?_map, ha] <;> rfl
    obtain ⟨go, yld⟩ := f1 i _ hd'
    refine .inr ⟨go, fun σ2 H2 => ∃ γ2 Hs2, ST X.K Hs0 H0 Hs1 Hs2 H2 σ2 γ2 ∧ Iv (i + 1) γ2, fun σ2 H2 ⟨γ2, Hs2, t2, iv2⟩ => ⟨as.length - (i + 1), by omega, rfl, hlt, γ2, Hs2, t2, iv2⟩, fun x H2 y => ?_⟩
    obtain ⟨Hs2, g2, r2⟩ := yld x H2 y
    obtain ⟨γ2, js, hg, hb⟩ := hs i _ γ' ha iv
    refine hg Hs0 H0 Hs1 Hs2 H2 σ' x _ (t'.go g2) r2 fun σ3 Hs3 H3 t3 _ _ _ => ?_
    exact hb Hs0 H0 Hs1 { E with nx := fun σ2 H2 => ∃ γ2 Hs2, ST X.K Hs0 H0 Hs1 Hs2 H2 σ2 γ2 ∧ Iv (i + 1) γ2, ct := fun σ2 H2 => ∃ γ2 Hs2, ST X.K Hs0 H0 Hs1 Hs2 H2 σ2 γ2 ∧ Iv (i + 1) γ2, bk := E.nx } ⟨fun γ4 σ4 Hs4 H4 t4 q => ⟨γ4, Hs4, t4, q⟩, fun γ4 σ4 Hs4 H4 t4 q => F.nx γ4 σ4 Hs4 H4 (back t4) q, fun γ4 σ4 Hs4 H4 t4 q => ⟨γ4, Hs4, t4, q⟩, F.rt, F.rn, F.xs.elim .inl fun ⟨W, a, b⟩ => .inr ⟨W, a, fun C fs dd vs γ4 σ4 Hs4 H4 t4 h1 h2 q => b C fs dd vs γ4 σ4 Hs4 H4 (back t4) h1 h2 q⟩⟩ σ3 Hs3 H3 t3
  · have e : i = as.length := by omega
    subst e
    refine .inl ⟨?_, F.nx γ' σ' Hs' H' (back t') (hd γ' iv)⟩
    rw [List.length_map] at f2
    exact f2
theorem s1_for {α : Type} {emb : α → D} (as : List α) (Iv : Nat → List Sl → Prop) (hi : PDI X γ iter (as.map emb)) (h0 : Iv 0 γ)
    (hs : ∀ (i : Nat) a γ1, as[i]? = some a → Iv i γ1 → ∃ γ2 js, PDG X γ1 tg (emb a) γ2 js ∧ SD X body γ2 { nx := Iv (i + 1), ct := Iv (i + 1), bk := R.nx, rt := R.rt, rn := R.rn, xs := R.xs })
    (hd : ∀ γ1, Iv as.length γ1 → R.nx γ1) (hc : X.calm = true := by rfl) (hp : PassesOwn (model X.prog X.w) X.A X.env X.xe := by exact PassesOwn.never) (hsi : ∀ x, foldedSetIterable iter X.env x = pure x := by intro _; rfl) : S1 X (.For tg iter body [] pos) γ R := s1_forT as Iv (hi.at tg) h0 hs hd hc hp hsi
end

/-! ### comprehensions -/
def wTs (X : Cx) (ifs : List Expr) (t : TT) : Prop := PTs X ifs t
def PDTs (X : Cx) (γ : List Sl) (ifs : List Expr) (b : Bool) : Prop := match ifs with
  | [] => b = true
  | [c] => PDT X γ c b
  | _ => False
def tTs (X : Cx) : List Expr → TT
  | [] => tYes
  | [c] => wT X c
  | _ => fun _ _ _ => False
theorem tTs_ok {X : Cx} : ∀ {ifs : List Expr}, ifs.length ≤ 1 → PTs X ifs (tTs X ifs)
  | [], _ => pts_nil
  | [c], _ => pts_one (wT_ok c)
  | _ :: _ :: _, h => absurd h (by simp)
theorem ts_go {X : Cx} {γ : List Sl} {ifs : List Expr} {b : Bool} {σ : L2.St} {Hs H : Hp} {Q : Bool → Hp → Prop} (h : PDTs X γ ifs b) (s : Same Hs H) (E : SE X.K Hs σ γ) (k : ∀ Hs' H', Gr Hs H Hs' H' → Q b H') : tTs X ifs σ H Q := by
  match ifs, h with
  | [], h =>
    have e : b = true := h
    subst e
    exact k Hs H (Gr.refl s)
  | [c], h => exact (show PDT X γ c b from h) σ Hs H Q s E k
def wipeS (γ : List Sl) : List Nat → List Sl
  | [] => γ
  | v :: vs => (wipeS γ vs).set v .no
theorem wipeS_len (γ : List Sl) : ∀ vs, (wipeS γ vs).length = γ.length
  | [] => rfl
  | v :: vs => by unfold wipeS; rw [List.length_set, wipeS_len]
theorem wipeS_at {γ : List Sl} {i : Nat} {d : D} : ∀ {vs : List Nat}, (wipeS γ vs)[i]? = some (.sh d) → γ[i]? = some (.sh d) ∧ i ∉ vs
  | [], h => ⟨h, by simp⟩
  | v :: vs, h => by
    unfold wipeS at h
    by_cases hi : v = i
    · subst hi
      by_cases hv : v < (wipeS γ vs).length
      · rw [List.getElem?_set_self hv] at h; cases h
      · rw [List.getElem?_eq_none (by simpa using hv)] at h; cases h
    · rw [List.getElem?_set_ne hi] at h
      obtain ⟨h1, h2⟩ := wipeS_at h
      exact ⟨h1, by simp only [List.mem_cons, not_or]; exact ⟨fun e => hi e.symm, h2⟩⟩
theorem wipe_out {σ : L2.St} {i : Nat} : ∀ {vs : List Nat}, i ∉ vs → (wipe σ vs)[i]? = σ[i]?
  | [], _ => rfl
  | v :: vs, h => by
    unfold wipe
    simp only [List.mem_cons, not_or] at h
    rw [List.getElem?_set_ne (Ne.symm h.1), wipe_out h.2]
theorem wipe_in {σ : L2.St} {i : Nat} : ∀ {vs : List Nat}, i ∈ vs → i < σ.length → (wipe σ vs)[i]? = some none
  | v :: vs, h, hl => by
    unfold wipe
    by_cases e : v = i
    · subst e
      rw [List.getElem?_set_self (by rw [wipe_length]; exact hl)]
    · rw [List.getElem?_set_ne e]
      rcases List.mem_cons.mp h with z | z
      · exact absurd z.symm e
      · exact wipe_in z hl
theorem wipe_eq {σ σ' : L2.St} {vs : List Nat} (hl : σ'.length = σ.length) (h : ∀ i : Nat, i ∉ vs → σ'[i]? = σ[i]?) : wipe σ' vs = wipe σ vs := by
  apply List.ext_getElem?
  intro i
  by_cases q : i ∈ vs
  · by_cases hi : i < σ.length
    · rw [wipe_in q hi, wipe_in q (by rw [hl]; exact hi)]
    · rw [List.getElem?_eq_none (by rw [wipe_length, hl]; exact Nat.le_of_not_lt hi), List.getElem?_eq_none (by rw [wipe_length]; exact Nat.le_of_not_lt hi)]
  · rw [wipe_out q, wipe_out q, h i q]
/-- no list of one's own is seen -/
def Sl.hd : Sl → Sl
  | .ow _ => .no
  | .ob _ _ _ => .no
  | s => s
/-- what a comprehension's block sees -/
def blkS (γ : List Sl) (vs : List Nat) : List Sl := wipeS (γ.map Sl.hd) vs
theorem blkS_st {K : PySem.W.Frag} {Hs H : Hp} {σ : L2.St} {γ : List Sl} {vs : List Nat} (s : Same Hs H) (E : SE K Hs σ γ) : ST K Hs H Hs Hs H (wipe σ vs) (blkS γ vs) := by
  have no : ∀ (i : Nat) (u : Sl), (blkS γ vs)[i]? = some u → u.isO = false := fun i u => by
    have : ∀ vs : List Nat, (wipeS (γ.map Sl.hd) vs)[i]? = some u → u.isO = false := fun vs => by
      induction vs with
      | nil =>
        intro q
        unfold wipeS at q
        rw [List.getElem?_map] at q
        cases e : γ[i]? with
        | none => rw [e] at q; cases q
        | some z => rw [e] at q; cases z <;> cases q <;> rfl
      | cons v vs ih =>
        intro q
        unfold wipeS at q
        by_cases hi : v = i
        · subst hi
          have z := set_self_of q
          subst z
          rfl
        · rw [List.getElem?_set_ne hi] at q
          exact ih q
    exact this vs
  refine ⟨Gr.refl s, Same.refl _, ?_, fun i d q => ?_, fun i u q w => (by rw [no i u q] at w; cases w), fun i j u u' l _ q _ w => (by rw [no i u q] at w; cases w)⟩
  · rw [wipe_length]; unfold blkS; rw [wipeS_len]; simpa using E.len
  · obtain ⟨q1, q2⟩ := wipeS_at q
    rw [List.getElem?_map] at q1
    cases e : γ[i]? with
    | none => rw [e] at q1; cases q1
    | some z =>
      rw [e] at q1
      cases z with
      | no => cases q1
      | ow _ => cases q1
      | ob _ _ _ => cases q1
      | sh d' =>
        cases q1
        obtain ⟨v, h1, h2⟩ := E.sh i _ e
        exact ⟨v, by rw [wipe_out q2]; exact h1, h2⟩
section
variable {X : Cx} {γ : List Sl} {R : Rs} {tg iter elt : Expr} {ifs : List Expr} {d : D} {ds : List D} {pos pn : Pos} {scope : Scope} {own : List (Str × Nat)}
/-- the context of a comprehension's block -/
abbrev KX (X : Cx) (scope : Scope) (s : Shared) (H : Hp) (C : Addr) (cl : List (Str × Addr)) (fp : List Addr) : Cx := X.blk s H scope (compEnvC scope cl C X.env) fp
/-- what the block gives of a, at every context -/
def Turns {α : Type} (X : Cx) (γ : List Sl) (scope : Scope) (own : List (Str × Nat)) (tg elt : Expr) (ifs : List Expr) (emb : α → D) (as : List α) (f : α → Option D) : Prop := ∀ a, a ∈ as → ∃ γ2 js p, (∀ j ∈ js, j ∈ own.map (·.2)) ∧ (p = false → f a = none) ∧
  ∃ y, (p = true → f a = some y) ∧ ∀ (s : Shared) (H : Hp) (C : Addr) (cl : List (Str × Addr)) (fp : List Addr),
    PDG (KX X scope s H C cl fp) (blkS γ (own.map (·.2))) tg (emb a) γ2 js ∧ PDTs (KX X scope s H C cl fp) γ2 ifs p ∧ (p = true → PD (KX X scope s H C cl fp) γ2 elt y)
/-- the readings over all contexts: the pieces that pe_lc wants -/
def cG (X : Cx) (scope : Scope) (tg : Expr) : TG := fun v σ H Q => ∀ s H1 C cl fp, wG (KX X scope s H1 C cl fp) tg v σ H Q
def cT (X : Cx) (scope : Scope) (ifs : List Expr) : TT := fun σ H Q => ∀ s H1 C cl fp, tTs (KX X scope s H1 C cl fp) ifs σ H Q
def cE (X : Cx) (scope : Scope) (e : Expr) : TE := fun σ H Q => ∀ s H1 C cl fp, wE (KX X scope s H1 C cl fp) e σ H Q
theorem filterMap_take_succ {α β : Type} {as : List α} {f : α → Option β} {i : Nat} {a : α} (h : as[i]? = some a) : (as.take (i + 1)).filterMap f = (as.take i).filterMap f ++ (match f a with | some y => [y] | none => []) := by
  rw [List.take_add_one, h]
  simp only [Option.toList, List.filterMap_append]
  cases e : f a with
  | none => simp [e]
  | some y => simp [e]
/-- the reading of [elt for tg in iter if ..] -/
theorem lc_go {α : Type} {emb : α → D} {as : List α} {f : α → Option D} {wi : TI} {σ : L2.St} {Hs H : Hp} {Q : VK} (hfe : ∀ σ Hs H (R : It → Hp → Prop), Same Hs H → SE X.K Hs σ γ → (∀ J Hs' H', Gr Hs H Hs' H' → Feeds X.K J (as.map emb) Hs' → R J H') → wi σ H R)
    (ht : Turns X γ scope own tg elt ifs emb as f) (hz : as.length ≤ 50000) (s : Same Hs H) (E : SE X.K Hs σ γ)
    (k : ∀ l vs Hs' H', Gr Hs H Hs' H' → H l = none → Hs' l = none → H' l = some (.lst vs) → Reps X.K Hs' vs (as.filterMap f) → Q (.ref l) H') :
    tLc wi (cG X scope tg) (cT X scope ifs) (cE X scope elt) (own.map (·.2)) σ H Q := by
  refine hfe σ Hs H _ s E fun J Hs1 H1 g1 fe => fun Dl hD => ?_
  have gn : Gr Hs1 H1 Hs1 (upd H1 Dl (.lst [])) := ⟨Same.refl _, fun a u e => by rw [upd_ne (ne_of_none e hD)]; exact e, fun a u e => by rw [upd_ne (ne_of_none (g1.sub a u e) hD)]; exact g1.sub a u e, fun _ _ h => h⟩
  refine ⟨fun i m H' => m = as.length - i ∧ i ≤ as.length ∧ ∃ Hs' acc, Gr Hs1 H1 Hs' H' ∧ H' Dl = some (.lst acc) ∧ Hs' Dl = none ∧ Reps X.K Hs' acc ((as.take i).filterMap f), ⟨as.length, by simp, Nat.zero_le _, Hs1, [], gn, upd_same, g1.sub.free hD, .nil⟩, ?_⟩
  rintro i m H' ⟨rfl, hle, Hs', acc, g2, h1, h2, r⟩
  obtain ⟨f1, f2⟩ := fe Hs' H' g2.sh g2.sub
  by_cases hlt : i < as.length
  · have ha : as[i]? = some as[i] := by simp [hlt]
    have hd' : (as.map emb)[i]? = some (emb as[i]) := by rw [List.getElem?_map, ha] <;> rfl
    obtain ⟨go, yld⟩ := f1 i _ hd'
    obtain ⟨γ2, js, p, hjs, hp0, y, hp1, hall⟩ := ht as[i] (List.getElem_mem hlt)
    have hacc : acc.length ≤ i := by
      rw [r.length]
      exact Nat.le_trans (List.length_filterMap_le _ _) (by rw [List.length_take]; omega)
    refine .inr ⟨go, fun H2 => ∃ Hs2 acc2, Gr Hs1 H1 Hs2 H2 ∧ H2 Dl = some (.lst acc2) ∧ Hs2 Dl = none ∧ Reps X.K Hs2 acc2 ((as.take (i + 1)).filterMap f), fun H2 ⟨Hs2, acc2, q1, q2, q3, q4⟩ => ⟨as.length - (i + 1), by omega, rfl, hlt, Hs2, acc2, q1, q2, q3, q4⟩, fun x H2 yy => ?_⟩
    obtain ⟨Hs2, g3, r2⟩ := yld x H2 yy
    have g23 := g2.trans g3
    have E2 : SE X.K Hs2 σ γ := E.mono (g1.sh.trans g23.sh)
    intro s5 H5 C5 cl5 fp5
    refine (hall s5 H5 C5 cl5 fp5).1 Hs2 H2 Hs2 Hs2 H2 (wipe σ (own.map (·.2))) x _ (blkS_st g3.sub E2) r2 fun σ3 Hs3 H3 t3 g4 hlen hout => ?_
    refine ⟨?_, ?_⟩
    · have e := wipe_eq (vs := own.map (·.2)) hlen fun i hi => hout i fun z => hi (hjs i z)
      rw [e]
      apply List.ext_getElem?
      intro n
      by_cases q : n ∈ own.map (·.2)
      · by_cases hn : n < σ.length
        · rw [wipe_in q hn, wipe_in q (by rw [wipe_length]; exact hn)]
        · rw [List.getElem?_eq_none (by rw [wipe_length, wipe_length]; exact Nat.le_of_not_lt hn), List.getElem?_eq_none (by rw [wipe_length]; exact Nat.le_of_not_lt hn)]
      · rw [wipe_out q]
    have g24 := g23.trans g4
    intro s6 H6 C6 cl6 fp6
    refine ts_go (hall s6 H6 C6 cl6 fp6).2.1 g4.sub t3.se fun Hs4 H4 g5 => ?_
    have g25 := g24.trans g5
    have hDl : ∀ {Hs9 H9 : Hp}, Gr Hs' H' Hs9 H9 → Hs9 Dl = none ∧ H9 Dl = some (.lst acc) := fun {Hs9 H9} g => ⟨g.loc Dl (by rw [h1]; intro z; cases z) h2, g.ext _ _ h1⟩
    cases p with
    | false =>
      rw [if_neg Bool.false_ne_true]
      obtain ⟨d1, d2⟩ := hDl ((g3.trans g4).trans g5)
      refine ⟨Hs4, acc, g25, d2, d1, ?_⟩
      rw [filterMap_take_succ ha, hp0 rfl, List.append_nil]
      exact r.mono ((g3.trans g4).trans g5).sh
    | true =>
      rw [if_pos rfl]
      intro s7 H7 C7 cl7 fp7
      refine (hall s7 H7 C7 cl7 fp7).2.2 rfl σ3 Hs4 H4 _ g5.sub (t3.se.mono g5.sh) fun v Hs5 H5' g6 r5 => ?_
      obtain ⟨d1, d2⟩ := hDl (((g3.trans g4).trans g5).trans g6)
      have g26 := g25.trans g6
      refine ⟨acc, d2, sz_lt (by omega), Hs5, acc ++ [v], ⟨g26.sh, fun a u e => ?_, fun a u e => ?_, g26.loc⟩, upd_same, d1, ?_⟩
      · rw [upd_ne (ne_of_none e hD)]; exact g26.ext a u e
      · rw [upd_ne (ne_of_none e d1)]; exact g26.sub a u e
      · rw [filterMap_take_succ ha, hp1 rfl]
        exact (r.mono (((g3.trans g4).trans g5).trans g6).sh).append (.cons r5 .nil)
  · have e : i = as.length := by omega
    subst e
    refine .inl ⟨by rw [List.length_map] at f2; exact f2, k Dl acc Hs' H' (g1.trans g2) (g1.ext.free hD) h2 h1 ?_⟩
    rw [List.take_length] at r
    exact r
theorem pn_lcT {α : Type} {emb : α → D} (as : List α) (f : α → Option D) (hi : PDIt X γ tg iter (as.map emb)) (ht : Turns X γ scope own tg elt ifs emb as f) (hN : X.N.Nodup) (ok : BlkOk X.N X.env.scope scope own) (hz : as.length ≤ 50000) (hl : ifs.length ≤ 1 := by decide) (hc : X.calm = true := by rfl)
    (hs : ∀ x, foldedSetIterable iter X.env x = pure x := by intro _; rfl) : PN X γ (.ListComp elt [⟨tg, iter, ifs, 0⟩] scope pos) (as.filterMap f) := fun σ Hs H Q s E k => by
  obtain ⟨wi, hpi, hfe⟩ := hi.ex
  exact wE_of (pe_lc hc hN hpi ok (fun s5 H5 C5 cl5 fp5 => ⟨fun pins s σ H v u Q I r h => h s5 H5 C5 cl5 fp5 pins s u I r⟩) (fun s5 H5 C5 cl5 fp5 => ⟨fun pins s σ H Q I h => (tTs_ok hl).run pins s σ H Q I (h s5 H5 C5 cl5 fp5)⟩) (fun s5 H5 C5 cl5 fp5 => ⟨fun pins s σ H Q I h => h s5 H5 C5 cl5 fp5 pins s I⟩) hs)
    (lc_go hfe ht hz s E k)
theorem pn_lc {α : Type} {emb : α → D} (as : List α) (f : α → Option D) (hi : PDI X γ iter (as.map emb)) (ht : Turns X γ scope own tg elt ifs emb as f) (hN : X.N.Nodup) (ok : BlkOk X.N X.env.scope scope own) (hz : as.length ≤ 50000) (hl : ifs.length ≤ 1 := by decide) (hc : X.calm = true := by rfl)
    (hs : ∀ x, foldedSetIterable iter X.env x = pure x := by intro _; rfl) : PN X γ (.ListComp elt [⟨tg, iter, ifs, 0⟩] scope pos) (as.filterMap f) := pn_lcT as f (hi.at tg) ht hN ok hz hl hc hs
/-- y = [elt for ..] on one line -/
theorem s1_asgLc {α : Type} {emb : α → D} {y : Str} {py spos : Pos} (i : Nat) (as : List α) (f : α → Option D) (hi : PDI X γ iter (as.map emb)) (ht : Turns X γ scope own tg elt ifs emb as f) (k : R.nx (γ.set i (.ow (as.filterMap f)))) (hN : X.N.Nodup) (ok : BlkOk X.N X.env.scope scope own) (hz : as.length ≤ 50000)
    (hsw : swapsWith (.ListComp elt [⟨tg, iter, ifs, 0⟩] scope pos) (some (.Name y py)) spos.line X.env = pure true) (hy : X.N[i]? = some y := by rfl) (hyl : X.env.scope.names.lookup y = some .local := by rfl) (hl : ifs.length ≤ 1 := by decide) (hc : X.calm = true := by rfl)
    (hs : ∀ x, foldedSetIterable iter X.env x = pure x := by intro _; rfl) : S1 X (.Assign [.Name y py] (.ListComp elt [⟨tg, iter, ifs, 0⟩] scope pos) spos) γ R := fun Hs0 H0 Hr E F σ Hs H t => by
  obtain ⟨wi, hpi, hfe⟩ := hi.ex
  refine wS_of (ps_setLc (wi := wi) (g := cG X scope tg) (tt := cT X scope ifs) (te := cE X scope elt) hc hN hy hyl hsw (hpi tg) ok (fun s5 H5 C5 cl5 fp5 => ⟨fun pins s σ H v u Q I r h => h s5 H5 C5 cl5 fp5 pins s u I r⟩) (fun s5 H5 C5 cl5 fp5 => ⟨fun pins s σ H Q I h => (tTs_ok hl).run pins s σ H Q I (h s5 H5 C5 cl5 fp5)⟩) (fun s5 H5 C5 cl5 fp5 => ⟨fun pins s σ H Q I h => h s5 H5 C5 cl5 fp5 pins s I⟩) hs) ?_
  exact lc_go hfe ht hz t.sub t.se fun l vs Hs' H' g h1 h2 h3 r => F.nx _ _ Hs' H' (t.setO g h1 h2 h3 (repO_l r)) k
end
end Pd
end

section
set_option autoImplicit false
set_option Elab.async false
set_option linter.all false
set_option maxRecDepth 100000
set_option maxHeartbeats 4000000
namespace Pd
open PySem PySem.Spec PyProof.Rows L2
section
variable {X : Cx} {γ : List Sl} {a b c e : Expr} {es : List Expr} {x y z d : D} {ds zs : List D} {pos pn : Pos} {i j : Int} {p q : Bool}
/-! ### is None, is True, is False -/
theorem is_bl {M : Model} {A : Around} {E : Value → Shared → Prop} {s : Shared} {x : V} {v : Value} {q : Bool} {Q : Value → Shared → Prop} (r : RelV x v) (h : Q (.bool (decide (x = .bl q))) s) : wpAny M A (compareOp .Is v (.bool q)) Q E s := by
  cases x with
  | non => cases (show v = Value.none from r); exact wpAny_is_plain rfl h
  | bl b =>
    cases (show v = Value.bool b from r)
    refine wpAny_is_plain rfl ?_
    have e : (Value.bool b == Value.bool q) = decide (V.bl b = V.bl q) := by cases b <;> cases q <;> rfl
    rw [e]; exact h
  | int i => obtain ⟨t, rfl⟩ := (show ∃ t, v = Value.int i t from r); exact wpAny_is_plain rfl h
  | str i => obtain ⟨t, rfl⟩ := (show ∃ t, v = Value.str i t from r); exact wpAny_is_plain rfl h
  | byt i => obtain ⟨t, rfl⟩ := (show ∃ t, v = Value.bytes i t from r); exact wpAny_is_plain rfl h
  | flt i => obtain ⟨t, rfl⟩ := (show ∃ t, v = Value.float i t from r); exact wpAny_is_plain rfl h
  | ref i => cases (show v = Value.ref i from r); exact wpAny_is_plain rfl h
  | ty i => cases (show v = Value.type i from r); exact wpAny_is_plain rfl h
def rIsBl (q : Bool) : R2 := fun x y H Q => y = .bl q ∧ Q (.bl (decide (x = .bl q))) H
theorem op_isBq (q : Bool) : OpR X (compareOp .Is) (rIsBl q) := by
  intro pins s σ H x y v u Q I r1 r2 ⟨e, h⟩
  subst e
  cases (show u = Value.bool q from r2)
  exact is_bl r1 ⟨.bl _, H, I, rfl, h⟩
def D.isBl (q : Bool) : D → Bool
  | .bl b => b == q
  | _ => false
def D.isNon : D → Bool
  | .non => true
  | _ => false
theorem Rep.bl_iff {K : PySem.W.Frag} {H : Hp} {v : V} {d : D} (r : Rep K H v d) : decide (v = .bl q) = d.isBl q := by
  cases r with
  | bl b => cases b <;> cases q <;> rfl
  | _ => rfl
theorem Rep.non_iff {K : PySem.W.Frag} {H : Hp} {v : V} {d : D} (r : Rep K H v d) : decide (v = .non) = d.isNon := by
  cases r <;> rfl
theorem pd_isBl {k : Nat} {p2 : Pos} (h : PD X γ e x) : PD X γ (.Compare e [.Is] [.Constant (.bool q) k p2] pos) (.bl (x.isBl q)) :=
  pd_cmp (op_isBq q) (fun Hs H v u Q s r1 r2 kk => by
    cases r2
    exact ⟨rfl, kk _ Hs H (Gr.refl s) (by rw [r1.bl_iff]; exact .bl _)⟩) h pd_bl
theorem pt_isBl {k : Nat} {p2 : Pos} (h : PD X γ e x) : PDT X γ (.Compare e [.Is] [.Constant (.bool q) k p2] pos) (x.isBl q) :=
  pt_cmp (op_isBq q) (fun Hs H v u Q s r1 r2 kk => by
    cases r2
    exact ⟨rfl, kk _ Hs H (Gr.refl s) (by rw [r1.bl_iff]; exact .bl _)⟩) h pd_bl
theorem pd_isN {k : Nat} {p2 : Pos} (h : PD X γ e x) : PD X γ (.Compare e [.Is] [.Constant .none k p2] pos) (.bl x.isNon) :=
  pd_cmp op_isN (fun Hs H v u Q s r1 r2 kk => by
    cases r2
    exact ⟨rfl, kk _ Hs H (Gr.refl s) (by rw [r1.non_iff]; exact .bl _)⟩) h pd_non
theorem pt_isN {k : Nat} {p2 : Pos} (h : PD X γ e x) : PDT X γ (.Compare e [.Is] [.Constant .none k p2] pos) x.isNon :=
  pt_cmp op_isN (fun Hs H v u Q s r1 r2 kk => by
    cases r2
    exact ⟨rfl, kk _ Hs H (Gr.refl s) (by rw [r1.non_iff]; exact .bl _)⟩) h pd_non
theorem pt_notN {k : Nat} {p2 : Pos} (h : PD X γ e x) : PDT X γ (.Compare e [.IsNot] [.Constant .none k p2] pos) (!x.isNon) :=
  pt_cmp op_notN (fun Hs H v u Q s r1 r2 kk => by
    cases r2
    exact ⟨rfl, kk _ Hs H (Gr.refl s) (by rw [r1.non_iff]; exact .bl _)⟩) h pd_non
/-! ### isinstance with a built-in type -/
def D.tyN : D → Option String
  | .non => some "NoneType" | .bl _ => some "bool" | .int _ => some "int" | .str _ => some "str" | .lst _ => some "list" | .tup _ => some "tuple" | .dK _ => some "dict" | .dT _ => some "dict"
  | _ => none
theorem Rep.tyX {K : PySem.W.Frag} {H Hs : Hp} {v : V} {d : D} {t : String} (s : Same Hs H) (r : Rep K Hs v d) (h : d.tyN = some t) : TyX K H v (.type t) := by
  cases r with
  | non => cases h; exact .base .non
  | bl b => cases h; exact .base (.bl b)
  | int i => cases h; exact .base (.int i)
  | str x => cases h; exact .base (.str x)
  | ty n => cases h
  | adr a => cases h
  | rol _ _ => cases h
  | obj _ _ => cases h
  | exc _ _ => cases h
  | ev0 _ => cases h
  | ev1 _ _ _ => cases h
  | lst h1 _ => cases h; exact .base (.lst (s _ _ h1))
  | tup h1 _ =>
    cases h
    rcases h1 with (h1 | ⟨o, h1⟩) | ⟨o, its, n, hk, hc, _⟩
    · exact .base (.tup (s _ _ h1))
    · exact .fTuple (s _ _ h1)
    · exact .kTuple hk hc
  | dK h1 _ => cases h; exact .base (.dK (s _ _ h1))
  | dT h1 _ => cases h; exact .base (.dT (s _ _ h1))
theorem pd_ty {T : String} {n : Str} (hm : X.mg n = none) (hv : bootBuiltins n = some (.type T)) (hg : Gl X n := by rfl) (hn : n ≠ "__name__" := by decide) (hd : (n == ("__debug__" : Str)) = false := by decide) : PD X γ (.Name n pos) (.ty T) :=
  fun σ Hs H Q s E k => wE_of (pe_bltn hg hm hv (v := .ty T) rfl hn hd) (k _ Hs H (Gr.refl s) (.ty T))
theorem rc_isi {K : PySem.W.Frag} {t T : String} (hx : x.tyN = some t) (hk : kitB t T = some p) : RCD K (rIsi K) [x, .ty T] (.bl p) := fun Hs H vs Q s rs k => by
  cases rs with
  | cons r1 rn =>
    cases rn with
    | cons r2 rn =>
      cases rn
      cases r2
      exact ⟨_, _, _, _, p, rfl, .ty T, r1.tyX s hx, kit_ty hk, k _ Hs H (Gr.refl s) (.bl p)⟩
theorem pd_isi {t T : String} {n : Str} {p2 : Pos} (h : PD X γ e x) (hx : x.tyN = some t) (hk : kitB t T = some p) (hm : X.mg "isinstance" = none) (hmT : X.mg n = none) (hv : bootBuiltins n = some (.type T)) (hg : Gl X "isinstance" := by rfl) (hgT : Gl X n := by rfl) (hn : n ≠ "__name__" := by decide) (hd : (n == ("__debug__" : Str)) = false := by decide)
    (he : starEach [e, .Name n p2] X.env = (false, eval e X.env) :: starEach [.Name n p2] X.env := by rfl) (he2 : starEach [.Name n p2] X.env = (false, eval (.Name n p2) X.env) :: starEach [] X.env := by rfl) (hpl : (backTo pos (starEach [.Name n p2] X.env)).any (·.1) = false := by rfl) :
    PD X γ (.Call (.Name "isinstance" pn) [e, .Name n p2] [] pos) (.bl p) :=
  pd_cb call_isi (rc_isi hx hk) hg hm (by decide +kernel) (pa_cons h (pa_cons (pd_ty hmT hv hgT hn hd) pa_nil he2) he) (by decide) (by decide) he hpl
/-! ### texts -/
theorem rd_eqS {K : PySem.W.Frag} {u v : Str} : RVD K rEq (.str u) (.str v) (.bl (decide (u = v))) := fun Hs H _ _ Q s r1 r2 k => by
  cases r1; cases r2
  refine ⟨rfl, k _ _ _ (Gr.refl s) ?_⟩
  have : decide (V.str u = V.str v) = decide (u = v) := by simp
  rw [this]
  exact .bl _
theorem pd_eqS {u v : Str} (ha : PD X γ a (.str u)) (hb : PD X γ b (.str v)) : PD X γ (.Compare a [.Eq] [b] pos) (.bl (decide (u = v))) := pd_cmp op_eq rd_eqS ha hb
theorem pt_eqS {u v : Str} (ha : PD X γ a (.str u)) (hb : PD X γ b (.str v)) : PDT X γ (.Compare a [.Eq] [b] pos) (decide (u = v)) := pt_cmp op_eq rd_eqS ha hb
theorem rd_neB {K : PySem.W.Frag} : RVD K rNe (.bl p) (.bl q) (.bl (!decide (p = q))) := fun Hs H _ _ Q s r1 r2 k => by
  cases r1; cases r2
  refine ⟨rfl, k _ _ _ (Gr.refl s) ?_⟩
  have : decide (V.bl p = V.bl q) = decide (p = q) := by simp
  rw [this]
  exact .bl _
theorem pt_neB (ha : PD X γ a (.bl p)) (hb : PD X γ b (.bl q)) : PDT X γ (.Compare a [.NotEq] [b] pos) (!decide (p = q)) := pt_cmp op_ne rd_neB ha hb
end
end Pd
end

section
set_option autoImplicit false
set_option Elab.async false
set_option linter.all false
set_option maxRecDepth 100000
set_option maxHeartbeats 4000000
namespace Pd
open PySem PySem.Spec PyProof.Rows L2

/-! ### objects -/
section
variable {X : Cx} {γ : List Sl} {R : Rs} {e o a b : Expr} {es : List Expr} {x y z d : D} {ds : List D} {pos pn apos : Pos} {C : Addr} {fs : List (Str × D)} {f m : Str} {k : Nat}
theorem pd_fld (h : PD X γ e (.obj C fs)) (hl : fs.lookup f = some d) (cl : Cls X.K C) (na : NoAttr X.K C f) (hb : attributeBase e f X.env (eval e X.env) = eval e X.env := by rfl) : PD X γ (.Attribute e f pos) d := fun σ Hs H Q s E kk =>
  wE_of (pe_fld (wE_ok e) hb) (h σ Hs H _ s E fun v Hs' H' g r => by
    cases r with
    | obj h1 r1 =>
      obtain ⟨u, hu, ru⟩ := r1.get hl
      exact ⟨_, _, _, _, u, rfl, g.sub _ _ h1, cl, na, hu, kk u Hs' H' g ru⟩)
/-- o.f = e, o one's own, e shared; e a scalar over what is one's own -/
theorem s1_fldO {n : Str} {p : Addr} {p' p2 : Pos} (i : Nat) (q : γ[i]? = some (.ob p C fs)) (h : PD X γ e d) (k : R.nx (γ.set i (.ob p C (putFD f d fs)))) (cl : Cls X.K C) (na : NoAttr X.K C f) (hz : fs.length < 1000) (hN : X.N[i]? = some n := by rfl)
    (hv : Vis X.env.scope n := by first | exact Or.inl rfl | exact Or.inr (Or.inl rfl) | exact Or.inr (Or.inr rfl)) (hd : (n == ("__debug__" : Str)) = false := by decide) (hcd : (n == ("__classdict__" : Str)) = false := by decide)
    (hs : swapsWith e (some (.Attribute (.Name n p') f p2)) pos.line X.env = pure false := by rfl) : S1 X (.Assign [.Attribute (.Name n p') f p2] e pos) γ R := fun Hs0 H0 Hr E F σ Hs H t => by
  obtain ⟨l, ob, a, bb, c, dd, rfl, dx, vs, rfl, r⟩ := t.own i _ q rfl
  refine wS_of (ps_fld (pe_var hN hv hd hcd) (wE_ok e) hs) (h σ Hs H _ t.sub t.se fun v Hs' H' g r' => ?_)
  refine ⟨_, a, _, C, dx, vs, rfl, g.ext _ _ bb, cl, na, by rw [r.length]; exact hz, ?_⟩
  exact F.nx _ _ Hs' _ ((t.go g).upd q rfl a (repO_o ((r.mono g.sh).put r'))) k
theorem s1_fldOV {n : Str} {p : Addr} {p' p2 : Pos} (i : Nat) (q : γ[i]? = some (.ob p C fs)) (h : PD X (γ.map Sl.vw) e d) (hsc : d.sc = true) (k : R.nx (γ.set i (.ob p C (putFD f d fs)))) (cl : Cls X.K C) (na : NoAttr X.K C f) (hz : fs.length < 1000) (hN : X.N[i]? = some n := by rfl)
    (hv : Vis X.env.scope n := by first | exact Or.inl rfl | exact Or.inr (Or.inl rfl) | exact Or.inr (Or.inr rfl)) (hd : (n == ("__debug__" : Str)) = false := by decide) (hcd : (n == ("__classdict__" : Str)) = false := by decide)
    (hs : swapsWith e (some (.Attribute (.Name n p') f p2)) pos.line X.env = pure false := by rfl) : S1 X (.Assign [.Attribute (.Name n p') f p2] e pos) γ R := fun Hs0 H0 Hr E F σ Hs H t => by
  obtain ⟨l, ob, a, bb, c, dd, rfl, dx, vs, rfl, r⟩ := t.own i _ q rfl
  refine wS_of (ps_fld (pe_var hN hv hd hcd) (wE_ok e) hs) (h σ H H _ (Same.refl _) t.view fun v Hs' H' g r' => ?_)
  refine ⟨_, a, _, C, dx, vs, rfl, g.ext _ _ bb, cl, na, by rw [r.length]; exact hz, ?_⟩
  exact F.nx _ _ Hs _ ((t.scal g).upd q rfl a (repO_o (r.put (r'.sc hsc)))) k
/-- a constant of the class, read off the class -/
theorem pd_cval {n : Str} {mc : Value} {v : V} {u : Value} {pc : Pos} (c : ClX.CRead X.K C mc) (cv : ClX.CVal X.K C mc f v u) (h : PD X γ (.Name n pc) (.adr C)) (hr : ∀ H, Rep X.K H v d) (hb : attributeBase (.Name n pc) f X.env (eval (.Name n pc) X.env) = eval (.Name n pc) X.env := by rfl) :
    PD X γ (.Attribute (.Name n pc) f pos) d := fun σ Hs H Q s E kk =>
  wE_of (ClX.pe_cval (wE_ok _) hb) (h σ Hs H _ s E fun w Hs' H' g r => by
    cases r
    exact ⟨_, _, _, _, rfl, c, cv, kk v Hs' H' g (hr _)⟩)
end

/-! ### objects made -/
/-- __init__ from data to fields: Hs, H1 stand ahead of the object's making -/
def spI (K : PySem.W.Frag) (C : Addr) (G : List D → List (Str × D) → Prop) : Sp := fun vs H Q _ => ∃ Hs H1 p dx ws ds fs, vs = .ref p :: ws ∧ H = upd (upd H1 dx (.own p)) p (.ins C dx []) ∧ H1 p = none ∧ H1 dx = none ∧ dx ≠ p ∧ Same Hs H1 ∧ Reps K Hs ws ds ∧ G ds fs ∧
  ∀ Hs' H' dx' us, Gr Hs H1 Hs' H' → Hs' p = none → H' p = some (.ins C dx' us) → RepF K Hs' us fs → Q .non H'
/-- a class of the module's, called by its name -/
structure DC (P : Program) (w : World) (K : PySem.W.Frag) (mg : Str → Option Value) (base : Heap) (k : Nat) (x : Str) (C : Addr) (G : List D → List (Str × D) → Prop) : Prop where
  ex : ∃ f fd ps, FnOk P w K mg base CX0 k f fd ps (spI K C G) ∧ mg x = some (.ref C) ∧ Mk K C f ∧ Binds K fd ps []
section
variable {X : Cx} {γ : List Sl} {R : Rs} {e : Expr} {es : List Expr} {d : D} {ds : List D} {pos pn : Pos} {k : Nat} {n : Str} {C : Addr} {fs : List (Str × D)}
theorem pd_make {G : List D → List (Str × D) → Prop} (F : DC X.prog X.w X.K X.mg X.base k n C G) (hr : Room (k + 1) X.A) (ha : PDA X γ (e :: es) ds) (hG : G ds fs) (hg : Gl X n := by rfl) (hdb : (n == ("__debug__" : Str)) = false := by decide)
    (he : starEach (e :: es) X.env = (false, eval e X.env) :: starEach es X.env := by rfl) (hpl : (backTo pos (starEach es X.env)).any (·.1) = false := by rfl) : PD X γ (.Call (.Name n pn) (e :: es) [] pos) (.obj C fs) := fun σ Hs H Q s E kk => by
  obtain ⟨f, fd, ps, a, b, c, dd⟩ := F.ex
  refine wE_of (pe_make c a hr hg b dd .nil pass0 (wA_ok _) hdb he hpl) (ha σ Hs H _ s E fun vs Hs' H' g r => ?_)
  intro p dx np ndx nex
  rw [List.append_nil]
  refine ⟨Hs', H', p, dx, vs, ds, fs, rfl, rfl, np, ndx, nex, g.sub, r, hG, fun Hs2 H2 dx' us g2 h1 h2 r2 => ⟨rfl, ?_⟩⟩
  have s1 : Same Hs2 (upd Hs2 p (.ins C dx' us)) := fun x u e => by rw [upd_ne (ne_of_none e h1)]; exact e
  refine kk _ (upd Hs2 p (.ins C dx' us)) H2 ⟨g.sh.trans (g2.sh.trans s1), g.ext.trans g2.ext, fun x u e => ?_, fun x q1 q2 => ?_⟩ (.obj upd_same (r2.mono s1))
  · by_cases q : x = p
    · subst q; rw [upd_same] at e; rw [← e]; exact h2
    · rw [upd_ne q] at e; exact g2.sub x u e
  · have q1' : H' x ≠ none := fun z => by
      cases hx : H x with
      | none => exact q1 hx
      | some o => rw [g.ext x o hx] at z; cases z
    have : x ≠ p := fun q => q1' (by rw [q]; exact np)
    rw [upd_ne this]
    exact g2.loc x q1' (g.loc x q1 q2)
end
/-- the start of an __init__'s body -/
theorem st_init {K : PySem.W.Frag} {Hs H1 : Hp} {N : List Str} {p dx C : Addr} {ws : List V} {ds : List D} (s : Same Hs H1) (np : H1 p = none) (ndx : H1 dx = none) (nex : dx ≠ p) (r : Reps K Hs ws ds) :
    ST K Hs H1 Hs Hs (upd (upd H1 dx (.own p)) p (.ins C dx [])) (L2.start N (.ref p :: ws)) (Sl.ob p C [] :: (ds.map Sl.sh ++ List.replicate (N.length - (ds.length + 1)) .no)) := by
  have e1 : Same H1 (upd (upd H1 dx (.own p)) p (.ins C dx [])) := fun x u e => by rw [upd_ne (ne_of_none e np), upd_ne (ne_of_none e ndx)]; exact e
  have base := st_start (N := N.tail) s r
  have hl := r.length
  have get : ∀ (i : Nat), (L2.start N (V.ref p :: ws))[i + 1]? = (ws.map some ++ List.replicate (N.length - (ws.length + 1)) none)[i]? := fun i => rfl
  refine ⟨⟨Same.refl _, e1, s.trans e1, fun _ _ h => h⟩, Same.refl _, ?_, fun i d q => ?_, fun i u q w => ?_, fun i j u u' l hij q q' w w' => ?_⟩
  · unfold L2.start; simp [hl]
  · cases i with
    | zero => cases q
    | succ i =>
      have q : (ds.map Sl.sh ++ List.replicate (N.length - (ds.length + 1)) .no)[i]? = some (Sl.sh d) := q
      rw [get]
      by_cases h : i < ds.length
      · rw [List.getElem?_append_left (by simpa using h), List.getElem?_map] at q
        cases e : ds[i]? with
        | none => rw [e] at q; cases q
        | some d' =>
          rw [e] at q
          cases q
          obtain ⟨v, hv, rv⟩ := r.get e
          refine ⟨v, ?_, rv⟩
          rw [List.getElem?_append_left (by rw [List.length_map, hl]; exact h), List.getElem?_map, hv] <;> rfl
      · rw [List.getElem?_append_right (by simpa using Nat.le_of_not_lt h), List.getElem?_replicate] at q
        split at q <;> cases q
  · cases i with
    | zero =>
      cases q
      exact ⟨p, _, rfl, upd_same, s.free np, np, rfl, dx, [], rfl, .nil⟩
    | succ i =>
      have q : (ds.map Sl.sh ++ List.replicate (N.length - (ds.length + 1)) .no)[i]? = some u := q
      by_cases h : i < ds.length
      · rw [List.getElem?_append_left (by simpa using h), List.getElem?_map] at q
        cases e : ds[i]? with
        | none => rw [e] at q; cases q
        | some d' => rw [e] at q; cases q; cases w
      · rw [List.getElem?_append_right (by simpa using Nat.le_of_not_lt h), List.getElem?_replicate] at q
        split at q <;> cases q
        cases w
  · have only : ∀ (i : Nat) (u : Sl), (Sl.ob p C [] :: (ds.map Sl.sh ++ List.replicate (N.length - (ds.length + 1)) Sl.no))[i]? = some u → u.isO = true → i = 0 := fun i u q w => by
      cases i with
      | zero => rfl
      | succ i =>
        have q : (ds.map Sl.sh ++ List.replicate (N.length - (ds.length + 1)) .no)[i]? = some u := q
        by_cases h : i < ds.length
        · rw [List.getElem?_append_left (by simpa using h), List.getElem?_map] at q
          cases e : ds[i]? with
          | none => rw [e] at q; cases q
          | some d' => rw [e] at q; cases q; cases w
        · rw [List.getElem?_append_right (by simpa using Nat.le_of_not_lt h), List.getElem?_replicate] at q
          split at q <;> cases q
          cases w
    exact absurd ((only i u q w).trans (only j u' q' w').symm) hij
/-- an __init__ that raises nothing -/
theorem fnI {P : Program} {w : World} {K : PySem.W.Frag} {mg : Str → Option Value} {base : Heap} {x qual : Str} {params : Arguments} {body : List Stmt} {scope : Scope} {f C : Addr} {fd : FuncData} {N ps : List Str} {k : Nat} {dvs : List V} {kws : List (Str × V)} {G : List D → List (Str × D) → Prop}
    (F : FunD K x qual params body scope dvs kws f fd) (S : FnScope N ps scope) (len : ∀ ds fs, G ds fs → ds.length + 1 = ps.length)
    (hbody : ∀ cdv A outer s H E, Room k (BX P w K mg base N qual scope f cdv A outer s H E).A → ∀ p ds fs, G ds fs → SD (BX P w K mg base N qual scope f cdv A outer s H E) body (Sl.ob p C [] :: (ds.map Sl.sh ++ List.replicate (N.length - (ds.length + 1)) .no)) { nx := fun γ => γ[0]? = some (.ob p C fs), rt := fun _ => False }) :
    FnOk P w K mg base CX0 (k + 1) f fd ps (spI K C G) := by
  refine F.ok S (fun vs H Q E h => ?_) (fun cdv A outer s H vs Q E hr h => ?_)
  · obtain ⟨Hs, H1, p, dx, ws, ds, fs, rfl, _, _, _, _, _, r, hG, _⟩ := h
    rw [List.length_cons, r.length]
    exact len ds fs hG
  · obtain ⟨Hs, H1, p, dx, ws, ds, fs, rfl, rfl, np, ndx, nex, sm, r, hG, kk⟩ := h
    refine ⟨_, PSs.nox (wSs_ok _), ?_⟩
    refine hbody cdv A outer s _ E hr p ds fs hG Hs H1 Hs { nx := fun _ H' => Q .non H', rt := Q } ⟨fun γ σ Hs' H' t q => ?_, fun _ _ _ _ _ q => q.elim, fun _ _ _ _ _ q => q.elim, fun d' v Hs' H' g r' q => q.elim, fun es l us Hs' H' g h1 h2 h3 r' q => q.elim, .inl fun _ _ _ q => q⟩ _ Hs _ (st_init sm np ndx nex r)
    obtain ⟨l, o, a, b, c, d0, rfl, dx', us, rfl, r'⟩ := t.own 0 _ q rfl
    exact kk Hs' H' dx' us t.gr c b r'
end Pd
end

section
set_option autoImplicit false
set_option Elab.async false
set_option linter.all false
set_option maxRecDepth 100000
set_option maxHeartbeats 4000000
namespace Pd
open PySem PySem.Spec PyProof.Rows L2

/-! ### errors of one field -/
/-- __init__(self, x): self.f = x -/
def spE1 (K : PySem.W.Frag) (C : Addr) (f : Str) : Sp := fun vs H Q _ => ∃ (a : Addr) (v : V), vs = [.ref a, v] ∧ H a = some (exo a C none) ∧ ∀ dx, H dx = none → dx ≠ a → Q .non (upd (upd H dx (exd dx [(f, v)])) a (exo a C (some dx)))
/-- an error class of the module's, its __init__ of one field -/
structure DE (P : Program) (w : World) (K : PySem.W.Frag) (mg : Str → Option Value) (base : Heap) (x : Str) (C : Addr) (f : Str) : Prop where
  T : OexC K C
  m : mg x = some (.ref C)
  ex : ∃ fI fd ps, PySem.W.findIn K (.ref C) "__init__" = some (some (.ref fI)) ∧ PySem.W.typeIn K (.ref fI) = some (.type "function") ∧ FnOk P w K mg base CX0 1 fI fd ps (spE1 K C f) ∧ Binds K fd ps []
theorem okE {P : Program} {w : World} {K : PySem.W.Frag} {mg : Str → Option Value} {base : Heap} {qual : Str} {params : Arguments} {scope : Scope} {f C : Addr} {fd : FuncData} {s x fl : Str} {p1 p2 p3 p4 : Pos}
    (F : FunD K "__init__" qual params [.Assign [.Attribute (.Name s p1) fl p2] (.Name x p3) p4] scope [] [] f fd) (S : FnScope [s, x] [s, x] scope) (T : OexC K C) (hno : PySem.W.findIn K (.ref C) fl = some none) (v0 : Vis scope s) (v1 : Vis scope x)
    (d0 : (s == ("__debug__" : Str)) = false) (d1 : (x == ("__debug__" : Str)) = false) (c0 : (s == ("__classdict__" : Str)) = false) (c1 : (x == ("__classdict__" : Str)) = false) : FnOk P w K mg base CX0 1 f fd [s, x] (spE1 K C fl) := by
  refine F.ok S (fun vs H Q E h => ?_) (fun cdv A outer st H vs Q E hr h => ?_)
  · obtain ⟨a, v, rfl, _⟩ := h
    rfl
  · obtain ⟨a, v, rfl, ha, k⟩ := h
    refine ⟨_, PSs.nox (pss_one (ps_ost (pe_var (i := 0) rfl v0 d0 c0) (pe_var (i := 1) rfl v1 d1 c1))), ?_⟩
    exact ⟨v, rfl, _, rfl, a, C, rfl, T, hno, .inl ⟨ha, k⟩⟩
section
variable {X : Cx} {γ : List Sl} {R : Rs} {e o a b : Expr} {es : List Expr} {x y z d : D} {ds : List D} {pos pn apos : Pos} {C : Addr} {fs : List (Str × D)} {f m n : Str} {k : Nat}
theorem s1_raise (T : DE X.prog X.w X.K X.mg X.base n C f) (hr : Room 2 X.A) (h : PD X γ e d) (kx : R.xs C [(f, d)] γ) (hc : X.calm = true := by rfl) (hg : Gl X n := by rfl) (hdb : (n == ("__debug__" : Str)) = false := by decide) (he : starEach [e] X.env = (false, eval e X.env) :: starEach [] X.env := by rfl)
    (hpl : (backTo pn (starEach [] X.env)).any (·.1) = false := by rfl) : S1 X (.Raise (some (.Call (.Name n apos) [e] [] pn)) none pos) γ R := fun Hs0 H0 Hr E F σ Hs H t => by
  obtain ⟨fI, fd, ps, i1, i2, ok, bd⟩ := T.ex
  rcases F.xs with no | ⟨W, tk, hW⟩
  · exact absurd kx (no _ _ _)
  refine wS_of (ps_raise hc tk (pmk_oex T.T i1 i2 ok hr bd .nil (fun _ _ _ _ _ _ _ z => z.elim) hg T.m (wA_ok [e]) hdb he hpl)) ?_
  refine pa_cons h pa_nil he σ Hs H _ t.sub t.se fun vs Hs' H' g r => ?_
  cases r with
  | @cons v _ _ _ r1 rn =>
    cases rn
    refine ⟨by simp, fun a na => ?_⟩
    refine ⟨a, v, rfl, upd_same, fun dx ndx nex => ⟨rfl, dx, [(f, v)], upd_same, ?_, ?_, ?_⟩⟩
    · rw [upd_ne nex, upd_same]
    · rw [upd_ne nex] at ndx; exact ndx
    · rw [upd_ne nex] at ndx
      have e1 : upd (del (upd (upd (upd H' a (exo a C none)) dx (exd dx [(f, v)])) a (exo a C (some dx))) a) dx (.xd [(f, v)]) = upd H' dx (.xd [(f, v)]) := by
        funext b
        by_cases hb : b = dx
        · rw [hb, upd_same, upd_same]
        · rw [upd_ne hb, upd_ne hb]
          by_cases ha : b = a
          · rw [ha, del_same, na]
          · rw [del_ne ha, upd_ne ha, upd_ne hb, upd_ne ha]
      show W (.ref C) (some dx) σ _
      rw [e1]
      have gn := Gr.new g.sub ndx (o := .xd [(f, v)])
      exact hW C [(f, d)] dx [(f, v)] γ σ _ _ (t.go (g.trans gn)) upd_same (.cons (r1.mono gn.sh) .nil) kx
end

/-! ### expressions that raise -/
def PDX (X : Cx) (γ : List Sl) (e : Expr) (C : Addr) (fs : List (Str × D)) : Prop := ∀ (W : WX), Takes X W → ∀ (σ : L2.St) (Hs H : Hp) (Q : VK), Same Hs H → SE X.K Hs σ γ →
  (∀ dd us Hs' H', Gr Hs H Hs' H' → Hs' dd = some (.xd us) → RepF X.K Hs' us fs → W (.ref C) (some dd) σ H') → wE X e σ H Q
def PAX (X : Cx) (γ : List Sl) (es : List Expr) (C : Addr) (fs : List (Str × D)) : Prop := ∀ (W : WX), Takes X W → ∀ (σ : L2.St) (Hs H : Hp) (Q : List V → Hp → Prop), Same Hs H → SE X.K Hs σ γ →
  (∀ dd us Hs' H', Gr Hs H Hs' H' → Hs' dd = some (.xd us) → RepF X.K Hs' us fs → W (.ref C) (some dd) σ H') → wA X es σ H Q
/-- a def that raises -/
def spX (K : PySem.W.Frag) (G : List D → Addr → List (Str × D) → Prop) : Sp := fun vs H _ E => ∃ Hs ds C fs, Same Hs H ∧ Reps K Hs vs ds ∧ G ds C fs ∧ ∀ dd us Hs' H', Gr Hs H Hs' H' → Hs' dd = some (.xd us) → RepF K Hs' us fs → E (.ref C) (some dd) H'
/-- an __init__ that raises -/
def spIX (K : PySem.W.Frag) (C : Addr) (G : List D → Addr → List (Str × D) → Prop) : Sp := fun vs H _ E => ∃ Hs H1 p dx ws ds CE fs, vs = .ref p :: ws ∧ H = upd (upd H1 dx (.own p)) p (.ins C dx []) ∧ H1 p = none ∧ H1 dx = none ∧ dx ≠ p ∧ Same Hs H1 ∧ Reps K Hs ws ds ∧ G ds CE fs ∧
  ∀ dd us Hs' H', Gr Hs H1 Hs' H' → Hs' dd = some (.xd us) → RepF K Hs' us fs → E (.ref CE) (some dd) H'
/-- the context of a def that may raise -/
abbrev RX (P : Program) (w : World) (K : PySem.W.Frag) (mg : Str → Option Value) (base : Heap) (N : List Str) (qual : Str) (scope : Scope) (f : Addr) (cdv : Value) (A : Around) (outer : List Env) (s : Shared) (H : Hp) (E : XK) : Cx := cxOf (L2.CX P w) P w K mg base N qual scope f cdv A outer s H E
structure DFX (P : Program) (w : World) (K : PySem.W.Frag) (mg : Str → Option Value) (base : Heap) (k : Nat) (x : Str) (sp : Sp) : Prop where
  ex : ∃ f fd ps, FnOk P w K mg base (L2.CX P w) k f fd ps sp ∧ mg x = some (.ref f) ∧ PySem.W.keepIn K (.ref f) = true ∧ Binds K fd ps []
structure DCX (P : Program) (w : World) (K : PySem.W.Frag) (mg : Str → Option Value) (base : Heap) (k : Nat) (x : Str) (C : Addr) (G : List D → Addr → List (Str × D) → Prop) : Prop where
  ex : ∃ f fd ps, FnOk P w K mg base (L2.CX P w) k f fd ps (spIX K C G) ∧ mg x = some (.ref C) ∧ Mk K C f ∧ Binds K fd ps []
section
variable {P : Program} {w : World} {K : PySem.W.Frag} {mg : Str → Option Value} {base : Heap} {x qual : Str} {params : Arguments} {body : List Stmt} {scope : Scope} {f C : Addr} {fd : FuncData} {N ps : List Str} {k : Nat} {dvs : List V} {kws : List (Str × V)}
theorem fnX {G : List D → Addr → List (Str × D) → Prop} (F : FunD K x qual params body scope dvs kws f fd) (S : FnScope N ps scope) (len : ∀ ds C fs, G ds C fs → ds.length = ps.length)
    (hbody : ∀ cdv A outer s H E, Room k (RX P w K mg base N qual scope f cdv A outer s H E).A → ∀ ds C fs, G ds C fs → SD (RX P w K mg base N qual scope f cdv A outer s H E) body (st0 N ds) { nx := fun _ => False, rt := fun _ => False, xs := fun C' fs' _ => C' = C ∧ fs' = fs }) :
    FnOk P w K mg base (L2.CX P w) (k + 1) f fd ps (spX K G) := by
  refine F.ok S (fun vs H Q E h => ?_) (fun cdv A outer s H vs Q E hr h => ?_)
  · obtain ⟨Hs, ds, C, fs, _, r, hG, _⟩ := h
    rw [r.length, len ds C fs hG]
  · obtain ⟨Hs, ds, C, fs, sm, r, hG, kk⟩ := h
    refine ⟨_, wSs_ok _, ?_⟩
    refine hbody cdv A outer s H E hr ds C fs hG Hs H Hs { nx := fun _ H' => Q .non H', rt := Q } ⟨fun γ σ Hs' H' t q => q.elim, fun _ _ _ _ _ q => q.elim, fun _ _ _ _ _ q => q.elim, fun d' v Hs' H' g r' q => q.elim, fun es l us Hs' H' g h1 h2 h3 r' q => q.elim,
      .inr ⟨fun cls d _ H' => E cls d H', takes_of rfl rfl rfl rfl, fun C' fs' dd us γ σ Hs' H' t h1 h2 q => ?_⟩⟩ _ Hs H (st_start sm r)
    obtain ⟨rfl, rfl⟩ := q
    exact kk dd us Hs' H' t.gr h1 h2
theorem fnIX {G : List D → Addr → List (Str × D) → Prop} (F : FunD K x qual params body scope dvs kws f fd) (S : FnScope N ps scope) (len : ∀ ds C fs, G ds C fs → ds.length + 1 = ps.length)
    (hbody : ∀ cdv A outer s H E, Room k (RX P w K mg base N qual scope f cdv A outer s H E).A → ∀ p ds CE fs, G ds CE fs → SD (RX P w K mg base N qual scope f cdv A outer s H E) body (Sl.ob p C [] :: (ds.map Sl.sh ++ List.replicate (N.length - (ds.length + 1)) .no)) { nx := fun _ => False, rt := fun _ => False, xs := fun C' fs' _ => C' = CE ∧ fs' = fs }) :
    FnOk P w K mg base (L2.CX P w) (k + 1) f fd ps (spIX K C G) := by
  refine F.ok S (fun vs H Q E h => ?_) (fun cdv A outer s H vs Q E hr h => ?_)
  · obtain ⟨Hs, H1, p, dx, ws, ds, CE, fs, rfl, _, _, _, _, _, r, hG, _⟩ := h
    rw [List.length_cons, r.length]
    exact len ds CE fs hG
  · obtain ⟨Hs, H1, p, dx, ws, ds, CE, fs, rfl, rfl, np, ndx, nex, sm, r, hG, kk⟩ := h
    refine ⟨_, wSs_ok _, ?_⟩
    refine hbody cdv A outer s _ E hr p ds CE fs hG Hs H1 Hs { nx := fun _ H' => Q .non H', rt := Q } ⟨fun γ σ Hs' H' t q => q.elim, fun _ _ _ _ _ q => q.elim, fun _ _ _ _ _ q => q.elim, fun d' v Hs' H' g r' q => q.elim, fun es l us Hs' H' g h1 h2 h3 r' q => q.elim,
      .inr ⟨fun cls d _ H' => E cls d H', takes_of rfl rfl rfl rfl, fun C' fs' dd us γ σ Hs' H' t h1 h2 q => ?_⟩⟩ _ Hs _ (st_init sm np ndx nex r)
    obtain ⟨rfl, rfl⟩ := q
    exact kk dd us Hs' H' t.gr h1 h2
end
section
variable {X : Cx} {γ : List Sl} {R : Rs} {e o a b c : Expr} {es : List Expr} {sts : List Stmt} {x y z d : D} {ds : List D} {pos pn apos : Pos} {C CO : Addr} {fs : List (Str × D)} {f m n : Str} {k : Nat}
theorem pass_of {W : WX} (tk : Takes X W) (C : Addr) (fs : List (Str × D)) (σ : L2.St) (H0 : Hp) : PassesAt (L2.CX X.prog X.w) X σ (WE W σ) := passAt tk σ
theorem px_f {G : List D → Addr → List (Str × D) → Prop} (F : DFX X.prog X.w X.K X.mg X.base k n (spX X.K G)) (hr : Room k X.A) (ha : PDA X γ (e :: es) ds) (hG : G ds C fs) (hg : Gl X n := by rfl) (hdb : (n == ("__debug__" : Str)) = false := by decide)
    (he : starEach (e :: es) X.env = (false, eval e X.env) :: starEach es X.env := by rfl) (hpl : (backTo pos (starEach es X.env)).any (·.1) = false := by rfl) : PDX X γ (.Call (.Name n pn) (e :: es) [] pos) C fs := fun W tk σ Hs H Q s E kk => by
  obtain ⟨f, fd, ps, a, b, c, dd⟩ := F.ex
  refine wE_of (pe_callS a hr hg b c dd (fun σ => passAt tk σ) (wA_ok _) hdb he hpl) (ha σ Hs H _ s E fun vs Hs' H' g r => ?_)
  exact ⟨Hs', ds, C, fs, g.sub, r, hG, fun dd us Hs2 H2 g2 h1 h2 => kk dd us Hs2 H2 (g.trans g2) h1 h2⟩
theorem px_arg0 (h : PDX X γ e C fs) (hs : starEach (e :: es) X.env = (false, eval e X.env) :: starEach es X.env := by rfl) : PAX X γ (e :: es) C fs := fun W tk σ Hs H Q s E kk =>
  wA_of (L2.pa_cons (wE_ok e) (wA_ok es) hs) (h W tk σ Hs H _ s E kk)
theorem px_arg1 (h : PD X γ e d) (h2 : PAX X γ es C fs) (hs : starEach (e :: es) X.env = (false, eval e X.env) :: starEach es X.env := by rfl) : PAX X γ (e :: es) C fs := fun W tk σ Hs H Q s E kk =>
  wA_of (L2.pa_cons (wE_ok e) (wA_ok es) hs) (h σ Hs H _ s E fun v Hs' H' g r => h2 W tk σ Hs' H' _ g.sub (E.mono g.sh) fun dd us Hs2 H2 g2 q1 q2 => kk dd us Hs2 H2 (g.trans g2) q1 q2)
theorem px_tup {j : Nat} (h : PAX X γ es C fs) : PDX X γ (.Tuple es j pos) C fs := fun W tk σ Hs H Q s E kk => wE_of (pe_tup (wA_ok es)) (h W tk σ Hs H _ s E kk)
theorem px_att (h : PDX X γ e C fs) (hb : attributeBase e f X.env (eval e X.env) = eval e X.env := by rfl) : PDX X γ (.Attribute e f pos) C fs := fun W tk σ Hs H Q s E kk => wE_of (pe_fld (wE_ok e) hb) (h W tk σ Hs H _ s E kk)
theorem s1_retX (h : PDX X γ e C fs) (k : R.xs C fs γ) : S1 X (.Return (some e) pos) γ R := fun Hs0 H0 Hr E F σ Hs H t => by
  rcases F.xs with no | ⟨W, tk, hW⟩
  · exact absurd k (no _ _ _)
  exact wS_of (ps_ret (wE_ok e)) (h W tk σ Hs H _ t.sub t.se fun dd us Hs' H' g h1 h2 => hW C fs dd us γ σ Hs' H' (t.go g) h1 h2 k)
theorem s1_dropX (h : PDX X γ e C fs) (k : R.xs C fs γ) (hs : swapsWith e none pos.line X.env = pure false := by rfl) : S1 X (.Expr e pos) γ R := fun Hs0 H0 Hr E F σ Hs H t => by
  rcases F.xs with no | ⟨W, tk, hW⟩
  · exact absurd k (no _ _ _)
  exact wS_of (ps_expr (wE_ok e) hs) (h W tk σ Hs H _ t.sub t.se fun dd us Hs' H' g h1 h2 => hW C fs dd us γ σ Hs' H' (t.go g) h1 h2 k)
theorem s1_asgX {p' : Pos} (i : Nat) (h : PDX X γ e C fs) (k : R.xs C fs γ) (hN : X.N.Nodup) (hi : X.N[i]? = some n := by rfl) (hx : Loc X.env.scope n := by first | exact Or.inl rfl | exact Or.inr rfl) (hs : swapsWith e (some (.Name n p')) pos.line X.env = pure false := by rfl)
    (hf : X.fn n = true ∨ X.env.scope.names.lookup n = some .local := by first | exact .inl rfl | exact .inr rfl) : S1 X (.Assign [.Name n p'] e pos) γ R := fun Hs0 H0 Hr E F σ Hs H t => by
  rcases F.xs with no | ⟨W, tk, hW⟩
  · exact absurd k (no _ _ _)
  exact wS_of (ps_set hN hi hx (wE_ok e) hs hf) (h W tk σ Hs H _ t.sub t.se fun dd us Hs' H' g h1 h2 => hW C fs dd us γ σ Hs' H' (t.go g) h1 h2 k)
/-- making, what is raised told at the slots -/
theorem make_at {pins : List (Addr × Obj)} {σ : L2.St} {H : Hp} {s : Shared} {Q : VK} {us : List Value} {vs : List V} {fI : Addr} {fd : FuncData} {ps : List Str} {sp : Sp} {W : WX} (tk : Takes X W) (M : Mk X.K CO fI)
    (F : FnOk X.prog X.w X.K X.mg X.base (L2.CX X.prog X.w) k fI fd ps sp) (hr : Room (k + 1) X.A) (hb : Binds X.K fd ps []) (I : Inv X pins σ H s) (r : Vals vs us)
    (h : ∀ p dx, H p = none → H dx = none → dx ≠ p → sp (.ref p :: vs) (upd (upd H dx (.own p)) p (.ins CO dx [])) (fun v H2 => v = .non ∧ Q (.ref p) H2) (fun cls d H' => W cls d σ H')) :
    wpAny (model X.prog X.w) X.A (call (.ref CO) us) (EP X pins σ Q) X.xe s := by
  let z := s.heap.objs.size
  have I2 := Inv.made (C := CO) I
  have hq := h (z + 1) z (I.hok.fresh (Nat.le_succ z)) (I.hok.fresh (Nat.le_refl z)) (Nat.ne_of_lt (Nat.lt_succ_self z))
  have rr : Vals (V.ref (z + 1) :: vs) (Value.ref (z + 1) :: us) := .cons rfl r
  have hl : (Value.ref (z + 1) :: us).length = ps.length := by
    have q := rr.length
    rw [F.len _ _ _ _ hq] at q
    exact q.symm
  have bd := hb _ (Value.ref (z + 1) :: us) I2.kIn (by rw [List.append_nil]; exact hl)
  rw [List.append_nil] at bd
  have run := F.run _ X.stack _ _ ⟨Value.ref (z + 1) :: us, []⟩ (Value.ref (z + 1) :: us) _ _ (fun cls d H' => W cls d σ H') (hr.make CO us []) (I2.env0.make CO us []) bd rr hq
  refine wpAny_call (make_map (f := fI) I.kIn M.makes M.init (beq_iff_eq.mp M.fn) (codeAny_mono run fun res s' hq' => ?_))
  match res, hq' with
  | .error er, hq' => exact passAt tk σ pins _ _ er s' I2 hq'
  | .ok (.ret u), hq' =>
    obtain ⟨v, H', I3, rv, ev, q3⟩ := I2.after hq'
    subst ev
    exact ⟨rv, V.ref (z + 1), H', I3, rfl, q3⟩
  | .ok .next, hq' => exact hq'.elim
  | .ok .brk, hq' => exact hq'.elim
  | .ok .cont, hq' => exact hq'.elim
/-- C(e, ..) that raises -/
theorem px_make {G : List D → Addr → List (Str × D) → Prop} (F : DCX X.prog X.w X.K X.mg X.base k n CO G) (hr : Room (k + 1) X.A) (ha : PDA X γ (e :: es) ds) (hG : G ds C fs) (hg : Gl X n := by rfl) (hdb : (n == ("__debug__" : Str)) = false := by decide)
    (he : starEach (e :: es) X.env = (false, eval e X.env) :: starEach es X.env := by rfl) (hpl : (backTo pos (starEach es X.env)).any (·.1) = false := by rfl) : PDX X γ (.Call (.Name n pn) (e :: es) [] pos) C fs := fun W tk σ Hs H Q s E kk => by
  obtain ⟨f, fd, ps, a, b, c, dd⟩ := F.ex
  intro pins st I
  refine wpAny_Call_Name_kw (ld_glob I hg b ?_ hdb)
  refine PySem.W.callWith_K (h₀ := X.base) I.ok.mod.kin c.kp (thn ((wA_ok (e :: es)).run pos pins st σ H _ I (ha σ Hs H (fun vs H1 => ∃ Hs1, Gr Hs H Hs1 H1 ∧ Reps X.K Hs1 vs ds) s E fun vs Hs1 H1 g r => ⟨Hs1, g, r⟩)) fun us s1 ⟨vs, H1, I1, r, Hs1, g, r'⟩ => ⟨I1.kIn, ?_⟩) he hpl
  exact make_at tk c a hr dd I1 r fun p dx np ndx nex => ⟨Hs1, H1, p, dx, vs, ds, C, fs, rfl, rfl, np, ndx, nex, g.sub, r', hG, fun dd us Hs2 H2 g2 h1 h2 => kk dd us Hs2 H2 (g.trans g2) h1 h2⟩
end

/-! ### try: .. except X as n: .. -/
theorem ST.clear {K : PySem.W.Frag} {Hs0 H0 Hr Hs H : Hp} {σ : L2.St} {γ : List Sl} {i : Nat} (t : ST K Hs0 H0 Hr Hs H σ γ) : ST K Hs0 H0 Hr Hs H (σ.set i none) (γ.set i .no) := by
  have q := t.forget (i := i)
  refine ⟨q.gr, q.rf, by simpa using t.len, fun j d h => ?_, fun j u h w => ?_, fun j k u v l hjk h1 h2 w1 w2 => ?_⟩
  · have ne : i ≠ j := fun z => by
      subst z
      cases set_self_of h
    rw [List.getElem?_set_ne ne]
    exact q.shd j d h
  · have ne : i ≠ j := fun z => by
      subst z
      have y := set_self_of h
      subst y
      cases w
    rw [List.getElem?_set_ne ne]
    exact q.own j u h w
  · have ne : i ≠ j := fun z => by
      subst z
      have y := set_self_of h1
      subst y
      cases w1
    have ne2 : i ≠ k := fun z => by
      subst z
      have y := set_self_of h2
      subst y
      cases w2
    rw [List.getElem?_set_ne ne, List.getElem?_set_ne ne2]
    exact q.dif j k u v l hjk h1 h2 w1 w2
section
variable {X : Cx} {γ : List Sl} {R : Rs} {body suite : List Stmt} {b0 : Stmt} {pos pos' np : Pos} {x n : Str} {c : Value}
def tbW (X : Cx) (body : List Stmt) (W : WX) : TS := fun D σ H => ∀ (pn : List (Addr × Obj)) (xe : Value → Shared → Prop), Takes (X.tr pn xe) W → PassesOwn (model X.prog X.w) X.A X.env xe → wSs (X.tr pn xe) body D σ H
def tsW (X : Cx) (suite : List Stmt) (a : Addr) (cls : Value) (d : Option Addr) : TS := fun D σ H => ∀ (oe : Obj) (pn : List (Addr × Obj)), Zc cls d oe → (∃ vs, oe.data = .fields vs) → wSs (X.suite a ((a, oe) :: pn)) suite D σ H
/-- Xs: what the body may raise, and the slots then -/
theorem s1_try (i : Nat) (Xs : Addr → List (Str × D) → List Sl → Prop)
    (hb : ∀ (pn : List (Addr × Obj)) (xe : Value → Shared → Prop), PassesOwn (model X.prog X.w) X.A X.env xe → SD (X.tr pn xe) body γ { R with xs := Xs })
    (hsu : ∀ C fs γ', Xs C fs γ' → PySem.W.exmOne X.K (.ref C) c = some true ∧ ∀ (a dd : Addr) (oe : Obj) (pn : List (Addr × Obj)), Zc (.ref C) (some dd) oe → (∃ vs, oe.data = .fields vs) → SD (X.suite a ((a, oe) :: pn)) (b0 :: suite) (γ'.set i (.sh (.exc a dd fs))) { nx := fun g => R.nx (g.set i .no), rt := R.rt, rn := R.rn })
    (hN : X.N.Nodup) (hc : Names X x c) (hi : X.N[i]? = some n := by rfl) (hln : X.env.kindOf n = some .local := by rfl) (hs : X.stack = X.env :: X.outer := by rfl) (hf : X.env.frame = some X.env.locals := by rfl) :
    S1 X (.Try body [.ExceptHandler (some (.Name x np)) (some n) (b0 :: suite) pos'] [] [] pos) γ R := fun Hs0 H0 Hr E F σ Hs H t => by
  refine wS_of (ps_try_as (tb := tbW X body) (ts := tsW X (b0 :: suite)) (Wout := fun _ _ _ _ => False) hs hf hN hi hln hc (fun _ _ z => by
      obtain ⟨_, _, _, _, _, _, _, _, _, _, _, _, _, _, _, _, y⟩ := z
      exact y.elim)
    (fun W pn xe tk po => ⟨fun pins s σ H D I h => h pn xe tk po pins s I⟩) (fun a oe cls d pn hz hd => ⟨fun pins s σ H D I h => h oe pn hz hd pins s I⟩)) ?_
  intro pn xe tk po
  refine hb pn xe po Hs0 H0 Hr E ⟨F.nx, F.bk, F.ct, F.rt, F.rn, .inr ⟨_, tk, fun C fs dd us γ' σ' Hs' H' t' h1 h2 q => ?_⟩⟩ σ Hs H t
  obtain ⟨h3, h4⟩ := hsu C fs γ' q
  refine ⟨true, h3, fun _ a na => ?_, fun z => by cases z⟩
  intro oe pn' hz hd
  exact h4 a dd oe pn' hz hd Hs0 H0 Hr { nx := fun σ' H' => E.nx (σ'.set i none) H', rt := E.rt, bk := fun σ' H' => E.bk (σ'.set i none) H', ct := fun σ' H' => E.ct (σ'.set i none) H' }
    ⟨fun g σ2 Hs2 H2 t2 q2 => F.nx _ _ Hs2 H2 t2.clear q2, fun _ _ _ _ _ z => z.elim, fun _ _ _ _ _ z => z.elim, F.rt, F.rn, .inl fun _ _ _ z => z⟩ _ Hs' H' (t'.set (.exc h1 h2))
end
/-! ### in an except suite: n.f, isinstance(n, T) -/
section
variable {X : Cx} {γ : List Sl} {e : Expr} {d : D} {pos pn' : Pos} {a dd C : Addr} {oe : Obj} {pn : List (Addr × Obj)} {fs : List (Str × D)} {f : Str}
theorem pd_xf (T : XfC X.K C) (hno : PySem.W.findIn X.K (.ref C) f = some none) (hz : Zc (.ref C) (some dd) oe) (hf : ∃ vs, oe.data = .fields vs) (h : PD (X.suite a ((a, oe) :: pn)) γ e (.exc a dd fs)) (hl : fs.lookup f = some d)
    (hb : attributeBase e f (X.suite a ((a, oe) :: pn)).env (eval e (X.suite a ((a, oe) :: pn)).env) = eval e (X.suite a ((a, oe) :: pn)).env := by rfl) : PD (X.suite a ((a, oe) :: pn)) γ (.Attribute e f pos) d := fun σ Hs H Q s E kk =>
  wE_of (pe_xf T hno hz hf (wE_ok e) hb) (h σ Hs H _ s E fun v Hs' H' g r => by
    cases r with
    | exc h1 r1 =>
      obtain ⟨u, hu, ru⟩ := r1.get hl
      exact ⟨rfl, rfl, dd, _, u, rfl, g.sub _ _ h1, hu, kk u Hs' H' g ru⟩)
end
end Pd
end

section
set_option autoImplicit false
set_option Elab.async false
set_option linter.all false
set_option maxRecDepth 100000
set_option maxHeartbeats 4000000
namespace Pd
open PySem PySem.Spec PyProof.Rows L2
/-! ### errors as values: their class -/
section
open PySem.W PySem.Calls
variable {prog : Program} {w : World} {A : Around} {E : Value → Shared → Prop} {s : Shared} {K : Frag} {x D : Addr} {ox : Obj} {od : Option Obj}
theorem cls_ev {Q : Option Value → Shared → Prop} (T : ExcC K D) (X : K.In s.heap) (I : InstAt s.heap x ox D od) (h : Q (some (.ref D)) { s with toks := s.toks + 1 }) :
    wpAny (model prog w) A (getAttr? (.ref x) "__class__") Q E s := by
  obtain ⟨cdD, hcD, _⟩ := any_some T.hd
  have hf : findObj K D od "__class__" = some (.bind (.builtin "getset_descriptor.__get__") (.builtin "object.__class__")) := by
    cases od with
    | none => exact findObj_dataN (by rw [hcD]; rfl) T.ha T.hn T.ht
    | some o => exact findObj_data (by rw [hcD]; rfl) T.ha T.hn T.ht
  obtain ⟨hp, g, d, t, os⟩ := s
  have l0 := I.type (M := model prog w); have l1 := looks_findIn (M := model prog w) X T.hg; have l2 := looks_findIn (M := model prog w) X T.hk
  have l3 := looks_find (M := model prog w) X I hf
  have sb : Looks (model prog w) hp (isInstance (.ref x) (.type "BaseException")) true := l0.andThen (looks_subIn X T.hs)
  have ne1 : (Value.builtin "BaseException.__getattribute__" == Value.builtin "object.__getattribute__") = false := by decide +kernel
  have ne0 : (onTheHeap (Value.ref D) && Value.builtin "BaseException.__getattribute__" == Value.builtin "object.__getattribute__") = false := by rw [ne1, Bool.and_false]
  unfold getAttr? getAttrBy? getAttrBy
  refine wpAny_bind (wpAny_mkText (wpAny_bind (wpAny_attempt (wpAny_holding (wpAny_bind (l0.at (wpAny_bind (l1.at ?_))))))))
  show wpAny _ _ (if (onTheHeap (Value.ref D) && Value.builtin "BaseException.__getattribute__" == Value.builtin "object.__getattribute__") = true then _ else _) _ _ _
  rw [ne0, if_neg Bool.false_ne_true]; unfold getAttrByItsOwn hookBefore; refine wpAny_bind ?_
  rw [if_pos (show onTheHeap (Value.ref D) = true from rfl)]; refine l2.at ?_
  refine wpAny_bind (wpAny_attempt (wpAny_holding ?_)); unfold callGetattribute
  rw [show (false && onTheHeap (Value.builtin "BaseException.__getattribute__")) = false from rfl, if_neg Bool.false_ne_true]; unfold boundAndCalled
  rw [PySem.F.excAttr_ValueError.ga.bind (.ref x)]; refine wpAny_bind (wpAny_pure ?_)
  show wpAny _ _ (call (.builtin "BaseException.__getattribute__") [.ref x, .str "__class__" t]) _ _ _
  refine wpAny_call (codeAny_call_builtin PySem.F.excAttr_ValueError.ga.plain PySem.F.entry_bexc_ga (@check_slot (model prog w) _ _ ⟨hp, g, d, t + 1, os⟩ "BaseException.__getattribute__" "BaseException" "__getattribute__" (.ref x) [.str "__class__" t] [] _ (by decide +kernel) (by decide +kernel) sb (PySem.F.args_bexc_ga (.ref x) (.str "__class__" t)) ?_))
  unfold Builtin.«object.__getattribute__»
  refine wpAny_bind (wpAny_of_eq (a := ((Value.ref x : Value), [Value.str "__class__" t])) (by first | rfl | (simp only [slotArgs]; rfl)) (wpAny_bind (wpAny_pure (wpAny_bind (l0.at (wpAny_bind (l3.at ?_)))))))
  show wpAny _ _ (holding [Value.builtin "object.__class__"] (call (.builtin "getset_descriptor.__get__") [.builtin "object.__class__", .ref x, .ref D]) >>= ret) _ _ _
  refine wpAny_bind (wpAny_holding (wpAny_call (class_get (s := ⟨hp, g, d, t + 1, os⟩) (ox := ox) (od := od) X I T.hm (wpAny_pure ?_))))
  show wpAny _ _ (handedOut (.ref D)) _ _ _
  rw [handedOut_of (v := .ref D) rfl]
  first | exact wpAny_pure (wpAny_pure h) | exact wpAny_pure h | exact wpAny_pure (wpAny_bind (wpAny_pure (wpAny_pure h)))
theorem kit_ev (T : ExcC K D) : KitX K (.ref x) (.ref D) (fun h => ∃ ox od, InstAt h x ox D od) where
  ty := fun _ _ _ ⟨_, _, I⟩ => I.type
  it := fun _ _ X _ => by
    obtain ⟨cdD, hcD, _⟩ := any_some T.hd
    unfold clsIn at hcD
    split at hcD
    · next ho => exact fun _ _ _ _ k q => by unfold isType loadHead; exact wpAny_bind (wpAny_loadPart (k _ _ (X _ _ ho)) (wpAny_pure q))
    · cases hcD
  ne := fun h tp dd its n sl X htp => by
    obtain ⟨cdD, hcD, _⟩ := any_some T.hd
    cases e : (Value.ref D == Value.ref tp) with
    | false => rfl
    | true =>
      obtain rfl : D = tp := Value.ref.inj (beq_iff_eq.mp e)
      unfold clsIn at hcD
      split at hcD
      · next ho => cases (X _ _ ho).symm.trans htp
      · cases hcD
  ca := fun X ⟨_, _, I⟩ k => cls_ev T X I k
end
/-! ### the object of an error that is held -/
section
variable {X : Cx} {γ : List Sl} {R : Rs} {e o a b : Expr} {es : List Expr} {x y z d : D} {ds : List D} {pos pn apos : Pos} {C D' : Addr} {fs : List (Str × D)} {f m n : Str} {k : Nat} {p q : Bool}
theorem inst_ev {P : Program} {w : World} {K : PySem.W.Frag} {Hs H : Hp} {h : Heap} {v : V} (hok : HOk P w H h) (s : Same Hs H) (r : Rep K Hs v (.ev C fs)) : ∃ a, v = .ref a ∧ ∃ ox od, PySem.W.InstAt h a ox C od := by
  cases r with
  | ev0 h1 =>
    obtain ⟨t1, e1⟩ := exo_at hok (s _ _ h1)
    exact ⟨_, rfl, _, none, e1, rfl, rfl, trivial⟩
  | ev1 h1 h2 r1 =>
    obtain ⟨t1, e1⟩ := exo_at hok (s _ _ h1)
    obtain ⟨mA, hns, rel⟩ := exd_at hok (s _ _ h2)
    obtain ⟨od, ho, _⟩ := lookIn_ns hns
    exact ⟨_, rfl, _, some od, e1, rfl, rfl, ho⟩
/-- isinstance(e, c) of such a thing -/
def rIsV (K : PySem.W.Frag) : List V → Hp → VK → Prop := fun xs H Q => ∃ (Hs : Hp) (v c : V) (C : Addr) (fs : List (Str × D)) (cv : Value) (b : Bool), xs = [v, c] ∧ Same Hs H ∧ Rep K Hs v (.ev C fs) ∧ ExcC K C ∧ (∀ u, RelV c u → u = cv) ∧ PySem.W.kitOne K (.ref C) cv = some b ∧ Q (.bl b) H
theorem call_isV : CallR X (.builtin "isinstance") (rIsV X.K) := by
  intro pins s σ H xs us Q I r h
  obtain ⟨Hs, v, c, C, fs, cv, b, rfl, sm, rv, T, hcv, hk, q⟩ := h
  obtain ⟨a, rfl, J⟩ := inst_ev I.hok sm rv
  cases r with
  | cons rx rr =>
    cases rr with
    | cons rt rr =>
      cases rr
      cases rx
      have ec := hcv _ rt
      subst ec
      exact PySem.W.kia_one (kit_ev T) I.kIn J hk (fun z => nomatch z) fun tk => ⟨.bl b, H, I.tok tk, rfl, q⟩
/-- isinstance(e, C): a class of the module's, by its name -/
theorem pd_isvC {p2 : Pos} (h : PD X γ e (.ev C fs)) (T : ExcC X.K C) (hmC : X.mg n = some (.ref D')) (hk : PySem.W.kitOne X.K (.ref C) (.ref D') = some q) (hm : X.mg "isinstance" = none) (hg : Gl X "isinstance" := by rfl) (hgC : Gl X n := by rfl) (hd : (n == ("__debug__" : Str)) = false := by decide)
    (he : starEach [e, .Name n p2] X.env = (false, eval e X.env) :: starEach [.Name n p2] X.env := by rfl) (he2 : starEach [.Name n p2] X.env = (false, eval (.Name n p2) X.env) :: starEach [] X.env := by rfl) (hpl : (backTo pos (starEach [.Name n p2] X.env)).any (·.1) = false := by rfl) :
    PD X γ (.Call (.Name "isinstance" pn) [e, .Name n p2] [] pos) (.bl q) :=
  pd_cb call_isV (fun Hs H vs Q s rs kk => by
    cases rs with
    | cons r1 rn =>
      cases rn with
      | cons r2 rn =>
        cases rn
        cases r2
        exact ⟨Hs, _, _, C, fs, .ref D', q, rfl, s, r1, T, fun u hu => hu, hk, kk _ Hs H (Gr.refl s) (.bl q)⟩) hg hm (by decide +kernel) (pa_cons h (pa_cons (pd_glob (v := .ref D') hgC hmC rfl (fun _ => .adr D') hd) pa_nil he2) he) (by decide) (by decide) he hpl
/-- isinstance(e, T): a built-in type -/
theorem pd_isvT {t : String} {p2 : Pos} (h : PD X γ e (.ev C fs)) (T : ExcC X.K C) (hmT : X.mg n = none) (hv : bootBuiltins n = some (.type t)) (hk : PySem.W.kitOne X.K (.ref C) (.type t) = some q) (hm : X.mg "isinstance" = none) (hg : Gl X "isinstance" := by rfl) (hgT : Gl X n := by rfl) (hn : n ≠ "__name__" := by decide) (hd : (n == ("__debug__" : Str)) = false := by decide)
    (he : starEach [e, .Name n p2] X.env = (false, eval e X.env) :: starEach [.Name n p2] X.env := by rfl) (he2 : starEach [.Name n p2] X.env = (false, eval (.Name n p2) X.env) :: starEach [] X.env := by rfl) (hpl : (backTo pos (starEach [.Name n p2] X.env)).any (·.1) = false := by rfl) :
    PD X γ (.Call (.Name "isinstance" pn) [e, .Name n p2] [] pos) (.bl q) :=
  pd_cb call_isV (fun Hs H vs Q s rs kk => by
    cases rs with
    | cons r1 rn =>
      cases rn with
      | cons r2 rn =>
        cases rn
        cases r2
        exact ⟨Hs, _, _, C, fs, .type t, q, rfl, s, r1, T, fun u hu => hu, hk, kk _ Hs H (Gr.refl s) (.bl q)⟩) hg hm (by decide +kernel) (pa_cons h (pa_cons (pd_ty hmT hv hgT hn hd) pa_nil he2) he) (by decide) (by decide) he hpl
/-- e.f -/
theorem pd_evf (h : PD X γ e (.ev C fs)) (T : XfC X.K C) (hno : PySem.W.findIn X.K (.ref C) f = some none) (hl : fs.lookup f = some d) (hb : attributeBase e f X.env (eval e X.env) = eval e X.env := by rfl) : PD X γ (.Attribute e f pos) d := fun σ Hs H Q s E kk => by
  intro pins st I
  refine attr_of hb (thn ((wE_ok e).run pins st σ H _ I (h σ Hs H (fun v H1 => ∃ Hs1, Gr Hs H Hs1 H1 ∧ Rep X.K Hs1 v (.ev C fs)) s E fun v Hs1 H1 g r => ⟨Hs1, g, r⟩)) fun u s1 hh => ?_)
  obtain ⟨v, H1, I1, rx, Hs1, g, r⟩ := hh
  cases r with
  | ev0 _ => cases hl
  | ev1 h1 h2 r1 =>
    cases rx
    obtain ⟨t1, e1⟩ := exo_at I1.hok (g.sub _ _ h1)
    obtain ⟨mA, hns, rel⟩ := exd_at I1.hok (g.sub _ _ h2)
    obtain ⟨od, ho, hlk⟩ := lookIn_ns hns
    obtain ⟨v, hv, rv⟩ := r1.get hl
    obtain ⟨u, hu, ru⟩ := RelO.some_of (v := v) (o := mA f) (by rw [← hv]; exact rel f)
    have J : PySem.W.InstAt s1.heap _ _ C (some od) := ⟨e1, rfl, rfl, ho⟩
    exact HandSPX.exc_get I1.kIn J T.ga T.gg T.exC (PySem.W.findObj_own T.hdC hno rfl (by rw [hlk, hu])) (handed_of ru) ⟨v, H1, I1.tok _, ru, kk v Hs1 H1 g rv⟩
end
end Pd
end

section
set_option autoImplicit false
set_option Elab.async false
set_option linter.all false
set_option maxRecDepth 100000
set_option maxHeartbeats 4000000
namespace Pd
open PySem PySem.Spec PyProof.Rows L2
/-! ### an error is made and held -/
def tMkV (C : Addr) (sp : Sp) (ta : TA) : TE := fun σ H Q => ta σ H fun vs H1 => vs.length ≤ 1000 ∧ ∀ a, H1 a = none → sp (.ref a :: vs) (upd H1 a (exo a C none)) (fun v H2 => v = .non ∧ Q (.ref a) H2) (fun _ _ _ => False)
section
variable {X : Cx} {CX : CXT} {x : Str} {C fI : Addr} {k : Nat} {fd : FuncData} {ps : List Str} {sp : Sp} {e : Expr} {es : List Expr} {ta : TA} {p pos : Pos}
theorem pe_oexV (T : OexC X.K C) (iC : PySem.W.findIn X.K (.ref C) "__init__" = some (some (.ref fI))) (tI : PySem.W.typeIn X.K (.ref fI) = some (.type "function")) (F1 : FnOk X.prog X.w X.K X.mg X.base CX k fI fd ps sp) (hr : Room (k + 1) X.A) (hb : Binds X.K fd ps []) (hx : Passes CX X (fun _ _ _ => False))
    (hg : Gl X x) (hm : X.mg x = some (.ref C)) (ha : PA X (e :: es) ta) (hdb : (x == ("__debug__" : Str)) = false := by decide) (he : starEach (e :: es) X.env = (false, eval e X.env) :: starEach es X.env := by rfl) (hpl : (backTo pos (starEach es X.env)).any (·.1) = false := by rfl) :
    PE X (.Call (.Name x p) (e :: es) [] pos) (tMkV C sp ta) := by
  refine ⟨fun pins s σ H Q I h => ?_⟩
  obtain ⟨nm, q, N, bs, bm, sn, sub, ab, col, dd, k0, k1, k2, k3, k5, hC, hbm⟩ := T.cls
  refine wpAny_Call_Name_kw (ld_glob I hg hm (PySem.W.callWith_K (h₀ := X.base) I.ok.mod.kin T.kC (thn (ha.run pos pins s σ H _ I h) fun us s1 ⟨vs, H1, I1, r1, hz, q1⟩ => ⟨I1.kIn, ?_⟩) he hpl) hdb)
  show wpAny _ _ (call (.ref C) us) _ _ _
  obtain ⟨hp, g, dr, tk, os⟩ := s1
  let z := hp.objs.size + 1
  have hn : H1 z = none := I1.hok.fresh (Nat.le_succ _)
  have hq := q1 z hn
  have hget : ((hp.push (PySem.W.kdv_tup us)).push (PySem.HandSPX.excO C hp.objs.size)).get? (hp.objs.size + 1) = some (PySem.HandSPX.excO C hp.objs.size) := by heap_get
  have I2 : Inv X pins σ (upd H1 z (exo z C none)) ⟨(hp.push (PySem.W.kdv_tup us)).push (PySem.HandSPX.excO C hp.objs.size), g, dr, tk, os⟩ :=
    I1.laid (t' := tk) (a := z) (o := exo z C none) (h' := (hp.push (PySem.W.kdv_tup us)).push (PySem.HandSPX.excO C hp.objs.size)) (fun b o e => Heap.get?_push_of_some _ (Heap.get?_push_of_some _ e)) (Nat.le_succ _) (exo_ok hget)
  have r2 : Vals (V.ref z :: vs) (Value.ref z :: us) := .cons rfl r1
  have hl : (Value.ref z :: us).length = ps.length := by
    have y := r2.length
    rw [F1.len _ _ _ _ hq] at y
    exact y.symm
  have bd := hb _ (Value.ref z :: us) I2.kIn (by rw [List.append_nil]; exact hl)
  rw [List.append_nil] at bd
  have hus : us.length ≤ sizeLine := by
    have y := Paired.length r1
    rw [sizeLine_eq]; omega
  have run := F1.run _ X.stack _ _ ⟨Value.ref z :: us, []⟩ (Value.ref z :: us) _ _ (fun _ _ _ => False) (hr.make C us []) (I2.env0.make C us []) bd r2 hq
  refine wpAny_call (PySem.HandSPX.call_own PySem.F.excBase_ValueError (fun Y => PySem.HandSPX.refsVE_contains Y bm hbm) (I1.kIn _ _ hC) (PySem.W.looks_findIn I1.kIn iC) (fun self => PySem.W.bind_fn I1.kIn self tI) hus (codeAny_mono run fun r s' hq' => ?_))
  match r, hq' with
  | .error er, hq' => exact hx pins σ _ _ er s' I2 hq'
  | .ok (.ret u), hq' =>
    obtain ⟨v, H', I3, rv, ev, q3⟩ := I2.after hq'
    subst ev
    exact ⟨rv, V.ref z, H', I3, rfl, q3⟩
  | .ok .next, hq' => exact hq'.elim
  | .ok .brk, hq' => exact hq'.elim
  | .ok .cont, hq' => exact hq'.elim
/-- X(), without an own __init__ -/
theorem pe_exc0 {bmB : List Value} {B newId initId : String} (F : ExcBaseFacts B newId initId bmB) (q : PySem.W.excIn X.K C bmB newId = true) (gC : X.mg x = some (.ref C)) (kC : PySem.W.keepIn X.K (.ref C) = true) (hg : Gl X x) (hdb : (x == ("__debug__" : Str)) = false := by decide) :
    PE X (.Call (.Name x p) [] [] pos) (fun σ H Q => ∀ a, H a = none → Q (.ref a) (upd H a (exo a C none))) := by
  refine ⟨fun pins s σ H Q I h => ?_⟩
  refine wpAny_Call_Name_kw (ld_glob I hg gC (PySem.W.callWith_K0 I.kIn kC ?_) hdb)
  obtain ⟨bm, N, nm, qn, bs, hdct, sn, sub, ab, col, dd, k0, k1, k2, k3, k5, mN, hC, hN, hni, T⟩ := exc_obj I.kIn q
  refine wpAny_call_exc_subT F T hC hN hni (fun h' a hm => ?_) (by show 0 ≤ sizeLine; omega)
  have hn : H a = none := I.hok.gone hm.new
  obtain ⟨t, ht, _, _⟩ := hm.there
  exact ⟨.ref a, upd H a (exo a C none), I.laidN hm.keeps hm.new hn (exo_ok ht), rfl, h a hn⟩
end
/-- __init__(self, x, ..) of an error: its fields by its arguments -/
def spEV (K : PySem.W.Frag) (C : Addr) (G : List D → List (Str × D) → Prop) : Sp := fun vs H Q _ => ∃ (Hs H1 : Hp) (a : Addr) (ws : List V) (ds : List D) (fs : List (Str × D)), vs = .ref a :: ws ∧ H1 a = none ∧ H = upd H1 a (exo a C none) ∧ Same Hs H1 ∧ Reps K Hs ws ds ∧ G ds fs ∧
  ∀ Hs' H', Gr Hs H1 Hs' H' → Rep K Hs' (.ref a) (.ev C fs) → Q .non H'
structure DV (P : Program) (w : World) (K : PySem.W.Frag) (mg : Str → Option Value) (base : Heap) (x : Str) (C : Addr) (G : List D → List (Str × D) → Prop) : Prop where
  T : OexC K C
  m : mg x = some (.ref C)
  ex : ∃ fI fd ps, PySem.W.findIn K (.ref C) "__init__" = some (some (.ref fI)) ∧ PySem.W.typeIn K (.ref fI) = some (.type "function") ∧ FnOk P w K mg base CX0 1 fI fd ps (spEV K C G) ∧ Binds K fd ps []
section
variable {X : Cx} {γ : List Sl} {R : Rs} {e o a b : Expr} {es : List Expr} {x y z d : D} {ds : List D} {pos pn apos : Pos} {C D' : Addr} {fs : List (Str × D)} {f m n : Str} {k : Nat} {p q : Bool}
theorem pd_mkev {G : List D → List (Str × D) → Prop} (T : DV X.prog X.w X.K X.mg X.base n C G) (hr : Room 2 X.A) (ha : PDA X γ (e :: es) ds) (hG : G ds fs) (hz : ds.length ≤ 1000 := by simp) (hg : Gl X n := by rfl) (hdb : (n == ("__debug__" : Str)) = false := by decide)
    (he : starEach (e :: es) X.env = (false, eval e X.env) :: starEach es X.env := by rfl) (hpl : (backTo pos (starEach es X.env)).any (·.1) = false := by rfl) : PD X γ (.Call (.Name n pn) (e :: es) [] pos) (.ev C fs) := fun σ Hs H Q s E kk => by
  obtain ⟨fI, fd, ps, i1, i2, ok, bd⟩ := T.ex
  refine wE_of (pe_oexV T.T i1 i2 ok hr bd (fun _ _ _ _ _ _ _ z => z.elim) hg T.m (wA_ok _) hdb he hpl) ?_
  refine ha σ Hs H _ s E fun vs Hs' H' g r => ⟨by rw [r.length]; exact hz, fun a na => ?_⟩
  exact ⟨Hs', H', a, vs, ds, fs, rfl, na, rfl, g.sub, r, hG, fun Hs2 H2 g2 r2 => ⟨rfl, kk _ Hs2 H2 (g.trans g2) r2⟩⟩
theorem pd_mkev0 (q : PySem.W.excIn X.K C He.veBase "ValueError.__new__" = true) (kC : PySem.W.keepIn X.K (.ref C) = true) (hm : X.mg n = some (.ref C)) (hg : Gl X n := by rfl) (hdb : (n == ("__debug__" : Str)) = false := by decide) : PD X γ (.Call (.Name n pn) [] [] pos) (.ev C []) := fun σ Hs H Q s E kk =>
  wE_of (pe_exc0 PySem.F.excBase_ValueError q hm kC hg hdb) fun a na => by
    have g := Gr.new s na (o := exo a C none)
    exact kk _ _ _ g (.ev0 upd_same)
end
/-! ### __init__ of one, of two fields -/
section
variable {P : Program} {w : World} {K : PySem.W.Frag} {mg : Str → Option Value} {base : Heap} {qual : Str} {params : Arguments} {scope : Scope} {f C : Addr} {fd : FuncData} {s x y f1 f2 : Str} {p1 p2 p3 p4 q1 q2 q3 q4 : Pos}
theorem ev_end {Hs H1 : Hp} {a dx : Addr} {vs : List (Str × V)} {ds : List (Str × D)} (sm : Same Hs H1) (na : H1 a = none) (ndx : H1 dx = none) (ne : dx ≠ a) (r : RepF K Hs vs ds) :
    ∃ Hs', Gr Hs H1 Hs' (upd (upd H1 dx (exd dx vs)) a (exo a C (some dx))) ∧ Rep K Hs' (.ref a) (.ev C ds) := by
  have g1 := Gr.new sm ndx (o := exd dx vs)
  have na2 : upd H1 dx (exd dx vs) a = none := by rw [upd_ne (Ne.symm ne)]; exact na
  have g2 := Gr.new g1.sub na2 (o := exo a C (some dx))
  refine ⟨_, g1.trans g2, .ev1 upd_same ?_ (RepF.mono (g1.sh.trans g2.sh) r)⟩
  rw [upd_ne ne, upd_same]
theorem upd_2 {H : Hp} {a b : Addr} {o u v : HO} (ne : b ≠ a) : upd (upd (upd H a o) b u) a v = upd (upd H b u) a v := by
  funext c
  by_cases h1 : c = a
  · subst h1; rw [upd_same, upd_same]
  · rw [upd_ne h1, upd_ne h1]
    by_cases h2 : c = b
    · subst h2; rw [upd_same, upd_same]
    · rw [upd_ne h2, upd_ne h2, upd_ne h1]
theorem upd_3 {H : Hp} {a b : Addr} {u v w : HO} (ne : b ≠ a) : upd (upd (upd H b u) a v) b w = upd (upd H b w) a v := by
  funext c
  by_cases h1 : c = b
  · subst h1; rw [upd_same, upd_ne ne, upd_same]
  · rw [upd_ne h1]
    by_cases h2 : c = a
    · subst h2; rw [upd_same, upd_same]
    · rw [upd_ne h2, upd_ne h2, upd_ne h1, upd_ne h1]
def gE1 (f1 : Str) : List D → List (Str × D) → Prop := fun ds fs => ∃ d, ds = [d] ∧ fs = [(f1, d)]
def gE2 (f1 f2 : Str) : List D → List (Str × D) → Prop := fun ds fs => ∃ d e, ds = [d, e] ∧ fs = [(f2, e), (f1, d)]
theorem okEV1 (F : FunD K "__init__" qual params [.Assign [.Attribute (.Name s p1) f1 p2] (.Name x p3) p4] scope [] [] f fd) (S : FnScope [s, x] [s, x] scope) (T : OexC K C) (hno : PySem.W.findIn K (.ref C) f1 = some none) (v0 : Vis scope s) (v1 : Vis scope x)
    (d0 : (s == ("__debug__" : Str)) = false) (d1 : (x == ("__debug__" : Str)) = false) (c0 : (s == ("__classdict__" : Str)) = false) (c1 : (x == ("__classdict__" : Str)) = false) : FnOk P w K mg base CX0 1 f fd [s, x] (spEV K C (gE1 f1)) := by
  refine F.ok S (fun vs H Q E h => ?_) (fun cdv A outer st H vs Q E hr h => ?_)
  · obtain ⟨Hs, H1, a, ws, ds, fs, rfl, _, _, _, r, ⟨d, rfl, _⟩, _⟩ := h
    show ws.length + 1 = 2
    rw [r.length] <;> rfl
  · obtain ⟨Hs, H1, a, ws, ds, fs, rfl, na, rfl, sm, r, ⟨d, rfl, rfl⟩, kk⟩ := h
    cases r with
    | @cons v _ _ _ r1 rn =>
      cases rn
      refine ⟨_, PSs.nox (pss_one (ps_ost (pe_var (i := 0) rfl v0 d0 c0) (pe_var (i := 1) rfl v1 d1 c1))), ?_⟩
      refine ⟨v, rfl, _, rfl, a, C, rfl, T, hno, .inl ⟨upd_same, fun dx ndx ne => ?_⟩⟩
      rw [upd_ne ne] at ndx
      obtain ⟨Hs', g, rr⟩ := ev_end (C := C) sm na ndx ne (RepF.cons (x := f1) r1 RepF.nil)
      show Q .non _
      rw [upd_2 ne]
      exact kk Hs' _ g rr
theorem okEV2 (F : FunD K "__init__" qual params [.Assign [.Attribute (.Name s p1) f1 p2] (.Name x p3) p4, .Assign [.Attribute (.Name s q1) f2 q2] (.Name y q3) q4] scope [] [] f fd) (S : FnScope [s, x, y] [s, x, y] scope) (T : OexC K C) (hno : PySem.W.findIn K (.ref C) f1 = some none) (hno2 : PySem.W.findIn K (.ref C) f2 = some none) (v0 : Vis scope s) (v1 : Vis scope x) (v2 : Vis scope y)
    (d0 : (s == ("__debug__" : Str)) = false) (d1 : (x == ("__debug__" : Str)) = false) (c0 : (s == ("__classdict__" : Str)) = false) (c1 : (x == ("__classdict__" : Str)) = false) (d2 : (y == ("__debug__" : Str)) = false) (c2 : (y == ("__classdict__" : Str)) = false) : FnOk P w K mg base CX0 1 f fd [s, x, y] (spEV K C (gE2 f1 f2)) := by
  refine F.ok S (fun vs H Q E h => ?_) (fun cdv A outer st H vs Q E hr h => ?_)
  · obtain ⟨Hs, H1, a, ws, ds, fs, rfl, _, _, _, r, ⟨d, e, rfl, _⟩, _⟩ := h
    show ws.length + 1 = 3
    rw [r.length] <;> rfl
  · obtain ⟨Hs, H1, a, ws, ds, fs, rfl, na, rfl, sm, r, ⟨d, e, rfl, rfl⟩, kk⟩ := h
    cases r with
    | @cons v _ _ _ r1 rn =>
      cases rn with
      | @cons u2 _ _ _ r2 rn =>
        cases rn
        refine ⟨_, PSs.nox (pss_cons (ps_ost (pe_var (i := 0) rfl v0 d0 c0) (pe_var (i := 1) rfl v1 d1 c1)) (pss_one (ps_ost (pe_var (i := 0) rfl v0 d0 c0) (pe_var (i := 2) rfl v2 d2 c2)))), ?_⟩
        refine ⟨v, rfl, _, rfl, a, C, rfl, T, hno, .inl ⟨upd_same, fun dx ndx ne => ?_⟩⟩
        rw [upd_ne ne] at ndx
        rw [upd_2 ne]
        refine ⟨u2, rfl, _, rfl, a, C, rfl, T, hno2, .inr ⟨dx, [(f1, v)], upd_same, by rw [upd_ne ne, upd_same], by simp, ?_⟩⟩
        obtain ⟨Hs', g, rr⟩ := ev_end (C := C) sm na ndx ne (RepF.cons (x := f2) r2 (RepF.cons (x := f1) r1 RepF.nil))
        show Q .non _
        rw [upd_3 ne]
        exact kk Hs' _ g rr
end
/-! ### counting, joining -/
section
variable {X : Cx} {γ : List Sl} {R : Rs} {e o a b : Expr} {es : List Expr} {x y z d : D} {ds es' : List D} {pos pn apos : Pos} {p q : Bool}
def cntB (q : Bool) (v : Value) : Bool := match v with
  | .bool b => b == q
  | _ => false
theorem vals_bl : ∀ {bs : List Bool} {us : List Value}, Vals (bs.map V.bl) us → us = bs.map Value.bool
  | [], _, .nil => rfl
  | b :: bs, _, .cons r t => by rw [vals_bl t]; cases (show _ = Value.bool b from r); rfl
theorem reps_bl {K : PySem.W.Frag} {H : Hp} : ∀ {vs : List V} {bs : List Bool}, Reps K H vs (bs.map D.bl) → vs = bs.map V.bl
  | [], [], _ => rfl
  | [], _ :: _, h => by cases h
  | _ :: _, [], h => by cases h
  | v :: vs, n :: ns, h => by
    cases h with
    | cons r t => cases r; rw [reps_bl t] <;> rfl
def rCntB (K : PySem.W.Frag) : V → List V → Hp → VK → Prop := fun x xs H Q => ∃ (p : Addr) (bs : List Bool) (k : Bool), x = .ref p ∧ xs = [.bl k] ∧ SqL K H p (bs.map V.bl) ∧ Q (.int (bs.count k : Nat)) H
theorem mt_cntB : MtR X "list.count" (rCntB X.K) := by
  intro pins s σ H x xs v us Q I rx rxs h
  obtain ⟨p, bs, k, rfl, rfl, hs, q⟩ := h
  cases rx
  obtain ⟨u, rfl, ru⟩ := rxs.one
  cases (show u = Value.bool k from ru)
  obtain ⟨its, rv, ⟨⟨cls, dd, data, sl⟩, n, ho, hc, hdn, hd⟩, hlen⟩ := I.list hs
  simp only at hc hd
  subst hc hd
  have hi := vals_bl rv
  subst hi
  refine call_meets PySem.F.slot_list_count ⟨_, ho, rfl⟩ PySem.F.entry_list_count (PySem.F.args_list_count_2 _ _) (SeqAt.list_countAt p _ n dd sl (.bool k) (cntB k)) ⟨ho, fun y hy => ?_, ?_⟩
  · obtain ⟨b, _, rfl⟩ := List.mem_map.mp (by simpa using hy : y ∈ bs.map Value.bool)
    exact PySem.SeqAt.EqAt.bool_bool b k
  · have ec : ∀ l : List Bool, (l.map Value.bool).countP (cntB k) = l.count k := by
      intro l
      induction l with
      | nil => rfl
      | cons b r ih => rw [List.map_cons, List.countP_cons, List.count_cons, ih] <;> rfl
    refine ⟨.int (bs.count k : Nat), H, I.tok _, ⟨s.toks, ?_⟩, q⟩
    show Value.int (((bs.map Value.bool).countP (cntB k) : Nat) : Int) s.toks = Value.int ((bs.count k : Nat) : Int) s.toks
    rw [ec]
theorem ty_lcnt : typeOf (.builtin "list.count") = pure (.type "method_descriptor") := by show builtinType _ = _; rw [builtinType_eq_fast]; kernel_rfl
theorem pd_cntB {bs : List Bool} {k : Nat} {p2 ap : Pos} (h : PD X γ o (.lst (bs.map .bl))) (hbase : attributeBase o "count" X.env (eval o X.env) = eval o X.env := by rfl)
    (hfew : ((backTo pos (starEach [.Constant (.bool q) k p2] X.env)).all (fun x => !x.1) && (backToKw pos (keywordEach [] X.env)).all (fun x => x.1.isSome) && decide (([Expr.Constant (.bool q) k p2] : List Expr).length + ([] : List Keyword).length + (if ([] : List Keyword).isEmpty then 0 else 1) < 30)) = true := by rfl)
    (hline : (ap.endLine == pos.line) = true := by rfl) : PD X γ (.Call (.Attribute o "count" ap) [.Constant (.bool q) k p2] [] pos) (.int (bs.count q : Nat)) := fun σ Hs H Q s E kk => by
  refine wE_of (pe_bm (r := rCntB X.K) PySem.F.plainAttrs_list PySem.F.slot_list_count ty_lcnt mt_cntB (wE_ok o) (L2.pa_cons pe_bl L2.pa_nil) hbase hfew hline) ?_
  refine h σ Hs H _ s E fun v Hs' H' g r => ?_
  cases r with
  | lst h1 r1 =>
    have ev := reps_bl r1
    subst ev
    refine ⟨?_, ?_⟩
    · show tyV X.K "list" _ H'
      exact .inl ⟨rfl, _, .inl (.inl (g.sub _ _ h1))⟩
    · exact ⟨_, bs, q, rfl, rfl, .inl (.inl (g.sub _ _ h1)), kk _ Hs' H' g (.int _)⟩
/-- sep.join(xs), the texts one sign each, no separator -/
theorem reps_str {K : PySem.W.Frag} {H : Hp} : ∀ {vs : List V} {xs : List Str}, Reps K H vs (xs.map D.str) → vs = xs.map V.str
  | [], [], _ => rfl
  | [], _ :: _, h => by cases h
  | _ :: _, [], h => by cases h
  | v :: vs, n :: ns, h => by
    cases h with
    | cons r t => cases r; rw [reps_str t] <;> rfl
theorem pd_join {u : Str} {ys : List Str} {ap : Pos} (ho : PD X γ o (.str u)) (he : PD X γ e (.lst (ys.map .str))) (hz : (ys.map (·.length)).sum + ys.length * u.length ≤ 16777216) (hs : starEach [e] X.env = [(false, eval e X.env)] := by rfl)
    (hbase : attributeBase o "join" X.env (eval o X.env) = eval o X.env := by rfl) (hline : (ap.endLine == pos.line) = true := by rfl) : PD X γ (.Call (.Attribute o "join" ap) [e] [] pos) (.str (Txt.join u ys)) := fun σ Hs H Q s E kk => by
  refine wE_of (pe_join (wE_ok o) (wE_ok e) hs hbase hline) ?_
  refine ho σ Hs H _ s E fun v Hs' H' g r => ?_
  cases r
  refine ⟨⟨u, rfl⟩, he σ Hs' H' _ g.sub (E.mono g.sh) fun v2 Hs2 H2 g2 r2 => ?_⟩
  cases r2 with
  | lst h1 r1 =>
    have ev := reps_str r1
    subst ev
    exact ⟨u, _, ys, rfl, rfl, .inl (.inl (.inl (g2.sub _ _ h1))), hz, kk _ Hs2 H2 (g.trans g2) (.str _)⟩
theorem pd_catT (ha : PD X γ a (.tup ds)) (hb : PD X γ b (.tup es')) (h1 : ds ≠ []) (h2 : es' ≠ []) (hz : ds.length + es'.length ≤ 100000) : PD X γ (.BinOp a .Add b pos) (.tup (ds ++ es')) :=
  pd_op op_catT (fun Hs H v u Q s r1 r2 k => by
    cases r1 with
    | tup t1 r1 =>
      cases r2 with
      | tup t2 r2 =>
        exact ⟨_, _, _, _, rfl, rfl, sqT_mono s t1, sqT_mono s t2, fun z => h1 (by have y := r1.length; rw [z] at y; exact List.eq_nil_of_length_eq_zero y.symm), sz_of (by rw [r1.length, r2.length]; exact hz), fun z => absurd (show es' = [] by have y := r2.length; rw [z] at y; exact List.eq_nil_of_length_eq_zero y.symm) h2, fun _ => newT s (r1.append r2) k⟩) ha hb
end
end Pd
end

section
set_option autoImplicit false
set_option Elab.async false
set_option linter.all false
set_option maxRecDepth 100000
set_option maxHeartbeats 4000000
namespace Pd
open PySem PySem.Spec PyProof.Rows L2
/-! ### enumerate(v), v told by its iterator's first object -/
theorem enum_new1 {v : Value} {o : Obj} {C : Heap → Prop} (B : Begins v o C) : Meets (Builtin.«enumerate.__new__» ⟨[.type "enumerate", v], []⟩) (fun _ R s => C s.heap ∧
    R (.ok (.ret (.ref (s.heap.push o).objs.size))) { s with heap := (s.heap.push o).push { cls := .type "enumerate", data := .fields #[.none, .bool false, .ref s.heap.objs.size, rawInt 0, .none, .none] } }) :=
  .of_wp fun prog w A R s h => by
    obtain ⟨hp, g, d, tk, os⟩ := s; obtain ⟨c, h⟩ := h
    have sb := sub_enumerate
    have go : ∀ {A' : Around} {E : Value → Shared → Prop} {Q : Value → Shared → Prop}, Q (.ref hp.objs.size) ⟨hp.push o, g, d, tk, os⟩ → wpAny (model prog w) A' (pyIter v) Q E ⟨hp, g, d, tk, os⟩ := fun q => B.iter prog w _ _ ⟨hp, g, d, tk, os⟩ _ c q
    wp_walk using go
    refine wpAny_stack_any fun st => wpAny_pure ?_
    split
    · rename_i c' _ _ _ _ _
      cases (c' == Value.type "enumerate")
      · wp_walk using go
        exact ⟨_, rfl, h⟩
      · wp_walk using go
        exact ⟨_, rfl, h⟩
    · wp_walk using go
      exact ⟨_, rfl, h⟩
theorem enum_call1 {prog : Program} {w : World} {A : Around} {E : Value → Shared → Prop} {s : Shared} {v : Value} {o : Obj} {C : Heap → Prop} {Q : Value → Shared → Prop} (B : Begins v o C) (c : C s.heap)
    (h : ∀ h', IsEnum h' (s.heap.objs.size + 1) s.heap.objs.size 0 .none → h'.get? s.heap.objs.size = some o → (∀ b o, s.heap.get? b = some o → h'.get? b = some o) → Q (.ref (s.heap.objs.size + 1)) { s with heap := h' }) :
    wpAny (model prog w) A (call (.type "enumerate") [v]) Q E s := by
  refine callType_new F.called_enumerate (by decide) (F.typeCall_enumerate_1 _) (F.newCall_enumerate_1 _) (fun obj => F.args_object_init_2 obj _) F.entry_enumerate_new (enum_new1 B) ⟨c, ?_⟩
  have z : (s.heap.push o).objs.size = s.heap.objs.size + 1 := Heap.size_push ..
  show _ ∧ _
  rw [z]
  have he : IsEnum ((s.heap.push o).push { cls := .type "enumerate", data := .fields #[.none, .bool false, .ref s.heap.objs.size, rawInt 0, .none, .none] }) (s.heap.objs.size + 1) s.heap.objs.size 0 .none := by
    have y := Heap.get?_push_size (s.heap.push o) (o := { cls := .type "enumerate", data := .fields #[.none, .bool false, .ref s.heap.objs.size, rawInt 0, .none, .none] }) rfl
    rw [z] at y; exact y
  exact ⟨⟨_, he, rfl⟩, h _ he (Heap.get?_push_of_some _ (Heap.get?_push_size _ B.free)) fun b o x => Heap.get?_push_of_some _ (Heap.get?_push_of_some _ x)⟩
/-- the tuple at a, each item in a new pair -/
def ItT (K : PySem.W.Frag) (a : Addr) : It :=
  ⟨fun i H => ∃ (xs : List V) (x : V), SqT K H a xs ∧ xs[i]? = some x, fun i H v H' => ∃ T x, v = .ref T ∧ H T = none ∧ H' = upd H T (.tup [.int (i : Nat), x]) ∧ ∀ xs, SqT K H a xs → xs[i]? = some x, fun i H => ∃ xs : List V, SqT K H a xs ∧ xs.length = i⟩
theorem turn_eT {P : Program} {w : World} {K : PySem.W.Frag} {elts : List Expr} {kk : Nat} {tpos : Pos} (a e it : Addr) :
    Turn P w K (.Tuple elts kk tpos) (ItT K a) [e, it] e (fun i h => (∃ old, IsEnum h e it ((i : Nat) : Int) old) ∧ h.IsTupleIter it a i ∧ e ≠ it ∧ a ≠ it ∧ e ≠ a) where
  mem := List.mem_cons_self
  obj := fun i h st b hb => by
    obtain ⟨⟨old, he⟩, ⟨o, ho, hc, hd⟩, _⟩ := st
    rcases List.mem_cons.mp hb with z | z
    · subst z; exact ⟨_, he, fun v q => nomatch q⟩
    · obtain rfl := List.mem_singleton.mp z
      exact ⟨o, ho, fun v q => by rw [hd] at q; cases q⟩
  keep := fun i h h' st k => let ⟨⟨old, he⟩, hi, hne⟩ := st; ⟨⟨old, k e (by simp) _ he⟩, hi.at fun o q => k it (by simp) o q, hne⟩
  item := by
    intro X hP hw hK hc i pins s σ H E I hf st hg
    subst hP hw hK
    obtain ⟨⟨old, he⟩, hit, hne, hai, hea⟩ := st
    obtain ⟨xs, x, hq, hx⟩ := hg
    obtain ⟨its, rv, p, hz⟩ := I.tuple hq
    obtain ⟨u, hu, ru⟩ := rv.get hx
    have hel : e < s.heap.objs.size := Heap.lt_size he
    have hil : it < s.heap.objs.size := by obtain ⟨_, q, _⟩ := hit; exact Heap.lt_size q
    have hi : i < its.toArray.size := by
      have := (List.getElem?_eq_some_iff.mp hu).1
      simpa using this
    refine wpAny_pyNext_enum_itemD (Draws.tuple (A := X.A.in1) (I.ok.hd hc) it a hai its.toArray) he ⟨hit, p⟩ hi hne (by simp [hne, hea]) fun y h' tk hy ho st' hT hsz hk => ?_
    have ey : y = u := by
      have : its[i]? = some y := by simpa using hy
      rw [hu] at this
      exact (Option.some.inj this).symm
    subst ey
    refine ⟨_, rfl, wpAny_letOwnedTupleGo_enum (s := { s with heap := h', toks := tk + 1 }) ho fun h'' he' sb => ?_⟩
    have hT2 : h''.get? s.heap.objs.size = some { cls := .type "tuple", data := .seq #[.int i tk, y] } := (sb.2 _ (Nat.ne_of_gt hel)).trans hT
    have new : ObjOk X.prog X.w (upd H s.heap.objs.size (.tup [.int (i : Nat), x])) h'' s.heap.objs.size (.tup [.int (i : Nat), x]) :=
      ⟨by show 2 ≤ sizeLine; decide, [.int i tk, y], .cons ⟨_, rfl⟩ (.cons ru .nil), ⟨_, hT2, rfl, _, rfl⟩⟩
    have I1 : Inv X pins σ (upd H s.heap.objs.size (.tup [.int (i : Nat), x])) { s with heap := h'', toks := tk + 1 } :=
      I.turnedNew (ch := [e, it]) (fun b ob hb q => (sb.2 b (fun z => hb (by simp [z]))).trans (hk b ob (fun z => hb (by simp [z])) (fun z => hb (by simp [z])) q)) hf (Nat.le_refl _) new
    refine ⟨.ref s.heap.objs.size, _, I1, rfl, ⟨_, x, rfl, I.hok.fresh (Nat.le_refl _), rfl, fun ys hy2 => by rw [I.tuple_inj hy2 hq]; exact hx⟩, ⟨⟨y, ?_⟩, st'.1.at fun o q => (sb.2 it (Ne.symm hne)).trans q, hne, hai, hea⟩, fun b hb => ?_⟩
    · have e1 : ((i + 1 : Nat) : Int) = (i : Int) + 1 := by omega
      rw [e1]; exact he'
    · have hb' : b < s.heap.objs.size := by
        rcases List.mem_cons.mp hb with z | z
        · subst z; exact hel
        · obtain rfl := List.mem_singleton.mp z
          exact hil
      rw [upd_ne (Nat.ne_of_lt hb')]
      exact (hf b hb).1
  done := by
    intro X hP hw hK hc i pins s σ H E I hf st hg
    subst hP hw hK
    obtain ⟨⟨old, he⟩, hit, hne, hai, hea⟩ := st
    obtain ⟨xs, hq, hx⟩ := hg
    obtain ⟨its, rv, p, hz⟩ := I.tuple hq
    obtain ⟨f0, f1, f2, f3, f4, f5⟩ := hf it (by simp)
    have hl := rv.length
    have ei : i = its.toArray.size := by simp; omega
    subst ei
    exact wpAny_pyNext_enum_endD (Draws.tuple (A := X.A.in1) (I.ok.hd hc) it a hai its.toArray) he ⟨hit, p⟩ fun h' eb => ⟨rfl, I.turned (t' := s.toks) (fun b o hb q => eb b o hb q) f0 f1 f3 f4 f5⟩
  self := fun A i s Q E st h => let ⟨⟨_, he⟩, _⟩ := st; wpAny_pyIter_enum he h
def iEnT (K : PySem.W.Frag) (ta : TA) : TI := fun σ H R => ta σ H fun vs H1 => ∃ a xs, vs = [.ref a] ∧ SqT K H1 a xs ∧ R (ItT K a) H1
theorem pi_enT {X : Cx} {e : Expr} {ta : TA} {p pos tpos : Pos} {elts : List Expr} {kk : Nat} (hg : Gl X "enumerate") (hm : X.mg "enumerate" = none) (ha : PA X [e] ta) (hs : starEach [e] X.env = [(false, eval e X.env)] := by rfl) :
    PI X (.Tuple elts kk tpos) (.Call (.Name "enumerate" p) [e] [] pos) (iEnT X.K ta) := by
  constructor
  intro pins s σ H R I h
  refine Call_ (ld_blt I hg hm boot_enumerate (PyProof.Rows.callWith_type1 (thn (ha.run pos pins s σ H _ I h) ?_) hs rfl))
  rintro us s1 ⟨vs, H1, I1, r1, a, xs, rfl, hq, q⟩
  cases r1 with
  | cons r rr =>
    cases rr; cases r
    obtain ⟨its, rv, p', hz⟩ := I1.tuple hq
    have hal : a < s1.heap.objs.size := by obtain ⟨o, ho, _⟩ := p'; exact Heap.lt_size ho
    refine enum_call1 (begins_tuple a its.toArray) p' fun h' he hit hk => wpAny_pyIter_enum he ?_
    refine ⟨s1.heap.objs.size + 1, [s1.heap.objs.size + 1, s1.heap.objs.size], _, _, H1, rfl, I1.kept (t' := s1.toks) hk, turn_eT a (s1.heap.objs.size + 1) s1.heap.objs.size, ⟨⟨.none, he⟩, ⟨_, hit, rfl, rfl⟩, Nat.succ_ne_self _, Nat.ne_of_lt hal, fun z => ?_⟩, fun b hb => ?_, q⟩
    · exact absurd hal (by rw [← z]; exact Nat.not_lt.mpr (Nat.le_succ _))
    · have hle : s1.heap.objs.size ≤ b := by
        rcases List.mem_cons.mp hb with z | z
        · rw [z]; exact Nat.le_succ _
        · rw [List.mem_singleton.mp z]; exact Nat.le_refl _
      exact Inv.fpOk (I1.kept (t' := s1.toks) (h' := s1.heap) fun b o z => z) hle (I1.hok.fresh hle)
/-! ### the two as sources, pairs as targets -/
def enD (ds : List D) : List D := (List.range ds.length).map fun i => D.tup [.int (i : Nat), ds.getD i .non]
theorem enD_len (ds : List D) : (enD ds).length = ds.length := by unfold enD; simp
theorem enD_at {ds : List D} {i : Nat} {d : D} (h : (enD ds)[i]? = some d) : i < ds.length ∧ ∃ x, ds[i]? = some x ∧ d = .tup [.int (i : Nat), x] := by
  unfold enD at h
  rw [List.getElem?_map] at h
  by_cases q : i < ds.length
  · rw [List.getElem?_range q] at h
    refine ⟨q, ds[i], by simp [q], ?_⟩
    simp [q] at h
    exact h.symm
  · rw [List.getElem?_eq_none (by simpa using Nat.le_of_not_lt q)] at h
    cases h
section
variable {X : Cx} {γ : List Sl} {e a b : Expr} {es : List Expr} {d x y : D} {ds : List D} {pos pn tpos : Pos} {elts : List Expr} {kk : Nat}
theorem feeds_eT {K : PySem.W.Frag} {Hs : Hp} {l : Addr} {vs : List V} (h1 : SqT K Hs l vs) (r : Reps K Hs vs ds) : Feeds K (ItT K l) (enD ds) Hs := fun Hs' H' s1 s2 => by
  have q := sqT_mono (s1.trans s2) h1
  refine ⟨fun i d hd => ?_, vs, q, by rw [enD_len]; exact r.length⟩
  obtain ⟨hi, x, hx, rfl⟩ := enD_at hd
  obtain ⟨v, hv, rv⟩ := r.get hx
  refine ⟨⟨vs, v, q, hv⟩, fun u H'' z => ?_⟩
  obtain ⟨T, w, rfl, hT, rfl, hw⟩ := z
  have e2 := hw vs q
  rw [hv] at e2
  cases e2
  have g := Gr.new s2 hT (o := .tup [.int (i : Nat), v])
  exact ⟨_, g, .tup (SqT.of upd_same) (.cons (.int _) (.cons ((rv.mono s1).mono g.sh) .nil))⟩
theorem feeds_eL {K : PySem.W.Frag} {Hs : Hp} {l : Addr} {vs : List V} (h1 : SqL K Hs l vs) (r : Reps K Hs vs ds) : Feeds K (Ite K l) (enD ds) Hs := fun Hs' H' s1 s2 => by
  have q := sqL_mono (s1.trans s2) h1
  refine ⟨fun i d hd => ?_, vs, q, Nat.le_of_eq (by rw [enD_len]; exact r.length)⟩
  obtain ⟨hi, x, hx, rfl⟩ := enD_at hd
  obtain ⟨v, hv, rv⟩ := r.get hx
  refine ⟨⟨vs, v, q, hv⟩, fun u H'' z => ?_⟩
  obtain ⟨T, w, rfl, hT, rfl, hw⟩ := z
  have e2 := hw vs q
  rw [hv] at e2
  cases e2
  have g := Gr.new s2 hT (o := .tup [.int (i : Nat), v])
  exact ⟨_, g, .tup (SqT.of upd_same) (.cons (.int _) (.cons ((rv.mono s1).mono g.sh) .nil))⟩
theorem it_enL (h : PD X γ e (.lst ds)) (hm : X.mg "enumerate" = none) (hg : Gl X "enumerate" := by rfl) (hs : starEach [e] X.env = [(false, eval e X.env)] := by rfl) : PDIt X γ (.Tuple elts kk tpos) (.Call (.Name "enumerate" pn) [e] [] pos) (enD ds) :=
  ⟨iEnum X.K (wA X [e]), pi_enum hg hm (wA_ok _) hs, fun σ Hs H R s E k => pa_cons h pa_nil hs σ Hs H _ s E fun vs Hs' H' g r => by
    cases r with
    | cons r1 rn =>
      cases rn
      cases r1 with
      | lst h1 r1 => exact ⟨_, _, rfl, SqL.of (g.sub _ _ h1), k _ Hs' H' g (feeds_eL (SqL.of h1) r1)⟩⟩
theorem it_enT (h : PD X γ e (.tup ds)) (hm : X.mg "enumerate" = none) (hg : Gl X "enumerate" := by rfl) (hs : starEach [e] X.env = [(false, eval e X.env)] := by rfl) : PDIt X γ (.Tuple elts kk tpos) (.Call (.Name "enumerate" pn) [e] [] pos) (enD ds) :=
  ⟨iEnT X.K (wA X [e]), pi_enT hg hm (wA_ok _) hs, fun σ Hs H R s E k => pa_cons h pa_nil hs σ Hs H _ s E fun vs Hs' H' g r => by
    cases r with
    | cons r1 rn =>
      cases rn
      cases r1 with
      | tup h1 r1 => exact ⟨_, _, rfl, sqT_mono g.sub h1, k _ Hs' H' g (feeds_eT h1 r1)⟩⟩
/-- a, b = a pair -/
theorem pg_tup2 {t1 t2 : Expr} {γ1 γ2 : List Sl} {j1 j2 : List Nat} (h1 : PDG X γ t1 x γ1 j1) (h2 : PDG X γ1 t2 y γ2 j2) (hc : X.calm = true := by rfl) (hn : (assignEach [t1, t2] X.env).length = 2 := by rfl) (hst : (assignEach [t1, t2] X.env).findIdx? (·.1) = none := by rfl)
    (hs1 : (assignEach [t1, t2] X.env).map (·.2) = assign t1 X.env :: (assignEach [t2] X.env).map (·.2) := by rfl) (hs2 : (assignEach [t2] X.env).map (·.2) = assign t2 X.env :: (assignEach [] X.env).map (·.2) := by rfl) :
    PDG X γ (.Tuple [t1, t2] kk tpos) (.tup [x, y]) γ2 (j1 ++ j2) := fun Hs0 H0 Hr Hs H σ v Q t r k => by
  refine wG_of (pg_tup hc (pgs_cons (wG_ok t1) (pgs_cons (wG_ok t2) pgs_nil hs2) hs1) hn hst) ?_
  cases r with
  | tup q r =>
    cases r with
    | @cons u1 _ _ _ r1 rn =>
      cases rn with
      | @cons u2 _ _ _ r2 rn =>
        cases rn
        refine ⟨_, [u1, u2], rfl, sqT_mono t.sub q, rfl, u1, [u2], rfl, h1 Hs0 H0 Hr Hs H σ u1 _ t r1 fun σ1 Hs1 H1 t1 g1 l1 o1 => ?_⟩
        refine ⟨u2, [], rfl, h2 Hs0 H0 Hr Hs1 H1 σ1 u2 _ t1 (r2.mono g1.sh) fun σ2 Hs2 H2 t2 g2 l2 o2 => ?_⟩
        exact ⟨rfl, k σ2 Hs2 H2 t2 (g1.trans g2) (l2.trans l1) fun i hi => by
          rw [o2 i (fun z => hi (List.mem_append_right _ z)), o1 i (fun z => hi (List.mem_append_left _ z))]⟩
end
end Pd
end

section
set_option autoImplicit false
set_option Elab.async false
set_option linter.all false
set_option maxRecDepth 100000
set_option maxHeartbeats 4000000
namespace Pd
open PySem PySem.Spec PyProof.Rows L2
/-! ### len(set(t)), t a tuple of ints -/
/-- how many numbers are in the list, each once -/
def kinds : List Int → List Int
  | [] => []
  | a :: r => if a ∈ r then kinds r else a :: kinds r
theorem kinds_mem : ∀ {l : List Int} {x : Int}, x ∈ kinds l ↔ x ∈ l
  | [], x => Iff.rfl
  | a :: r, x => by
    unfold kinds
    by_cases h : a ∈ r
    · rw [if_pos h, kinds_mem, List.mem_cons]
      exact ⟨Or.inr, fun z => z.elim (fun e => by rw [e]; exact h) id⟩
    · rw [if_neg h, List.mem_cons, List.mem_cons, kinds_mem]
theorem kinds_nd : ∀ l : List Int, (kinds l).Nodup
  | [] => List.nodup_nil
  | a :: r => by
    unfold kinds
    by_cases h : a ∈ r
    · rw [if_pos h]; exact kinds_nd r
    · rw [if_neg h]; exact List.nodup_cons.mpr ⟨fun z => h (kinds_mem.mp z), kinds_nd r⟩
theorem nd_le : ∀ {a b : List Int}, a.Nodup → (∀ x ∈ a, x ∈ b) → a.length ≤ b.length
  | [], b, _, _ => Nat.zero_le _
  | x :: r, b, n, h => by
    obtain ⟨n1, n2⟩ := List.nodup_cons.mp n
    have hx := h x List.mem_cons_self
    have q := nd_le (a := r) (b := b.erase x) n2 fun y hy => (List.mem_erase_of_ne (fun z => n1 (by rw [← z]; exact hy))).mpr (h y (List.mem_cons_of_mem _ hy))
    rw [List.length_erase_of_mem hx] at q
    have := List.length_pos_of_mem hx
    rw [List.length_cons]; omega
theorem nd_eq {a b : List Int} (h1 : a.Nodup) (h2 : b.Nodup) (h : ∀ x, x ∈ a ↔ x ∈ b) : a.length = b.length := Nat.le_antisymm (nd_le h1 fun x hx => (h x).mp hx) (nd_le h2 fun x hx => (h x).mpr hx)
def tLS (K : PySem.W.Frag) (ta : TE) : TE := fun σ H Q => ta σ H fun x H1 => ∃ (l : Addr) (ns : List Int), x = V.ref l ∧ SqT K H1 l (ns.map V.int) ∧ ns.length ≤ 4000 ∧ Q (.int (kinds ns).length) H1
theorem pe_lenS {X : Cx} {a : Expr} {ta : TE} {p p2 q pos : Pos} (hg : Gl X "len") (hm : X.mg "len" = none) (hg2 : Gl X "set") (hm2 : X.mg "set" = none) (ha : PE X a ta) (hc : X.calm = true := by rfl)
    (na : starEach [a] X.env = (false, eval a X.env) :: starEach [] X.env := by rfl) : PE X (.Call (.Name "len" p) [.Call (.Name "set" p2) [a] [] q] [] pos) (tLS X.K ta) := by
  refine ⟨fun pins s σ H Q I h => Call_ (ld_blt I hg hm boot_len (PyProof.Rows.callWith_builtin1 (PyProof.Rows.args_cons (Call_ (ld_blt I hg2 hm2 boot_set (PyProof.Rows.callWith_type1 (PyProof.Rows.args_cons (thn (ha.run pins s σ H _ I h) ?_) na) na rfl))) rfl) rfl rfl))⟩
  rintro v s1 ⟨x, H1, I1, r1, l, ns, rfl, hq, hl, q1⟩
  cases r1
  obtain ⟨its, r, pl, hz⟩ := I1.tuple hq
  refine PyProof.Rows.args_nil (call_set_tupI ns (I1.ok.hd hc) pl (by simpa using intsAre_of r) (by unfold scanBound; omega) fun h' tk c hS hcn hk => PyProof.Rows.args_nil ?_)
  obtain ⟨o, es, ep, t, ho, hex, hd, _, hnd, hmem, _, hf, hn, _⟩ := hS
  have I2 : Inv X pins σ H1 { s1 with heap := h', toks := tk } := I1.kept hk
  have e : es.size = (kinds ns).length := by
    have z := nd_eq hnd (kinds_nd ns) fun x => by
      rw [kinds_mem, ← hmem x]
      exact decide_eq_true_iff
    rw [← z, List.length_map, Array.length_toList]
  exact call_len_set ho hex hd hf (by rw [hn]; omega) ⟨.int (kinds ns).length, H1, I2.tok _, ⟨_, by rw [e]⟩, q1⟩
theorem pd_lenS2 {X : Cx} {γ : List Sl} {a : Expr} {ns : List Int} {p p2 q pos : Pos} (h : PD X γ a (.tup (ns.map .int))) (hz : ns.length ≤ 4000) (hm : X.mg "len" = none) (hm2 : X.mg "set" = none) (hg : Gl X "len" := by rfl) (hg2 : Gl X "set" := by rfl) (hc : X.calm = true := by rfl)
    (na : starEach [a] X.env = (false, eval a X.env) :: starEach [] X.env := by rfl) : PD X γ (.Call (.Name "len" p) [.Call (.Name "set" p2) [a] [] q] [] pos) (.int ((kinds ns).length : Nat)) := fun σ Hs H Q s E kk =>
  wE_of (pe_lenS hg hm hg2 hm2 (wE_ok a) hc na) (h σ Hs H _ s E fun v Hs' H' g r => by
    cases r with
    | tup h1 r1 =>
      have ev := r1.ints
      subst ev
      exact ⟨_, ns, rfl, sqT_mono g.sub h1, hz, kk _ Hs' H' g (.int _)⟩)
section
variable {X : Cx} {γ : List Sl} {e : Expr} {x : D} {ds : List D} {pos pn tpos : Pos} {elts : List Expr} {kk : Nat}
theorem it_en (h : PD X γ e x) (hx : x = .lst ds ∨ x = .tup ds) (hm : X.mg "enumerate" = none) (hg : Gl X "enumerate" := by rfl) (hs : starEach [e] X.env = [(false, eval e X.env)] := by rfl) : PDIt X γ (.Tuple elts kk tpos) (.Call (.Name "enumerate" pn) [e] [] pos) (enD ds) := by
  rcases hx with rfl | rfl
  · exact it_enL h hm hg hs
  · exact it_enT h hm hg hs
theorem pd_tupleX (h : PD X γ e x) (hx : x = .lst ds ∨ x = .tup ds) (hm : X.mg "tuple" = none) (hg : Gl X "tuple" := by rfl) (he : starEach [e] X.env = (false, eval e X.env) :: starEach [] X.env := by rfl) : PD X γ (.Call (.Name "tuple" pn) [e] [] pos) (.tup ds) := by
  rcases hx with rfl | rfl
  · exact pd_tupleL h hm hg he
  · exact pd_tupleT h hm hg he
theorem len_x (hx : x = .lst ds ∨ x = .tup ds) {n : Nat} (hn : n = ds.length) : (∃ ds, x = .lst ds ∧ n = ds.length) ∨ (∃ ds, x = .rol ds ∧ n = ds.length) ∨ (∃ ds, x = .tup ds ∧ n = ds.length) := by
  rcases hx with rfl | rfl
  · exact .inl ⟨_, rfl, hn⟩
  · exact .inr (.inr ⟨_, rfl, hn⟩)
end
end Pd
end

section
set_option autoImplicit false
set_option Elab.async false
set_option linter.all false
set_option maxRecDepth 100000
set_option maxHeartbeats 4000000
namespace Pd
open PySem PySem.Spec PyProof.Rows L2
/-! ### methods of a thing's class -/
structure DM (P : Program) (w : World) (K : PySem.W.Frag) (mg : Str → Option Value) (base : Heap) (k : Nat) (C : Addr) (m : Str) (sp : Sp) : Prop where
  ex : ∃ f fd ps, FnOk P w K mg base CX0 k f fd ps sp ∧ Meth K C m f ∧ Binds K fd ps []
structure DMX (P : Program) (w : World) (K : PySem.W.Frag) (mg : Str → Option Value) (base : Heap) (k : Nat) (C : Addr) (m : Str) (sp : Sp) : Prop where
  ex : ∃ f fd ps, FnOk P w K mg base (L2.CX P w) k f fd ps sp ∧ Meth K C m f ∧ Binds K fd ps []
section
variable {X : Cx} {γ : List Sl} {o e : Expr} {es : List Expr} {d : D} {ds zs : List D} {pos pn apos : Pos} {k : Nat} {m : Str} {C CE : Addr} {fs gs : List (Str × D)} {pl : Sem Bool}
theorem rep_obj {K : PySem.W.Frag} {Hs : Hp} {v : V} (r : Rep K Hs v (.obj C fs)) (hn : fs.lookup m = none) : ∃ a dx vs, v = .ref a ∧ Hs a = some (.ins C dx vs) ∧ vs.lookup m = none := by
  cases r with
  | obj h1 r1 => exact ⟨_, _, _, rfl, h1, r1.none_of hn⟩
theorem pd_m0 {G : List D → D → Prop} (F : DM X.prog X.w X.K X.mg X.base k C m (spD X.K G)) (cl : Cls X.K C) (hr : Room k X.A) (h : PD X γ o (.obj C fs)) (hG : G [.obj C fs] d) (hn : fs.lookup m = none := by rfl)
    (ht : eval (.Call (.Attribute o m apos) [] [] pos) X.env = (do
      let ov ← eval o X.env
      standAt apos.atName
      let (f, first) ← holding [ov] (getMethod ov m pl)
      callWith pos f first (backTo pos (starEach [] X.env)) (backToKw pos (keywordEach [] X.env))) := by rfl) : PD X γ (.Call (.Attribute o m apos) [] [] pos) d := fun σ Hs H Q s E kk => by
  obtain ⟨f, fd, ps, a, b, c⟩ := F.ex
  refine wE_of (pe_meth0 (wE_ok o) cl b a hr c .nil pass0 ht) (h σ Hs H _ s E fun v Hs' H' g r => ?_)
  obtain ⟨p, dx, vs, rfl, h1, h2⟩ := rep_obj r hn
  exact ⟨p, dx, vs, rfl, g.sub _ _ h1, h2, ⟨Hs', _, d, g.sub, .cons r .nil, hG, fun v Hs2 H2 g2 r2 => kk v Hs2 H2 (g.trans g2) r2⟩⟩
theorem pn_m0 {G : List D → List D → Prop} (F : DM X.prog X.w X.K X.mg X.base k C m (spN X.K G)) (cl : Cls X.K C) (hr : Room k X.A) (h : PD X γ o (.obj C fs)) (hG : G [.obj C fs] zs) (hn : fs.lookup m = none := by rfl)
    (ht : eval (.Call (.Attribute o m apos) [] [] pos) X.env = (do
      let ov ← eval o X.env
      standAt apos.atName
      let (f, first) ← holding [ov] (getMethod ov m pl)
      callWith pos f first (backTo pos (starEach [] X.env)) (backToKw pos (keywordEach [] X.env))) := by rfl) : PN X γ (.Call (.Attribute o m apos) [] [] pos) zs := fun σ Hs H Q s E kk => by
  obtain ⟨f, fd, ps, a, b, c⟩ := F.ex
  refine wE_of (pe_meth0 (wE_ok o) cl b a hr c .nil pass0 ht) (h σ Hs H _ s E fun v Hs' H' g r => ?_)
  obtain ⟨p, dx, vs, rfl, h1, h2⟩ := rep_obj r hn
  exact ⟨p, dx, vs, rfl, g.sub _ _ h1, h2, ⟨Hs', _, zs, g.sub, .cons r .nil, hG, fun l us Hs2 H2 g2 q1 q2 q3 r2 => kk l us Hs2 H2 (g.trans g2) (g.ext.free q1) q2 q3 r2⟩⟩
theorem pd_m {G : List D → D → Prop} (F : DM X.prog X.w X.K X.mg X.base k C m (spD X.K G)) (cl : Cls X.K C) (hr : Room k X.A) (h : PD X γ o (.obj C fs)) (ha : PDA X γ (e :: es) ds) (hG : G (.obj C fs :: ds) d) (hn : fs.lookup m = none := by rfl)
    (hst : starEach (e :: es) X.env = (false, eval e X.env) :: starEach es X.env := by rfl) (hpl : (backTo pos (starEach es X.env)).any (·.1) = false := by rfl)
    (ht : eval (.Call (.Attribute o m apos) (e :: es) [] pos) X.env = (do
      let ov ← eval o X.env
      standAt apos.atName
      let (f, first) ← holding [ov] (getMethod ov m pl)
      callWith pos f first (backTo pos (starEach (e :: es) X.env)) (backToKw pos (keywordEach [] X.env))) := by rfl) : PD X γ (.Call (.Attribute o m apos) (e :: es) [] pos) d := fun σ Hs H Q s E kk => by
  obtain ⟨f, fd, ps, a, b, c⟩ := F.ex
  refine wE_of (pe_meth (wE_ok o) cl b a hr c .nil pass0 (wA_ok _) hst hpl ht) (h σ Hs H _ s E fun v Hs' H' g r => ?_)
  obtain ⟨p, dx, vs, rfl, h1, h2⟩ := rep_obj r hn
  refine ⟨p, dx, vs, rfl, g.sub _ _ h1, h2, ha σ Hs' H' _ g.sub (E.mono g.sh) fun us Hs2 H2 g2 r2 => ?_⟩
  rw [List.append_nil]
  exact ⟨Hs2, _, d, g2.sub, .cons (r.mono g2.sh) r2, hG, fun v Hs3 H3 g3 r3 => kk v Hs3 H3 ((g.trans g2).trans g3) r3⟩
end
/-! ### texts: order, ord, their signs -/
section
variable {X : Cx} {γ : List Sl} {e a b : Expr} {es : List Expr} {d x y : D} {ds : List D} {pos pn : Pos} {u v : Str}
def leS (u v : Str) : Bool := !decide (v.cps.toList < u.cps.toList)
theorem rd_leS {K : PySem.W.Frag} : RVD K (fun x y H Q => ∃ i j : Str, x = .str i ∧ y = .str j ∧ Q (.bl (!decide (j.cps.toList < i.cps.toList))) H) (.str u) (.str v) (.bl (leS u v)) := fun Hs H _ _ Q s r1 r2 k => by
  cases r1; cases r2
  exact ⟨u, v, rfl, rfl, k _ _ _ (Gr.refl s) (.bl _)⟩
theorem pd_ord (h : PD X γ e (.str u)) (h1 : u.length = 1) (hm : X.mg "ord" = none) (hg : Gl X "ord" := by rfl) (he : starEach [e] X.env = (false, eval e X.env) :: starEach [] X.env := by rfl) : PD X γ (.Call (.Name "ord" pn) [e] [] pos) (.int (u.cps.getD 0 0 : Nat)) :=
  pd_cb call_ord (rc_one fun Hs H v Q s r k => by
    cases r
    exact ⟨_, rfl, h1, k _ Hs H (Gr.refl s) (.int _)⟩) hg hm (by decide +kernel) (pa_cons h pa_nil he) (by decide) (by decide) he rfl
def sgn (u : Str) : List D := u.cps.toList.map fun c => D.str ⟨#[c]⟩
theorem sgn_at {u : Str} {i : Nat} {d : D} (h : (sgn u)[i]? = some d) : ∃ c, u.cps[i]? = some c ∧ d = .str ⟨#[c]⟩ := by
  unfold sgn at h
  rw [List.getElem?_map] at h
  cases e : u.cps.toList[i]? with
  | none => rw [e] at h; cases h
  | some c =>
    rw [e] at h
    exact ⟨c, by rw [← Array.getElem?_toList]; exact e, (Option.some.inj h).symm⟩
theorem it_s (h : PD X γ e (.str u)) : PDI X γ e (sgn u) := ⟨iStr (wE X e), fun tg => pi_str (wE_ok e), fun σ Hs H R s E k => h σ Hs H _ s E fun v Hs' H' g r => by
  cases r
  refine ⟨u, rfl, k _ Hs' H' g fun Hs2 H2 s1 s2 => ⟨fun i d hd => ?_, ?_⟩⟩
  · obtain ⟨c, hc, rfl⟩ := sgn_at hd
    refine ⟨(Array.getElem?_eq_some_iff.mp hc).1, fun w H3 z => ?_⟩
    obtain ⟨rfl, c2, hc2, rfl⟩ := z
    rw [hc] at hc2
    cases hc2
    exact ⟨Hs2, Gr.refl s2, .str _⟩
  · show u.cps.size ≤ (sgn u).length
    unfold sgn
    rw [List.length_map, Array.length_toList]
    exact Nat.le_refl _⟩
/-! ### a list as a test, tuple(range(n)) -/
theorem pt_lst (h : PD X γ e (.lst ds)) (he : ∀ whole, isTrue e X.env whole = (do let v ← whole; standAt e.pos; holding [v] (truthy v)) := by intro _; rfl) : PDT X γ e (!ds.isEmpty) := fun σ Hs H Q s E k =>
  wT_of (L2.pt_truth (wE_ok e) he) (h σ Hs H _ s E fun v Hs' H' g r => by
    cases r with
    | @lst a vs _ h1 r1 =>
      refine ⟨!ds.isEmpty, .inl ⟨vs, .inl (.inl (g.sub _ _ h1)), ?_⟩, k Hs' H' g⟩
      have := r1.length
      cases vs <;> cases ds <;> first | rfl | simp at this)
theorem reps_rg {K : PySem.W.Frag} {H : Hp} (a b : Int) : Reps K H (rgV a b) (rngD a (b - a).toNat) := by
  unfold rgV rngD
  generalize List.range (b - a).toNat = l
  induction l with
  | nil => exact .nil
  | cons x r ih => exact .cons (.int _) ih
theorem pd_tupRg {i : Int} {p2 p3 : Pos} (h : PD X γ a (.int i)) (h0 : 0 ≤ i) (h1 : i ≤ 1000000) (hm : X.mg "tuple" = none) (hm2 : X.mg "range" = none) (hg : Gl X "tuple" := by rfl) (hg2 : Gl X "range" := by rfl) (na : starEach [a] X.env = (false, eval a X.env) :: starEach [] X.env := by rfl) (hc : X.calm = true := by rfl)
    (nb : starEach [.Call (.Name "range" p2) [a] [] pn] X.env = (false, eval (.Call (.Name "range" p2) [a] [] pn) X.env) :: starEach [] X.env := by rfl) : PD X γ (.Call (.Name "tuple" p3) [.Call (.Name "range" p2) [a] [] pn] [] pos) (.tup (rngD 0 i.toNat)) := fun σ Hs H Q s E kk =>
  wE_of (pe_tupRg hc hg hm (prg_1 hg2 hm2 (wE_ok a) na) nb) (h σ Hs H _ s E fun v Hs' H' g r => by
    cases r
    refine ⟨i, rfl, RgOk.of_le (by decide) (by omega) (by decide) h0, ?_⟩
    have rr := reps_rg (K := X.K) (H := Hs') 0 i
    rw [show (i - 0).toNat = i.toNat by rw [Int.sub_zero]] at rr
    exact newT g.sub rr fun w Hs2 H2 g2 r2 => kk w Hs2 H2 (g.trans g2) r2)
end
end Pd
end

section
set_option autoImplicit false
set_option Elab.async false
set_option linter.all false
set_option maxRecDepth 100000
set_option maxHeartbeats 4000000
namespace Pd
open PySem PySem.Spec PyProof.Rows L2
/-! ### any slice, any sum of tuples -/
section
variable {X : Cx} {γ : List Sl} {a b : Expr} {ds es : List D} {pos p2 : Pos} {lo hi : Option Expr} {ol oh : Option Int}
theorem cut_whole {ds : List D} (h : HT.sIx ds.length 0 ol = 0 ∧ HT.sIx ds.length ds.length oh = ds.length) : Pd.cutD ds ol oh = ds := by
  unfold Pd.cutD
  rw [h.1, h.2, List.drop_zero, Nat.sub_zero, List.take_length]
theorem pd_slA (ha : PD X γ a (.tup ds)) (hl : PDO X γ lo ol) (hh : PDO X γ hi oh) : PD X γ (.Subscript a (.Slice lo hi none p2) pos) (.tup (Pd.cutD ds ol oh)) := fun σ Hs H Q s E k =>
  wE_of (pe_slice sl_tupA (wE_ok a) (tO_ok lo) (tO_ok hi)) (ha σ Hs H _ s E fun v Hs1 H1 g1 r1 => po_go hl g1.sub (E.mono g1.sh) fun Hs2 H2 g2 => po_go hh g2.sub (E.mono (g1.trans g2).sh) fun Hs3 H3 g3 => by
    cases r1 with
    | tup h1 r1 =>
      have s3 := g2.sh.trans g3.sh
      have g := (g1.trans g2).trans g3
      refine ⟨_, _, rfl, sqT_mono (s3.trans g3.sub) h1, fun hw => ?_, fun _ => newT g3.sub ((r1.mono s3).cut ol oh) fun w Hs4 H4 g4 r4 => k w Hs4 H4 (g.trans g4) r4⟩
      rw [r1.length] at hw
      exact k _ Hs3 H3 g (by rw [cut_whole hw]; exact .tup (sqT_mono s3 h1) (r1.mono s3)))
theorem reps_nil {K : PySem.W.Frag} {H : Hp} {vs : List V} {ds : List D} (r : Reps K H vs ds) : vs = [] ↔ ds = [] := by
  cases r <;> simp
theorem pd_catA (ha : PD X γ a (.tup ds)) (hb : PD X γ b (.tup es)) (hz : ds.length + es.length ≤ 100000) : PD X γ (.BinOp a .Add b pos) (.tup (ds ++ es)) :=
  pd_op op_catA (fun Hs H v u Q s r1 r2 k => by
    cases r1 with
    | tup t1 r1 =>
      cases r2 with
      | tup t2 r2 =>
        refine ⟨_, _, _, _, rfl, rfl, sqT_mono s t1, sqT_mono s t2, sz_of (by rw [r1.length, r2.length]; exact hz), fun z => ?_, fun _ z => ?_, fun _ _ => newT s (r1.append r2) k⟩
        · have e := (reps_nil r1).mp z
          subst e
          exact k _ _ _ (Gr.refl s) (.tup t2 r2)
        · have e := (reps_nil r2).mp z
          subst e
          exact k _ _ _ (Gr.refl s) (by rw [List.append_nil]; exact .tup t1 r1)) ha hb
end
end Pd
end

section
set_option autoImplicit false
set_option Elab.async false
set_option linter.all false
set_option maxRecDepth 100000
set_option maxHeartbeats 4000000
namespace Pd
open PySem PySem.Spec PyProof.Rows L2
/-! ### t[::-1] -/
theorem adj_rev (n : Nat) : Builtin.Slice.sliceAdjust none none (-1) (n : Int) = ((n : Int) - 1, -1) := by
  unfold Builtin.Slice.sliceAdjust
  simp
theorem pl_rev (n : Nat) : Builtin.Slice.slicePlaces ((n : Int) - 1) (-1) (-1) = n := by
  unfold Builtin.Slice.slicePlaces
  simp
  split <;> omega
section
variable {prog : Program} {w : World} {A : Around} {E : Value → Shared → Prop} {s : Shared}
theorem sa_rev {sl : Addr} {vs : Value} {n : Nat} {Q : Int × Int × Nat → Shared → Prop} (hs : s.heap.IsSliceOf sl .none .none vs) (ps : IsPart vs (some (-1))) (h : Q ((n : Int) - 1, -1, n) s) : wpAny (model prog w) A (Builtin.Slice.sliceApplied (.ref sl) (pure (n : Int))) Q E s := by
  obtain ⟨os, hos, hcs, hds⟩ := id hs
  unfold Builtin.Slice.sliceApplied Builtin.Slice.sliceFields
  refine wpAny_bind (wpAny_bind (wpAny_field hos hds (x := .none) rfl (wpAny_bind (wpAny_field hos hds (x := .none) rfl (wpAny_bind (wpAny_field hos hds (x := vs) rfl (wpAny_pure ?_)))))))
  refine wpAny_bind (HT.slicePart_ ps ?_)
  show wpAny _ _ (if ((-1 : Int) == 0) = true then _ else _) _ _ s
  rw [if_neg (by decide)]
  refine wpAny_bind (HT.slicePart_ .none (wpAny_bind (HT.slicePart_ .none (wpAny_bind (wpAny_pure ?_)))))
  show wpAny _ _ (match Builtin.Slice.sliceAdjust none none (-1) (n : Int) with | (lo, hi) => pure (lo, (-1 : Int), Builtin.Slice.slicePlaces lo hi (-1))) _ _ s
  rw [adj_rev n]
  show wpAny _ _ (pure (((n : Int) - 1), (-1 : Int), Builtin.Slice.slicePlaces ((n : Int) - 1) (-1) (-1))) _ _ s
  rw [pl_rev]
  exact wpAny_pure h
theorem pick_rev (xs : Array Value) : ((List.range xs.size).filterMap fun (m : Nat) => xs[(((xs.size : Int) - 1) + (m : Int) * (-1)).toNat]?).toArray = xs.toList.reverse.toArray := by
  congr 1
  apply List.ext_getElem?
  intro i
  have key : ∀ l : List Nat, (∀ m ∈ l, m < xs.size) → (l.filterMap fun (m : Nat) => xs[(((xs.size : Int) - 1) + (m : Int) * (-1)).toNat]?) = l.map fun m => xs.toList.reverse.getD m .none := by
    intro l
    induction l with
    | nil => intro _; rfl
    | cons a r ih =>
      intro h
      have ha := h a List.mem_cons_self
      have e : (((xs.size : Int) - 1) + (a : Int) * (-1)).toNat = xs.size - 1 - a := by omega
      have hb : xs.size - 1 - a < xs.size := by omega
      rw [List.filterMap_cons, e, Array.getElem?_eq_getElem hb, List.map_cons, ih fun m hm => h m (List.mem_cons_of_mem _ hm)]
      congr 1
      rw [List.getD_eq_getElem?_getD, List.getElem?_reverse (by simpa using ha), Array.length_toList, Array.getElem?_toList, Array.getElem?_eq_getElem hb] <;> rfl
  rw [key _ fun m hm => List.mem_range.mp hm, List.getElem?_map]
  by_cases hi : i < xs.size
  · rw [List.getElem?_range hi]
    show some (xs.toList.reverse.getD i .none) = _
    rw [List.getD_eq_getElem?_getD, List.getElem?_eq_getElem (by simpa using hi)] <;> rfl
  · rw [List.getElem?_eq_none (by simpa using Nat.le_of_not_lt hi), List.getElem?_eq_none (by simpa using Nat.le_of_not_lt hi)] <;> rfl
theorem gi_rev {t sl : Addr} {items : Array Value} {vs : Value} {Q : Value → Shared → Prop} (ht : IsTup s.heap t items) (hs : s.heap.IsSliceOf sl .none .none vs) (ps : IsPart vs (some (-1)))
    (h : Q (.ref s.heap.objs.size) { s with heap := s.heap.push { cls := .type "tuple", data := .seq items.toList.reverse.toArray } }) (hz : items.size ≤ sizeLine) : wpAny (model prog w) A (getItem (.ref t) (.ref sl)) Q E s := by
  have hsz : sizeOk (.seq items.toList.reverse.toArray) := by
    show items.toList.reverse.toArray.size ≤ sizeLine
    rw [List.size_toArray, List.length_reverse, Array.length_toList]; exact hz
  obtain ⟨os, hos, hcs, hds⟩ := id hs
  have hTs : s.TypeIs (.ref sl) "slice" := ⟨os, hos, hcs⟩
  unfold getItem
  try with_reducible refine wpAny_holding ?_
  first | refine wpAny_bind (wpAny_pure ?_) | skip
  refine wpAny_bind (wpAny_sequenceKey ht.typeIs (by decide) (wpAny_bind (wpAny_callSpecial?_slot (name := Str.ofString "__getitem__") ht.typeIs PyProof.Rows.slot_tuple_getitem (wpAny_call_entry PyProof.Rows.slot_tuple_getitem ht.typeIs entry_tuple_getitem ?_ (args_tuple_getitem _ _)))))
  show wpAny _ _ (Builtin.Tuple.tupleItemsOf (.ref t) >>= _) _ _ s
  refine wpAny_bind (tupleItemsOf_ ht (wpAny_bind (wpAny_typeOf hTs ?_)))
  rw [if_pos (by decide)]; refine wpAny_bind (sa_rev hs ps ?_)
  have no : ¬ ((((items.size : Int) - 1) == 0 && (-1 : Int) == 1 && items.size == items.size) = true) := by
    rw [show ((-1 : Int) == 1) = false from by decide, Bool.and_false, Bool.false_and]; exact Bool.false_ne_true
  show wpAny _ _ (if (((items.size : Int) - 1) == 0 && (-1 : Int) == 1 && items.size == items.size) = true then _ else _) _ _ s
  rw [if_neg no, pick_rev items]
  first
    | exact wpAny_bind (m := Builtin.Tuple.tupleExact _) (wpAny_newObj_type (wpAny_pure ⟨_, rfl, wpAny_pure h⟩) hsz)
    | exact wpAny_bind (m := Builtin.Tuple.tupleExact _) (wpAny_newObj_type (wpAny_bind (wpAny_pure (wpAny_pure ⟨_, rfl, wpAny_pure h⟩))) hsz)
    | exact wpAny_bind (wpAny_bind (m := Builtin.Tuple.tupleExact _) (wpAny_newObj_type (wpAny_pure (wpAny_pure ⟨_, rfl, wpAny_pure h⟩)) hsz))
    | exact wpAny_bind (wpAny_bind (m := Builtin.Tuple.tupleExact _) (wpAny_newObj_type (wpAny_pure ⟨_, rfl, wpAny_pure h⟩) hsz))
end
def tRvT (K : PySem.W.Frag) (te : TE) : TE := fun σ H Q => te σ H fun x H1 => ∃ a xs, x = .ref a ∧ SqT K H1 a xs ∧ ∀ p, H1 p = none → Q (.ref p) (upd H1 p (.tup xs.reverse))
theorem pe_rvT {X : Cx} {e : Expr} {te : TE} {k : Nat} {p1 p2 p3 pos : Pos} (he : PE X e te) : PE X (.Subscript e (.Slice none none (some (.UnaryOp .USub (.Constant (.int 1) k p1) p2)) p3) pos) (tRvT X.K te) := by
  refine ⟨fun pins s σ H Q I h => Subscript_ (thn (he.run pins s σ H _ I h) ?_)⟩
  rintro v s1 ⟨x, H1, I1, r1, a, xs, rfl, hx, q⟩
  cases r1
  have hst : PO X (some (.UnaryOp .USub (.Constant (.int 1) k p1) p2)) (tPart (tUn (rU fun i => .int (-i)) (tC (.int 1)))) := po_some (pe_un un_neg pe_int)
  refine wpAny_Slice ?_
  rw [evalPart_none]
  refine wpAny_pure (wpAny_pure (thn (hst.run pins s1 σ H1 (fun o H4 => o = some (-1) ∧ H4 = H1) I1 ⟨1, rfl, -1, rfl, rfl, rfl⟩) ?_))
  rintro vs s4 ⟨o, H4, I4, ps, rfl, rfl⟩
  have I5 : Inv X pins σ H4 { s4 with heap := s4.heap.push { cls := .type "slice", data := .fields #[.none, .none, vs] } } := I4.kept (t' := s4.toks) fun b ob q => Heap.get?_push_of_some _ q
  obtain ⟨its, r, ht, hz⟩ := I5.tuple hx
  have hlen := r.length
  show wpAny (model X.prog X.w) X.A (subscriptTail e (.Slice none none (some (.UnaryOp .USub (.Constant (.int 1) k p1) p2)) p3) (.ref a) (.ref s4.heap.objs.size)) (EP X pins σ Q) X.xe { s4 with heap := s4.heap.push { cls := .type "slice", data := .fields #[.none, .none, vs] } }
  refine tail_any (ops := [.ref a, .ref s4.heap.objs.size]) ht.typeIs PyProof.Rows.slot_tuple_getitem.lookup (gi_rev ht (Heap.IsSliceOf.new _ .none .none vs) ps ?_ (by rw [List.size_toArray]; omega)) (by with_unfolding_all rfl)
  refine ⟨.ref _, _, I5.laid (t' := s4.toks) (o := .tup xs.reverse) (fun b ob q => Heap.get?_push_of_some _ q) (Nat.le_refl _) ?_, rfl, q _ (I5.hok.fresh (Nat.le_refl _))⟩
  refine ⟨by rw [List.length_reverse]; exact hz, its.reverse, r.reverse, ?_⟩
  exact IsTup.new _ _
theorem reps_rev {K : PySem.W.Frag} {H : Hp} : ∀ {vs : List V} {ds : List D}, Reps K H vs ds → Reps K H vs.reverse ds.reverse
  | _, _, .nil => .nil
  | v :: vs, d :: ds, .cons r t => by
    rw [List.reverse_cons, List.reverse_cons]
    exact (reps_rev t).append (.cons r .nil)
theorem pd_rvT {X : Cx} {γ : List Sl} {e : Expr} {ds : List D} {k : Nat} {p1 p2 p3 pos : Pos} (h : PD X γ e (.tup ds)) : PD X γ (.Subscript e (.Slice none none (some (.UnaryOp .USub (.Constant (.int 1) k p1) p2)) p3) pos) (.tup ds.reverse) := fun σ Hs H Q s E kk =>
  wE_of (pe_rvT (wE_ok e)) (h σ Hs H _ s E fun v Hs' H' g r => by
    cases r with
    | tup h1 r1 => exact ⟨_, _, rfl, sqT_mono g.sub h1, newT g.sub (reps_rev r1) fun w Hs2 H2 g2 r2 => kk w Hs2 H2 (g.trans g2) r2⟩)
end Pd
end

section
set_option autoImplicit false
set_option Elab.async false
set_option linter.all false
set_option maxRecDepth 100000
set_option maxHeartbeats 4000000
namespace Pd
open PySem PySem.Spec PyProof.Rows L2
/-! ### a class in a name of the def's own, called -/
section
variable {X : Cx} {γ : List Sl} {e : Expr} {es : List Expr} {d : D} {ds : List D} {pos pn : Pos} {k : Nat} {n : Str} {C CO : Addr} {fs : List (Str × D)}
theorem make_at0 {pins : List (Addr × Obj)} {σ : L2.St} {H : Hp} {s : Shared} {Q : VK} {us : List Value} {vs : List V} {fI : Addr} {fd : FuncData} {ps : List Str} {sp : Sp} (M : Mk X.K CO fI)
    (F : FnOk X.prog X.w X.K X.mg X.base CX0 k fI fd ps sp) (hr : Room (k + 1) X.A) (hb : Binds X.K fd ps []) (I : Inv X pins σ H s) (r : Vals vs us)
    (h : ∀ p dx, H p = none → H dx = none → dx ≠ p → sp (.ref p :: vs) (upd (upd H dx (.own p)) p (.ins CO dx [])) (fun v H2 => v = .non ∧ Q (.ref p) H2) (fun _ _ _ => False)) :
    wpAny (model X.prog X.w) X.A (call (.ref CO) us) (EP X pins σ Q) X.xe s := by
  let z := s.heap.objs.size
  have I2 := Inv.made (C := CO) I
  have hq := h (z + 1) z (I.hok.fresh (Nat.le_succ z)) (I.hok.fresh (Nat.le_refl z)) (Nat.ne_of_lt (Nat.lt_succ_self z))
  have rr : Vals (V.ref (z + 1) :: vs) (Value.ref (z + 1) :: us) := .cons rfl r
  have hl : (Value.ref (z + 1) :: us).length = ps.length := by
    have q := rr.length
    rw [F.len _ _ _ _ hq] at q
    exact q.symm
  have bd := hb _ (Value.ref (z + 1) :: us) I2.kIn (by rw [List.append_nil]; exact hl)
  rw [List.append_nil] at bd
  have run := F.run _ X.stack _ _ ⟨Value.ref (z + 1) :: us, []⟩ (Value.ref (z + 1) :: us) _ _ (fun _ _ _ => False) (hr.make CO us []) (I2.env0.make CO us []) bd rr hq
  refine wpAny_call (make_map (f := fI) I.kIn M.makes M.init (beq_iff_eq.mp M.fn) (codeAny_mono run fun res s' hq' => ?_))
  match res, hq' with
  | .error er, hq' => exact (pass0 (X := X)) pins σ _ _ er s' I2 hq'
  | .ok (.ret u), hq' =>
    obtain ⟨v, H', I3, rv, ev, q3⟩ := I2.after hq'
    subst ev
    exact ⟨rv, V.ref (z + 1), H', I3, rfl, q3⟩
  | .ok .next, hq' => exact hq'.elim
  | .ok .brk, hq' => exact hq'.elim
  | .ok .cont, hq' => exact hq'.elim
theorem pd_makeL {G : List D → List (Str × D) → Prop} (i : Nat) (F : DC X.prog X.w X.K X.mg X.base k n C G) {m : Str} (hs : γ[i]? = some (.sh (.adr C))) (hr : Room (k + 1) X.A) (ha : PDA X γ (e :: es) ds) (hG : G ds fs) (hN : X.N[i]? = some m := by rfl) (hv : Vis X.env.scope m := by first | exact Or.inl rfl | exact Or.inr (Or.inl rfl) | exact Or.inr (Or.inr rfl)) (hd : (m == ("__debug__" : Str)) = false := by decide) (hcd : (m == ("__classdict__" : Str)) = false := by decide)
    (he : starEach (e :: es) X.env = (false, eval e X.env) :: starEach es X.env := by rfl) (hpl : (backTo pos (starEach es X.env)).any (·.1) = false := by rfl) : PD X γ (.Call (.Name m pn) (e :: es) [] pos) (.obj C fs) := fun σ Hs H Q s E kk => by
  obtain ⟨f, fd, ps, a, b, c, dd⟩ := F.ex
  intro pins st I
  refine wpAny_Call_Name_kw (thn ((wE_ok (.Name m pn)).run pins st σ H _ I (pd_v (d := .adr C) i hs hN hv hd hcd σ Hs H (fun v H1 => v = .ref C ∧ ∃ Hs1, Gr Hs H Hs1 H1) s E fun v Hs1 H1 g r => ?_)) ?_)
  · cases r
    exact ⟨rfl, Hs1, g⟩
  rintro u s1 ⟨v, H1, I1, rv, rfl, Hs1, g1⟩
  cases rv
  refine PySem.W.callWith_K (h₀ := X.base) I1.ok.mod.kin c.kp (thn ((wA_ok (e :: es)).run pos pins s1 σ H1 _ I1 (ha σ Hs1 H1 (fun vs H2 => ∃ Hs2, Gr Hs1 H1 Hs2 H2 ∧ Reps X.K Hs2 vs ds) g1.sub (E.mono g1.sh) fun vs Hs2 H2 g r => ⟨Hs2, g, r⟩)) fun us s2 ⟨vs, H2, I2, r, Hs2, g2, r'⟩ => ⟨I2.kIn, ?_⟩) he hpl
  exact make_at0 c a hr dd I2 r fun p dx np ndx nex => ⟨Hs2, H2, p, dx, vs, ds, fs, rfl, rfl, np, ndx, nex, g2.sub, r', hG, fun Hs3 H3 dx' us' g3 h1 h2 r3 => ⟨rfl, by
    have s1 : Same Hs3 (upd Hs3 p (.ins C dx' us')) := fun x u e => by rw [upd_ne (ne_of_none e h1)]; exact e
    have g := g1.trans g2
    refine kk _ (upd Hs3 p (.ins C dx' us')) H3 ⟨g.sh.trans (g3.sh.trans s1), g.ext.trans g3.ext, fun x u e => ?_, fun x q1 q2 => ?_⟩ (.obj upd_same (r3.mono s1))
    · by_cases q : x = p
      · subst q; rw [upd_same] at e; rw [← e]; exact h2
      · rw [upd_ne q] at e; exact g3.sub x u e
    · have q1' : H2 x ≠ none := fun z => by
        cases hx : H x with
        | none => exact q1 hx
        | some o => rw [g.ext x o hx] at z; cases z
      have : x ≠ p := fun q => q1' (by rw [q]; exact np)
      rw [upd_ne this]
      exact g3.loc x q1' (g.loc x q1 q2)⟩⟩
end
end Pd
end

section
set_option autoImplicit false
set_option Elab.async false
set_option linter.all false
set_option maxRecDepth 100000
set_option maxHeartbeats 4000000
namespace Pd
open PySem PySem.Spec PyProof.Rows L2
/-! ### C.m(..), a class method -/
structure DCM (P : Program) (w : World) (K : PySem.W.Frag) (mg : Str → Option Value) (base : Heap) (k : Nat) (C : Addr) (m : Str) (sp : Sp) : Prop where
  ex : ∃ mc p f fd ps, FnOk P w K mg base CX0 k f fd ps sp ∧ ClX.CRead K C mc ∧ ClX.CMet K C mc m p f ∧ Binds K fd ps []
section
variable {X : Cx} {γ : List Sl} {o e : Expr} {es : List Expr} {d : D} {ds : List D} {pos apos : Pos} {k : Nat} {m : Str} {C : Addr} {pl : Sem Bool}
theorem pd_cm {G : List D → D → Prop} (F : DCM X.prog X.w X.K X.mg X.base k C m (spD X.K G)) (hr : Room k X.A) (h : PD X γ o (.adr C)) (ha : PDA X γ (e :: es) ds) (hG : G (.adr C :: ds) d)
    (hst : starEach (e :: es) X.env = (false, eval e X.env) :: starEach es X.env := by rfl) (hpl : (backTo pos (starEach es X.env)).any (·.1) = false := by rfl)
    (ht : eval (.Call (.Attribute o m apos) (e :: es) [] pos) X.env = (do
      let ov ← eval o X.env
      standAt apos.atName
      let (f, first) ← holding [ov] (getMethod ov m pl)
      callWith pos f first (backTo pos (starEach (e :: es) X.env)) (backToKw pos (keywordEach [] X.env))) := by rfl) : PD X γ (.Call (.Attribute o m apos) (e :: es) [] pos) d := fun σ Hs H Q s E kk => by
  obtain ⟨mc, p, f, fd, ps, a, b, c, bd⟩ := F.ex
  refine wE_of (ClX.pe_cmeth (wE_ok o) b c (FnOk.raw a bd .nil) hr pass0 (wA_ok _) hst hpl ht) (h σ Hs H _ s E fun v Hs' H' g r => ?_)
  cases r
  refine ⟨rfl, ha σ Hs' H' _ g.sub (E.mono g.sh) fun us Hs2 H2 g2 r2 => ?_⟩
  show spD X.K G ((V.ref C :: us) ++ []) H2 Q E0
  rw [List.append_nil]
  exact ⟨Hs2, _, d, g2.sub, .cons (.adr C) r2, hG, fun v Hs3 H3 g3 r3 => kk v Hs3 H3 ((g.trans g2).trans g3) r3⟩
/-- a class in a name of the def's own, its making raises -/
theorem px_makeL {G : List D → Addr → List (Str × D) → Prop} {CO : Addr} {fs : List (Str × D)} {n q : Str} {pn : Pos} (i : Nat) (F : DCX X.prog X.w X.K X.mg X.base k n CO G) (hs : γ[i]? = some (.sh (.adr CO))) (hr : Room (k + 1) X.A) (ha : PDA X γ (e :: es) ds) (hG : G ds C fs) (hN : X.N[i]? = some q := by rfl) (hv : Vis X.env.scope q := by first | exact Or.inl rfl | exact Or.inr (Or.inl rfl) | exact Or.inr (Or.inr rfl)) (hd : (q == ("__debug__" : Str)) = false := by decide) (hcd : (q == ("__classdict__" : Str)) = false := by decide)
    (he : starEach (e :: es) X.env = (false, eval e X.env) :: starEach es X.env := by rfl) (hpl : (backTo pos (starEach es X.env)).any (·.1) = false := by rfl) : PDX X γ (.Call (.Name q pn) (e :: es) [] pos) C fs := fun W tk σ Hs H Q s E kk => by
  obtain ⟨f, fd, ps, a, b, c, dd⟩ := F.ex
  intro pins st I
  refine wpAny_Call_Name_kw (thn ((wE_ok (.Name q pn)).run pins st σ H _ I (pd_v (d := .adr CO) i hs hN hv hd hcd σ Hs H (fun v H1 => v = .ref CO ∧ ∃ Hs1, Gr Hs H Hs1 H1) s E fun v Hs1 H1 g r => ?_)) ?_)
  · cases r
    exact ⟨rfl, Hs1, g⟩
  rintro u s1 ⟨v, H1, I1, rv, rfl, Hs1, g1⟩
  cases rv
  refine PySem.W.callWith_K (h₀ := X.base) I1.ok.mod.kin c.kp (thn ((wA_ok (e :: es)).run pos pins s1 σ H1 _ I1 (ha σ Hs1 H1 (fun vs H2 => ∃ Hs2, Gr Hs1 H1 Hs2 H2 ∧ Reps X.K Hs2 vs ds) g1.sub (E.mono g1.sh) fun vs Hs2 H2 g r => ⟨Hs2, g, r⟩)) fun us s2 ⟨vs, H2, I2, r, Hs2, g2, r'⟩ => ⟨I2.kIn, ?_⟩) he hpl
  exact make_at tk c a hr dd I2 r fun p dx np ndx nex => ⟨Hs2, H2, p, dx, vs, ds, C, fs, rfl, rfl, np, ndx, nex, g2.sub, r', hG, fun dd us Hs3 H3 g3 h1 h2 => kk dd us Hs3 H3 ((g1.trans g2).trans g3) h1 h2⟩
end
end Pd
end

section
set_option autoImplicit false
set_option Elab.async false
set_option linter.all false
set_option maxRecDepth 100000
set_option maxHeartbeats 4000000
namespace Ev
open PySem PySem.Spec PyProof.Rows L2 Pd

/-! ### the small language -/
inductive IK where
  | vl | rg | en | zp | rv
  deriving DecidableEq
inductive BI where
  | len | int | list | tuple | sum | min | max | ord | lset | trg | lrv | bool | abs | mind
  deriving DecidableEq
/-- methods of built-in types -/
inductive BM where
  | join | find | upper | count | index
  deriving DecidableEq
/-- a parameter's value: the j-th written, the j-th keyword's, a default -/
inductive PA where
  | pos (j : Nat) | kw (j : Nat) | dfl (d : D)
inductive IE where
  | cst (d : D)
  | loc (i : Nat)
  | glo (n : Nat)
  | kls (n : Nat)
  | bin (op : Operator) (a b : IE)
  | neg (a : IE)
  | not (a : IE)
  | and (a b : IE)
  | or (a b : IE)
  | ife (c a b : IE)
  | cmp (op : CmpOp) (a b : IE)
  | chn (op op' : CmpOp) (a b c : IE)
  | isc (neg : Bool) (a : IE) (d : D)
  | fn (f : Nat) (as : List IE)
  | fnk (f p : Nat) (as kvs : List IE)
  | mk (f p : Nat) (as kvs : List IE)
  | mth (o : IE) (m p : Nat) (as kvs : List IE)
  | cm (c m p : Nat) (as kvs : List IE)
  | lmk (i : Nat) (as : List IE)
  | bi (b : BI) (as : List IE)
  | bm (b : BM) (o : IE) (as : List IE)
  | ins (a : IE) (t : Nat)
  | inb (a : IE) (t : String)
  | att (o : IE) (f : Str)
  | exa (i : Nat) (f : Str)
  | exi (i : Nat) (t : Nat)
  | exb (i : Nat) (t : String)
  | con (c : Nat) (f : Str)
  | sub (a b : IE)
  | slc (a : IE) (lo hi : List IE)
  | rev (a : IE)
  | lst (es : List IE)
  | tup (es : List IE)
  | lc (elt : IE) (tg : List Nat) (k : IK) (its : List IE) (cond : List IE)
  | lc2 (elt : IE) (t1 : List Nat) (k1 : IK) (its1 : List IE) (t2 : List Nat) (k2 : IK) (its2 : List IE)
  | gcd (as : List IE)
  | lrg (as : List IE)
/-- how own lists are taken: not at all; viewed, what comes holds no list; viewed, what comes is a scalar; given away -/
inductive Vw where
  | pl | vw | vo | fz (us : List Nat)
inductive IS where
  | asg (v : Vw) (i : Nat) (e : IE)
  | asgs (v : Vw) (tg : List Nat) (e : IE)
  | seti (v : Vw) (i : Nat) (ix e : IE)
  | app (v : Vw) (i : Nat) (e : IE)
  | fld (v : Vw) (f : Str) (e : IE)
  | ret (v : Vw) (e : IE)
  | reto (i : Nat)
  | retN
  | ite (c : IE) (a b : List IS)
  | for (us : List Nat) (tg : List Nat) (k : IK) (its : List IE) (body : List IS)
  | raise (v : Vw) (C : Nat) (e : IE)
  | exp (v : Vw) (e : IE)
  | try (body : List IS) (C : Nat) (i : Nat) (suite : List IS)
  | pass
  | brk
  | cont

/-! ### what comes -/
inductive RR where
  | val (d : D) | new (ds : List D) | exc (C : Addr) (fs : List (Str × D))
def RR.and (r : Option RR) (f : D → Option RR) : Option RR := match r with
  | some (.val d) => f d
  | some (.new ds) => f (.lst ds)
  | some (.exc C fs) => some (.exc C fs)
  | none => none
def RR.d? : Option RR → Option D
  | some (.val d) => some d
  | some (.new ds) => some (.lst ds)
  | _ => none
/-- a slot -/
inductive S2 where
  | no | sh (d : D) | ow (ds : List D) | ob (C : Addr) (fs : List (Str × D)) | ex (C : Addr) (fs : List (Str × D))
/-- self's address; the caught error's -/
structure Pt where
  p : Addr
  a : Addr
  dd : Addr
def S2.sl (π : Pt) : S2 → Sl
  | .no => .no
  | .sh d => .sh d
  | .ow ds => .ow ds
  | .ob C fs => .ob π.p C fs
  | .ex C fs => .sh (.exc π.a π.dd fs)
def S2.vwL : S2 → S2
  | .ow ds => .sh (.lst ds)
  | .ob _ _ => .no
  | s => s
def S2.vwO : S2 → S2
  | .ow ds => .sh (.lst ds)
  | .ob C fs => .sh (.obj C fs)
  | s => s
def S2.hd : S2 → S2
  | .ow _ => .no
  | .ob _ _ => .no
  | s => s
inductive Out where
  | nx (γ : List S2) | rt (d : D) | rn (ds : List D) | bk (γ : List S2) | ct (γ : List S2) | xc (C : Addr) (fs : List (Str × D)) (γ : List S2)

/-! ### the tables -/
structure Phi where
  ga : Nat → Addr
  glob : Nat → Option D
  ccon : Nat → Str → Option D
  mn : Nat → Str
  meth : Addr → Nat → Option Nat
  cmeth : Nat → Nat → Option Nat
  ctor : Addr → Option Nat
  arr : Nat → List PA
  pf : Nat → Nat
  fld : Addr → Str → Bool
  efld : Nat → Option Str
  isX : Addr → Nat → Option Bool
  isB : Addr → String → Option Bool
  call : Nat → List D → Option RR

/-! ### data operations -/
def okMul (i j : Int) : Prop := i.natAbs.log2 + j.natAbs.log2 < 1000000
instance (i j : Int) : Decidable (okMul i j) := by unfold okMul; infer_instance
def okDiv (j : Int) : Prop := 0 < j ∧ j.natAbs.log2 < 9000
instance (j : Int) : Decidable (okDiv j) := by unfold okDiv; infer_instance
def okPow (i j : Int) : Prop := 0 ≤ j ∧ j ≤ 1000000 ∧ i.natAbs < 2 ^ 64
instance (i j : Int) : Decidable (okPow i j) := by unfold okPow; infer_instance
def iv (i : Int) : Option RR := some (.val (.int i))
def bv (b : Bool) : Option RR := some (.val (.bl b))
def binD : Operator → D → D → Option RR
  | .Add, .int i, .int j => iv (i + j)
  | .Add, .str u, .str v => if u.length + v.length ≤ 100000 then some (.val (.str (u ++ v))) else none
  | .Add, .tup a, .tup b => if a.length + b.length ≤ 100000 then some (.val (.tup (a ++ b))) else none
  | .Add, .lst a, .lst b => if a.length + b.length ≤ 100000 then some (.new (a ++ b)) else none
  | .Sub, .int i, .int j => iv (i - j)
  | .Mult, .int i, .int j => if okMul i j then iv (i * j) else none
  | .Mod, .int i, .int j => if 0 < j then iv (i % j) else none
  | .FloorDiv, .int i, .int j => if okDiv j then iv (i / j) else none
  | .Pow, .int i, .int j => if okPow i j then iv (i ^ j.toNat) else none
  | _, _, _ => none
def negD : D → Option RR
  | .int i => iv (-i)
  | _ => none
def notD : D → Option RR
  | .bl b => bv (!b)
  | _ => none
/-- as a test -/
def tst (t : Bool) (r : Option RR) : Option RR := match t with
  | false => r
  | true => RR.and r fun
    | .bl b => bv b
    | .lst ds => bv (!ds.isEmpty)
    | .int i => bv (i != 0)
    | _ => none
/-- x in xs, flat things -/
def memI (i : Int) (ds : List D) : Option Bool := match ds with
  | [] => some false
  | .int j :: r => (memI i r).map fun b => decide (i = j) || b
  | _ => none
def cmpD : CmpOp → D → D → Option Bool
  | .Eq, .int i, .int j => some (decide (i = j))
  | .Eq, .str i, .str j => some (decide (i = j))
  | .Eq, .bl i, .bl j => some (decide (i = j))
  | .NotEq, .int i, .int j => some (!decide (i = j))
  | .NotEq, .bl i, .bl j => some (!decide (i = j))
  | .NotEq, .str i, .str j => some (!decide (i = j))
  | .Lt, .int i, .int j => some (decide (i < j))
  | .LtE, .int i, .int j => some (decide (i ≤ j))
  | .Gt, .int i, .int j => some (decide (j < i))
  | .GtE, .int i, .int j => some (decide (j ≤ i))
  | .LtE, .str i, .str j => some (leS i j)
  | _, _, _ => none
def iscD : D → D → Option Bool
  | .non, x => some x.isNon
  | .bl b, x => some (x.isBl b)
  | _, _ => none
def subD : D → D → Option RR
  | .lst ds, .int i => (atI ds i).map .val
  | .rol ds, .int i => (atI ds i).map .val
  | .tup ds, .int i => (atI ds i).map .val
  | .str x, .int i => if x.length ≤ 100000 then (atI x.cps.toList i).map fun n => .val (.str ⟨#[n]⟩) else none
  | _, _ => none
def cutS (x : Str) (lo hi : Option Int) : Str := L2.cutS x lo hi
def slcD (x : D) (lo hi : Option Int) : Option RR := match x with
  | .lst ds => some (.new (Pd.cutD ds lo hi))
  | .tup ds => some (.val (.tup (Pd.cutD ds lo hi)))
  | .str u => if u.length ≤ 100000 then some (.val (.str (cutS u lo hi))) else none
  | _ => none
def okRg (i : Int) : Prop := -(2 ^ 62) ≤ i ∧ i < 2 ^ 62
instance (i : Int) : Decidable (okRg i) := by unfold okRg; infer_instance
def zpD (a b : List D) : List D := (a.zip b).map fun p => .tup [p.1, p.2]
def itms : IK → List D → Option (List D)
  | .vl, [.lst l] => some l
  | .vl, [.rol l] => some l
  | .vl, [.tup l] => some l
  | .vl, [.str u] => some (sgn u)
  | .rg, [.int j] => if okRg j then some (rngD 0 j.toNat) else none
  | .rg, [.int i, .int j] => if okRg i ∧ okRg j then some (rngD i (j - i).toNat) else none
  | .en, [.lst l] => some (enD l)
  | .en, [.tup l] => some (enD l)
  | _, _ => none
/-- lists of whole numbers -/
def ints? : List D → Option (List Int)
  | [] => some []
  | .int i :: r => (ints? r).map (i :: ·)
  | _ => none
def biD : BI → List D → Option RR
  | .len, [.lst ds] => iv ds.length
  | .len, [.rol ds] => iv ds.length
  | .len, [.tup ds] => iv ds.length
  | .len, [.str x] => if x.length ≤ 100000 then iv x.length else none
  | .int, [.int i] => iv i
  | .int, [.bl b] => iv (if b then 1 else 0)
  | .list, [.lst ds] => some (.new ds)
  | .list, [.rol ds] => some (.new ds)
  | .list, [.tup ds] => some (.new ds)
  | .tuple, [.lst ds] => some (.val (.tup ds))
  | .tuple, [.tup ds] => some (.val (.tup ds))
  | .ord, [.str u] => if u.length = 1 then iv (u.cps.getD 0 0 : Nat) else none
  | .trg, [.int i] => if 0 ≤ i ∧ i ≤ 1000000 then some (.val (.tup (rngD 0 i.toNat))) else none
  | .lset, [.tup ds] => (ints? ds).bind fun ns => if ns.length ≤ 4000 then iv (kinds ns).length else none
  | _, _ => none
/-- lists of texts -/
def strs? : List D → Option (List Str)
  | [] => some []
  | .str i :: r => (strs? r).map (i :: ·)
  | _ => none
def bmT : BM → D → Bool
  | .count, .lst _ => true
  | .index, .lst _ => true
  | _, _ => false
def bmD : BM → D → List D → Option RR
  | .count, .lst ds, [.str x] => (strs? ds).bind fun xs => iv (xs.count x : Nat)
  | .index, .lst ds, [.str x] => (strs? ds).bind fun xs => if xs.idxOf x < xs.length then iv (xs.idxOf x : Nat) else none
  | .index, .lst ds, [.int x] => (ints? ds).bind fun xs => if xs.idxOf x < xs.length then iv (xs.idxOf x : Nat) else none
  | _, _, _ => none
def lrgD : List D → Option RR
  | [.int i] => if okRg i ∧ i.toNat ≤ 50000 then some (.new (rngD 0 i.toNat)) else none
  | [.int i, .int j] => if okRg i ∧ okRg j ∧ (j - i).toNat ≤ 50000 then some (.new (rngD i (j - i).toNat)) else none
  | _ => none
def gcdD : List D → Option RR
  | [.int a, .int b] => iv (Nat.gcd a.natAbs b.natAbs : Nat)
  | _ => none
def paD (ds es : List D) : PA → D
  | .pos j => ds.getD j .non
  | .kw j => es.getD j .non
  | .dfl d => d
/-- the targets hold d -/
def put (tg : List Nat) (d : D) (γ : List S2) : Option (List S2) := match tg, d with
  | [i], d => some (γ.set i (.sh d))
  | [i, j], .tup [x, y] => some ((γ.set i (.sh x)).set j (.sh y))
  | _, _ => none
def wip (γ : List S2) : List Nat → List S2
  | [] => γ
  | v :: vs => (wip γ vs).set v .no
def blk (γ : List S2) (tg : List Nat) : List S2 := wip (γ.map S2.hd) tg
def lcGo (f : D → Option (Option D)) : List D → Option (List D)
  | [] => some []
  | d :: r => match f d with
    | none => none
    | some o => match lcGo f r with
      | none => none
      | some l => some (match o with
        | some y => y :: l
        | none => l)
def lcGo2 (f : D → Option (List D)) : List D → Option (List D)
  | [] => some []
  | d :: r => match f d with
    | none => none
    | some o => match lcGo2 f r with
      | none => none
      | some l => some (o ++ l)
def bl? : Option RR → Option Bool
  | some (.val (.bl b)) => some b
  | _ => none

mutual
def ev (Φ : Phi) (γ : List S2) (t : Bool) : IE → Option RR
  | .cst d => tst t (some (.val d))
  | .loc i => tst t (match γ[i]? with
    | some (.sh d) => some (.val d)
    | _ => none)
  | .glo n => tst t ((Φ.glob n).map .val)
  | .kls n => tst t (some (.val (.adr (Φ.ga n))))
  | .bin op a b => tst t (RR.and (ev Φ γ false a) fun x => RR.and (ev Φ γ false b) fun y => binD op x y)
  | .neg a => tst t (RR.and (ev Φ γ false a) negD)
  | .not a => RR.and (ev Φ γ t a) notD
  | .and a b => RR.and (ev Φ γ t a) fun
    | .bl true => ev Φ γ t b
    | .bl false => bv false
    | _ => none
  | .or a b => RR.and (ev Φ γ t a) fun
    | .bl true => bv true
    | .bl false => ev Φ γ t b
    | _ => none
  | .ife c a b => match t with
    | true => none
    | false => match bl? (ev Φ γ true c) with
      | some true => ev Φ γ false a
      | some false => ev Φ γ false b
      | none => none
  | .cmp op a b => RR.and (ev Φ γ false a) fun x => RR.and (ev Φ γ false b) fun y => (cmpD op x y).bind bv
  | .chn op op' a b c => RR.and (ev Φ γ false a) fun x => RR.and (ev Φ γ false b) fun y => match cmpD op x y with
    | none => none
    | some false => bv false
    | some true => RR.and (ev Φ γ false c) fun z => (cmpD op' y z).bind bv
  | .isc n a d => RR.and (ev Φ γ false a) fun x => (iscD d x).bind fun b => bv (if n then !b else b)
  | .fn f as => tst t (evL Φ γ as fun ds => Φ.call f ds)
  | .fnk f p as kvs => tst t (evL Φ γ as fun ds => evL Φ γ kvs fun es => Φ.call f ((Φ.arr p).map (paD ds es)))
  | .mk f p as kvs => tst t (evL Φ γ as fun ds => evL Φ γ kvs fun es => Φ.call f ((Φ.arr p).map (paD ds es)))
  | .mth o m p as kvs => tst t (RR.and (ev Φ γ false o) fun x => match x with
    | .obj C fs => evL Φ γ as fun ds => evL Φ γ kvs fun es => if Φ.meth C m = some (Φ.pf p) ∧ (fs.lookup (Φ.mn m)).isNone = true then Φ.call (Φ.pf p) (.obj C fs :: (Φ.arr p).map (paD ds es)) else none
    | _ => none)
  | .cm c m p as kvs => tst t (evL Φ γ as fun ds => evL Φ γ kvs fun es => if Φ.cmeth c m = some (Φ.pf p) then Φ.call (Φ.pf p) (.adr (Φ.ga c) :: (Φ.arr p).map (paD ds es)) else none)
  | .lmk i as => tst t (match γ[i]? with
    | some (.sh (.adr C)) => (match Φ.ctor C with
      | some f => evL Φ γ as fun ds => Φ.call f ds
      | none => none)
    | _ => none)
  | .bi b as => tst t (evL Φ γ as fun ds => biD b ds)
  | .bm b o as => tst t (RR.and (ev Φ γ false o) fun x => if bmT b x then evL Φ γ as fun ds => bmD b x ds else none)
  | .ins a n => RR.and (ev Φ γ false a) fun x => match x with
    | .obj C _ => (Φ.isX C n).bind bv
    | _ => none
  | .inb a n => RR.and (ev Φ γ false a) fun x => match x.tyN with
    | some t => (kitB t n).bind bv
    | none => none
  | .att o f => tst t (RR.and (ev Φ γ false o) fun x => match x with
    | .obj C fs => if Φ.fld C f then (fs.lookup f).map .val else none
    | _ => none)
  | .exa i f => tst t (match γ[i]? with
    | some (.ex _ fs) => (fs.lookup f).map .val
    | _ => none)
  | .exi i n => match γ[i]? with
    | some (.ex C _) => (Φ.isX C n).bind bv
    | _ => none
  | .exb i n => match γ[i]? with
    | some (.ex C _) => (Φ.isB C n).bind bv
    | _ => none
  | .con c f => tst t ((Φ.ccon c f).map .val)
  | .sub a b => tst t (RR.and (ev Φ γ false a) fun x => RR.and (ev Φ γ false b) fun y => subD x y)
  | .slc a lo hi => tst t (RR.and (ev Φ γ false a) fun x => match evO Φ γ lo, evO Φ γ hi with
    | some l, some h => slcD x l h
    | _, _ => none)
  | .rev a => tst t (RR.and (ev Φ γ false a) fun x => match x with
    | .tup ds => some (.val (.tup ds.reverse))
    | _ => none)
  | .lst es => tst t (evL Φ γ es fun ds => if ds.length ≤ 100000 then some (.new ds) else none)
  | .tup es => tst t (evL Φ γ es fun ds => if ds.length ≤ 100000 then some (.val (.tup ds)) else none)
  | .lc elt tg k its cond => tst t (match (evD Φ γ its).bind (itms k) with
    | none => none
    | some items => if items.length ≤ 50000 then (lcGo (fun d => match put tg d (blk γ tg) with
      | none => none
      | some γ2 => match evC Φ γ2 cond with
        | some true => (RR.d? (ev Φ γ2 false elt)).map some
        | some false => some none
        | none => none) items).map .new else none)
  | .lc2 elt t1 k1 its1 t2 k2 its2 => tst t (match (evD Φ γ its1).bind (itms k1) with
    | none => none
    | some items => if items.length ≤ 300 then (lcGo2 (fun d => match put t1 d (blk γ (t1 ++ t2)) with
      | none => none
      | some γ2 => match (evD Φ γ2 its2).bind (itms k2) with
        | none => none
        | some items2 => if items2.length ≤ 300 then lcGo (fun d2 => match put t2 d2 (blk γ2 t2) with
          | none => none
          | some γ3 => (RR.d? (ev Φ γ3 false elt)).map some) items2 else none) items).map .new else none)
  | .gcd as => tst t (evL Φ γ as gcdD)
  | .lrg as => tst t (evL Φ γ as lrgD)
def evL (Φ : Phi) (γ : List S2) : List IE → (List D → Option RR) → Option RR
  | [], k => k []
  | e :: es, k => RR.and (ev Φ γ false e) fun d => evL Φ γ es fun ds => k (d :: ds)
def evC (Φ : Phi) (γ : List S2) : List IE → Option Bool
  | [] => some true
  | e :: _ => bl? (ev Φ γ true e)
def evO (Φ : Phi) (γ : List S2) : List IE → Option (Option Int)
  | [] => some none
  | e :: _ => match RR.d? (ev Φ γ false e) with
    | some (.int i) => some (some i)
    | _ => none
def evD (Φ : Phi) (γ : List S2) : List IE → Option (List D)
  | [] => some []
  | e :: es => match RR.d? (ev Φ γ false e), evD Φ γ es with
    | some d, some ds => some (d :: ds)
    | _, _ => none
end

/-! ### no list hangs on it -/
mutual
def na : D → Bool
  | .non => true
  | .bl _ => true
  | .int _ => true
  | .str _ => true
  | .ty _ => true
  | .adr _ => true
  | .tup ds => nas ds
  | .obj _ fs => naf fs
  | _ => false
def nas : List D → Bool
  | [] => true
  | d :: r => na d && nas r
def naf : List (Str × D) → Bool
  | [] => true
  | (_, d) :: r => na d && naf r
end
def RR.na : RR → Bool
  | .val d => Ev.na d
  | .new ds => nas ds
  | .exc _ fs => naf fs
def RR.sc : RR → Bool
  | .val d => d.sc
  | _ => false
def frz (γ : List S2) : List Nat → List S2
  | [] => γ
  | i :: r => match γ[i]? with
    | some (.ow ds) => frz (γ.set i (.sh (.lst ds))) r
    | _ => frz γ r
/-- an expression from a body's state -/
def evP (Φ : Phi) (γ : List S2) : Vw → IE → Option (List S2 × RR)
  | .pl, e => (ev Φ γ false e).map fun r => (γ, r)
  | .vw, e => (ev Φ (γ.map S2.vwL) false e).bind fun r => if r.na then some (γ, r) else none
  | .vo, e => (ev Φ (γ.map S2.vwO) false e).bind fun r => if r.sc then some (γ, r) else none
  | .fz us, e => (ev Φ (frz γ us) false e).map fun r => (frz γ us, r)
def forGo (put : D → List S2 → Option (List S2)) (f : List S2 → Option Out) : List D → List S2 → Option Out
  | [], γ => some (.nx γ)
  | d :: r, γ => match put d γ with
    | none => none
    | some γ1 => match f γ1 with
      | some (.nx γ2) => forGo put f r γ2
      | some (.ct γ2) => forGo put f r γ2
      | some (.bk γ2) => some (.nx γ2)
      | o => o
def Out.then (o : Option Out) (k : List S2 → Option Out) : Option Out := match o with
  | some (.nx γ) => k γ
  | o => o
def setS (i : Nat) (γ : List S2) : RR → Option Out
  | .val d => some (.nx (γ.set i (.sh d)))
  | .new ds => some (.nx (γ.set i (.ow ds)))
  | .exc C fs => some (.xc C fs γ)
mutual
def evS (Φ : Phi) : IS → List S2 → Option Out
  | .asg v i e, γ => match evP Φ γ v e with
    | some (γ1, r) => setS i γ1 r
    | none => none
  | .asgs v tg e, γ => match evP Φ γ v e with
    | some (γ1, .val d) => (put tg d γ1).map .nx
    | some (γ1, .exc C fs) => some (.xc C fs γ1)
    | _ => none
  | .seti v i ix e, γ => match evP Φ γ v e with
    | some (γ1, r) => (match RR.d? (some r), RR.d? (ev Φ (γ1.map S2.vwO) false ix), γ1[i]? with
      | some d, some (.int j), some (.ow ds) => (ixN ds.length j).map fun n => .nx (γ1.set i (.ow (ds.set n d)))
      | _, _, _ => none)
    | _ => none
  | .app v i e, γ => match evP Φ γ v e with
    | some (γ1, r) => (match RR.d? (some r), γ1[i]? with
      | some d, some (.ow ds) => if ds.length < 100000 then some (.nx (γ1.set i (.ow (ds ++ [d])))) else none
      | _, _ => none)
    | _ => none
  | .fld v f e, γ => match evP Φ γ v e with
    | some (γ1, r) => (match r, RR.d? (some r), (γ1[0]? : Option S2) with
      | .exc C fs, _, _ => some (.xc C fs γ1)
      | _, some d, some (.ob C fs) => if fs.length < 1000 ∧ Φ.fld C f = true then some (.nx (γ1.set 0 (.ob C (putFD f d fs)))) else none
      | _, _, _ => none)
    | _ => none
  | .ret v e, γ => match evP Φ γ v e with
    | some (_, .val d) => some (.rt d)
    | some (_, .new ds) => some (.rn ds)
    | some (γ1, .exc C fs) => some (.xc C fs γ1)
    | none => none
  | .reto i, γ => match γ[i]? with
    | some (.ow ds) => some (.rn ds)
    | _ => none
  | .retN, _ => some (.rt .non)
  | .ite c a b, γ => match ev Φ (γ.map S2.vwO) true c with
    | some (.val (.bl true)) => evSs Φ a γ
    | some (.val (.bl false)) => evSs Φ b γ
    | _ => none
  | .for us tg k its body, γ => (match (evD Φ (frz γ us) its).bind (itms k) with
    | some items => forGo (put tg) (fun γ1 => evSs Φ body γ1) items (frz γ us)
    | none => none)
  | .raise v C e, γ => match evP Φ γ v e with
    | some (γ1, .val d) => (Φ.efld C).map fun f => .xc (Φ.ga C) [(f, d)] γ1
    | _ => none
  | .exp v e, γ => match evP Φ γ v e with
    | some (γ1, .exc C fs) => some (.xc C fs γ1)
    | some (γ1, _) => some (.nx γ1)
    | none => none
  | .try body C i suite, γ => match evSs Φ body γ with
    | some (.xc A fs γ1) => (match Φ.isX A C with
      | some true => (match evSs Φ suite (γ1.set i (.ex A fs)) with
        | some (.nx γ2) => some (.nx (γ2.set i .no))
        | some (.rt d) => some (.rt d)
        | some (.rn ds) => some (.rn ds)
        | _ => none)
      | _ => none)
    | o => o
  | .pass, γ => some (.nx γ)
  | .brk, γ => some (.bk γ)
  | .cont, γ => some (.ct γ)
def evSs (Φ : Phi) : List IS → List S2 → Option Out
  | [], γ => some (.nx γ)
  | s :: r, γ => Out.then (evS Φ s γ) fun γ1 => evSs Φ r γ1
end
end Ev
end

section
set_option autoImplicit false
set_option Elab.async false
set_option linter.all false
set_option maxRecDepth 100000
set_option maxHeartbeats 0
namespace L39
open PySem PySem.Spec PyProof.Rows L2 Pd Ev
def top (i : Nat) : Stmt := PySem.Challenge.pw_beadmoot_k39_whole_mean_tally.main.body.getD i (.Pass ⟨0, 0, 0, 0⟩)

def ir0 : List IS := [.asg .pl 1 (.bi .len [(.loc 0)]), .ret (.fz [2, 1]) (.lc (.loc 2) [2] .rg [(.loc 1)] [(.cmp .NotEq (.sub (.loc 0) (.loc 2)) (.sub (.loc 0) (.bin .Mod (.bin .Add (.loc 2) (.cst (.int 1))) (.loc 1))))])]
def ir1 : List IS := [.ite (.cmp .Eq (.loc 0) (.loc 2)) [.ret .pl (.ife (.cmp .Eq (.loc 1) (.loc 0)) (.cst (.str ("quiet" : PySem.Str))) (.cst (.str ("odd" : PySem.Str))))] [], .ite (.or (.cmp .Eq (.loc 1) (.loc 0)) (.cmp .Eq (.loc 1) (.loc 2))) [.ret .pl (.cst (.str ("edge" : PySem.Str)))] [], .ret .pl (.cst (.str ("strife" : PySem.Str)))]
def ir2 : List IS := [.ret (.fz [1, 2]) (.lc2 (.tup [(.loc 1), (.loc 2)]) [1] .rg [(.att (.loc 0) ("size" : PySem.Str))] [2] .rg [(.bin .Add (.loc 1) (.cst (.int 1))), (.att (.loc 0) ("size" : PySem.Str))])]
def ir3 : List IS := [.ret .pl (.fn 1 [(.sub (.att (.loc 0) ("kinds" : PySem.Str)) (.loc 1)), (.sub (.att (.loc 0) ("kinds" : PySem.Str)) (.loc 2)), (.sub (.att (.loc 0) ("kinds" : PySem.Str)) (.loc 3))])]
def ir4 : List IS := [.asg .pl 3 (.bin .Sub (.bin .Sub (.loc 2) (.loc 1)) (.cst (.int 1))), .ite (.and (.cmp .Eq (.loc 1) (.cst (.int 0))) (.cmp .Eq (.loc 2) (.bin .Sub (.loc 0) (.cst (.int 1))))) [.ret (.fz [3]) (.tup [(.cst (.int 1)), (.loc 3)])] [], .ite (.or (.cmp .Eq (.loc 1) (.cst (.int 0))) (.cmp .Eq (.loc 2) (.bin .Sub (.loc 0) (.cst (.int 1))))) [.ret (.fz [3]) (.tup [(.cst (.int 1)), (.bin .Mult (.loc 3) (.bin .Add (.loc 3) (.cst (.int 1))))])] [], .ret (.fz [3]) (.tup [(.cst (.int 2)), (.bin .Mult (.bin .Mult (.loc 3) (.bin .Add (.loc 3) (.cst (.int 1)))) (.bin .Add (.loc 3) (.cst (.int 2))))])]
def ir5 : List IS := [.asg .pl 2 (.bin .Add (.bin .Mult (.sub (.loc 0) (.cst (.int 0))) (.sub (.loc 1) (.cst (.int 1)))) (.bin .Mult (.sub (.loc 1) (.cst (.int 0))) (.sub (.loc 0) (.cst (.int 1))))), .asg .pl 3 (.bin .Mult (.sub (.loc 0) (.cst (.int 1))) (.sub (.loc 1) (.cst (.int 1)))), .asg (.fz [2, 3]) 4 (.gcd [(.loc 2), (.loc 3)]), .ret (.fz [2, 4, 3]) (.tup [(.bin .FloorDiv (.loc 2) (.loc 4)), (.bin .FloorDiv (.loc 3) (.loc 4))])]
def ir6 : List IS := [.asg .pl 2 (.tup [(.cst (.int 0)), (.cst (.int 1))]), .for [] [3, 4] .vl [(.fn 2 [(.loc 0)])] [.asg (.fz [8, 4, 3]) 5 (.bi .len [(.lc (.loc 8) [8] .rg [(.bin .Add (.loc 3) (.cst (.int 1))), (.loc 4)] [(.cmp .Eq (.fn 3 [(.loc 0), (.loc 3), (.loc 8), (.loc 4)]) (.loc 1))])]), .ite (.loc 5) [.asgs (.fz [3, 4]) [6, 7] (.fn 4 [(.att (.loc 0) ("size" : PySem.Str)), (.loc 3), (.loc 4)]), .asg (.fz [2, 7, 5, 6]) 2 (.fn 5 [(.loc 2), (.tup [(.bin .Mult (.loc 5) (.loc 6)), (.loc 7)])])] []], .ret (.fz [2]) (.loc 2)]
def ir7 : List IS := [.ret (.fz [1]) (.bi .tuple [(.lc (.fn 6 [(.loc 0), (.loc 1)]) [1] .vl [(.glo 0)] [])])]
def ir8 : List IS := [.ite (.cmp .Lt (.loc 1) (.bi .len [(.loc 0)])) [.ret .pl (.sub (.loc 0) (.loc 1))] [], .ret .pl (.cst (.int 0))]
def ir9 : List IS := [.asg .pl 2 (.bin .Mod (.bi .int [(.bin .Add (.bin .Add (.loc 0) (.bin .Mult (.cst (.int 7919)) (.loc 1))) (.cst (.int 13)))]) (.cst (.int 2147483647))), .asg (.fz [2]) 2 (.bin .Mod (.bi .int [(.bin .Mult (.loc 2) (.bin .Add (.loc 2) (.cst (.int 48271))))]) (.cst (.int 2147483629))), .asg (.fz [2]) 2 (.bin .Mod (.bi .int [(.bin .Add (.bin .Mult (.loc 2) (.bin .Add (.loc 2) (.cst (.int 69621)))) (.bin .Mult (.cst (.int 31)) (.loc 1)))]) (.cst (.int 2147483647))), .ret (.fz [2]) (.bin .FloorDiv (.loc 2) (.cst (.int 9)))]
def ir10 : List IS := [.asg .pl 3 (.lst []), .asg .pl 4 (.loc 0), .for [] [5] .rg [(.loc 1)] [.ite (.and (.cmp .GtE (.loc 0) (.bin .Pow (.cst (.int 10)) (.cst (.int 18)))) (.cmp .Gt (.loc 4) (.cst (.int 0)))) [.app (.fz [4]) 3 (.bin .Mod (.bi .int [(.loc 4)]) (.loc 2)), .asg (.fz [4]) 4 (.bin .FloorDiv (.loc 4) (.loc 2))] [.app (.fz [5]) 3 (.bin .Mod (.bi .int [(.fn 9 [(.loc 0), (.loc 5)])]) (.loc 2))]], .ret (.fz [3]) (.loc 3)]
def ir11 : List IS := [.asg .pl 3 (.fn 10 [(.fn 8 [(.loc 0), (.loc 1)]), (.cst (.int 4)), (.cst (.int 1000))]), .asg (.fz [3]) 4 (.bin .Add (.cst (.int 2)) (.bin .Mod (.sub (.loc 3) (.cst (.int 0))) (.bin .Sub (.loc 2) (.cst (.int 1))))), .asg (.fz [3]) 5 (.sub (.lst [(.cst (.int 1)), (.cst (.int 2)), (.cst (.int 2)), (.cst (.int 3)), (.cst (.int 3)), (.cst (.int 4)), (.cst (.int 6)), (.cst (.int 24))]) (.bin .Mod (.sub (.loc 3) (.cst (.int 1))) (.cst (.int 8)))), .asg (.fz [3]) 6 (.sub (.lst [(.cst (.int 1)), (.cst (.int 7)), (.cst (.int 333)), (.cst (.int 999))]) (.bin .Mod (.sub (.loc 3) (.cst (.int 3))) (.cst (.int 4)))), .asg (.fz [4, 5]) 7 (.fn 10 [(.fn 8 [(.loc 0), (.bin .Add (.loc 1) (.cst (.int 1)))]), (.loc 4), (.loc 5)]), .ret (.fz [7, 3, 8, 6]) (.lc (.bin .Mod (.bi .int [(.bin .Add (.sub (.loc 3) (.cst (.int 2))) (.bin .Mult (.loc 8) (.loc 6)))]) (.cst (.int 1000))) [8] .vl [(.loc 7)] [])]
def ir12 : List IS := [.ite (.cmp .Eq (.loc 0) (.loc 2)) [.ite (.cmp .Eq (.loc 1) (.loc 0)) [.ret .pl (.cst (.str ("quiet" : PySem.Str)))] [], .ret .pl (.cst (.str ("odd" : PySem.Str)))] [], .ite (.or (.cmp .Eq (.loc 1) (.loc 0)) (.cmp .Eq (.loc 1) (.loc 2))) [.ret .pl (.cst (.str ("edge" : PySem.Str)))] [], .ret .pl (.cst (.str ("strife" : PySem.Str)))]
def ir13 : List IS := [.asg .pl 2 (.lrg [(.bi .len [(.loc 0)])]), .asg .pl 3 (.lst []), .asg (.fz [9]) 4 (.lc (.tup [(.loc 9), (.bin .Add (.loc 9) (.cst (.int 1)))]) [9] .rg [(.bin .Sub (.bi .len [(.loc 0)]) (.cst (.int 1)))] []), .for [] [5] .vl [(.loc 1)] [.asg (.fz [5, 2]) 6 (.bm .index (.loc 2) [(.loc 5)]), .asg (.fz [2, 6]) 7 (.sub (.loc 2) (.bin .Sub (.loc 6) (.cst (.int 1)))), .asg (.fz [2, 6]) 8 (.sub (.loc 2) (.bin .Add (.loc 6) (.cst (.int 1)))), .app (.fz [7, 5, 8]) 3 (.fn 12 [(.sub (.loc 0) (.loc 7)), (.sub (.loc 0) (.loc 5)), (.sub (.loc 0) (.loc 8))]), .app (.fz [7, 8]) 4 (.tup [(.loc 7), (.loc 8)]), .asg (.fz [2, 6]) 2 (.bin .Add (.slc (.loc 2) [] [(.loc 6)]) (.slc (.loc 2) [(.bin .Add (.loc 6) (.cst (.int 1)))] []))], .ret (.fz [3, 4, 2]) (.tup [(.loc 3), (.loc 4), (.loc 2)])]
def ir14 : List IS := [.asg .pl 1 (.lst [(.lst [])]), .for [] [2] .vl [(.loc 0)] [.asg .pl 3 (.lst []), .for [1] [4] .vl [(.bi .list [(.loc 1)])] [.for [4] [5] .rg [(.bin .Add (.bi .len [(.loc 4)]) (.cst (.int 1)))] [.app (.fz [4, 2, 5]) 3 (.bin .Add (.bin .Add (.slc (.loc 4) [] [(.loc 5)]) (.lst [(.loc 2)])) (.slc (.loc 4) [(.loc 5)] []))]], .asg (.fz [3]) 1 (.loc 3)], .ret (.fz [1]) (.loc 1)]
def ir15 : List IS := [.ret .pl (.and (.inb (.loc 0) "int") (.not (.inb (.loc 0) "bool")))]
def ir16 : List IS := [.ite (.isc false (.loc 1) .non) [.ret .pl (.isc false (.loc 0) .non)] [], .ite (.isc false (.loc 1) (.bl true)) [.ret .pl (.isc false (.loc 0) (.bl true))] [], .ite (.isc false (.loc 1) (.bl false)) [.ret .pl (.isc false (.loc 0) (.bl false))] [], .ite (.inb (.loc 1) "int") [.ret .pl (.and (.fn 15 [(.loc 0)]) (.cmp .Eq (.loc 0) (.loc 1)))] [], .ite (.inb (.loc 1) "str") [.ret .pl (.and (.inb (.loc 0) "str") (.cmp .Eq (.loc 0) (.loc 1)))] [], .ite (.or (.cmp .NotEq (.inb (.loc 1) "list") (.inb (.loc 0) "list")) (.cmp .NotEq (.inb (.loc 1) "tuple") (.inb (.loc 0) "tuple"))) [.ret .pl (.cst (.bl false))] [], .ite (.and (.not (.inb (.loc 0) "list")) (.not (.inb (.loc 0) "tuple"))) [.ret .pl (.cst (.bl false))] [], .ite (.cmp .NotEq (.bi .len [(.loc 0)]) (.bi .len [(.loc 1)])) [.ret .pl (.cst (.bl false))] [], .for [] [2] .rg [(.bi .len [(.loc 1)])] [.ite (.not (.fn 16 [(.sub (.loc 0) (.loc 2)), (.sub (.loc 1) (.loc 2))])) [.ret .pl (.cst (.bl false))] []], .ret .pl (.cst (.bl true))]
def ir17 : List IS := [.asg .pl 3 (.fn 10 [(.fn 8 [(.loc 0), (.loc 1)]), (.cst (.int 3)), (.cst (.int 1000))]), .asg (.fz [3]) 4 (.sub (.lst [(.cst (.int 1)), (.cst (.int 2)), (.cst (.int 2)), (.cst (.int 3)), (.cst (.int 3)), (.cst (.int 4)), (.cst (.int 6)), (.cst (.int 24))]) (.bin .Mod (.bi .int [(.sub (.loc 3) (.cst (.int 0)))]) (.cst (.int 8)))), .asg (.fz [3]) 5 (.sub (.lst [(.cst (.int 1)), (.cst (.int 7)), (.cst (.int 333)), (.cst (.int 999))]) (.bin .Mod (.bi .int [(.sub (.loc 3) (.cst (.int 2)))]) (.cst (.int 4)))), .asg (.fz [4]) 6 (.fn 10 [(.fn 8 [(.loc 0), (.bin .Add (.loc 1) (.cst (.int 1)))]), (.loc 2), (.loc 4)]), .ret (.fz [6, 3, 7, 5]) (.lc (.bin .Mod (.bi .int [(.bin .Add (.sub (.loc 3) (.cst (.int 1))) (.bin .Mult (.loc 7) (.loc 5)))]) (.cst (.int 1000))) [7] .vl [(.loc 6)] [])]
def ir18 : List IS := [.asg .pl 1 (.lst [(.lst [(.cst (.int 0)), (.cst (.int 0))]), (.lst [(.cst (.int 0)), (.cst (.int 1))]), (.lst [(.cst (.int 0)), (.cst (.int 0)), (.cst (.int 0)), (.cst (.int 0))]), (.lst [(.cst (.int 0)), (.cst (.int 1)), (.cst (.int 0))]), (.lst [(.cst (.int 0)), (.cst (.int 1)), (.cst (.int 2))]), (.lst [(.cst (.int 0)), (.cst (.int 1)), (.cst (.int 0)), (.cst (.int 1))]), (.lst [(.cst (.int 0)), (.cst (.int 1)), (.cst (.int 0)), (.cst (.int 2)), (.cst (.int 0))])]), .asg (.fz [1]) 1 (.bin .Add (.loc 1) (.lst [(.lst [(.cst (.int 0)), (.cst (.int 1)), (.cst (.int 0)), (.cst (.int 1)), (.cst (.int 0))]), (.lst [(.cst (.int 0)), (.cst (.int 1)), (.cst (.int 2)), (.cst (.int 2)), (.cst (.int 1)), (.cst (.int 0))]), (.lst [(.cst (.int 0)), (.cst (.int 1)), (.cst (.int 0)), (.cst (.int 2)), (.cst (.int 0)), (.cst (.int 1))])])), .ret (.fz [1]) (.sub (.loc 1) (.bin .Mod (.bi .int [(.loc 0)]) (.cst (.int 10))))]
def ir19 : List IS := [.asg .pl 1 (.fn 10 [(.fn 8 [(.loc 0), (.cst (.int 0))]), (.cst (.int 4)), (.cst (.int 1000))]), .asg (.fz [1]) 2 (.bin .Mod (.bi .int [(.sub (.loc 1) (.cst (.int 0)))]) (.cst (.int 16))), .ite (.and (.cmp .GtE (.loc 2) (.cst (.int 8))) (.cmp .LtE (.loc 2) (.cst (.int 12)))) [.asg (.fz [1]) 3 (.sub (.lst [(.cst (.int 1)), (.cst (.int 7)), (.cst (.int 333)), (.cst (.int 999))]) (.bin .Mod (.bi .int [(.sub (.loc 1) (.cst (.int 3)))]) (.cst (.int 4)))), .ret (.fz [1, 4, 3]) (.lc (.bin .Mod (.bi .int [(.bin .Add (.sub (.loc 1) (.cst (.int 2))) (.bin .Mult (.loc 4) (.loc 3)))]) (.cst (.int 1000))) [4] .vl [(.fn 18 [(.sub (.loc 1) (.cst (.int 1)))])] [])] [], .ite (.cmp .Eq (.loc 2) (.cst (.int 0))) [.ret (.fz [1]) (.fn 17 [(.loc 0), (.cst (.int 1)), (.bin .Add (.cst (.int 13)) (.bin .Mod (.bi .int [(.sub (.loc 1) (.cst (.int 1)))]) (.cst (.int 12))))])] [], .ite (.cmp .LtE (.loc 2) (.cst (.int 4))) [.ret (.fz [1]) (.fn 17 [(.loc 0), (.cst (.int 1)), (.bin .Add (.cst (.int 8)) (.bin .Mod (.bi .int [(.sub (.loc 1) (.cst (.int 1)))]) (.cst (.int 5))))])] [], .ite (.cmp .Eq (.loc 2) (.cst (.int 5))) [.ret .pl (.fn 17 [(.loc 0), (.cst (.int 1)), (.cst (.int 7))])] [], .ret .pl (.fn 11 [(.loc 0), (.cst (.int 1)), (.cst (.int 6))])]
def ir20 : List IS := [.ret .pl (.lst [(.cst (.str ("quiet" : PySem.Str))), (.cst (.str ("odd" : PySem.Str))), (.cst (.str ("edge" : PySem.Str))), (.cst (.str ("strife" : PySem.Str)))])]
def ir21 : List IS := [.asg .pl 2 (.loc 1), .asg .pl 3 (.loc 0), .for [] [4] .rg [(.cst (.int 400))] [.ite (.cmp .Eq (.loc 3) (.cst (.int 0))) [.brk] [], .asg (.fz [3, 2]) 5 (.bin .Mod (.bi .int [(.loc 2)]) (.loc 3)), .asg (.fz [3]) 2 (.loc 3), .asg (.fz [5]) 3 (.loc 5)], .ret (.fz [2]) (.tup [(.bin .FloorDiv (.loc 0) (.loc 2)), (.bin .FloorDiv (.loc 1) (.loc 2))])]
def ir22 : List IS := [.asg .pl 1 (.lst [(.cst (.int 0)), (.cst (.int 0)), (.cst (.int 0)), (.cst (.int 0))]), .asg .pl 2 (.fn 14 [(.lrg [(.cst (.int 1)), (.bin .Sub (.bi .len [(.loc 0)]) (.cst (.int 1)))])]), .for [2] [3] .vl [(.loc 2)] [.asg (.fz [3]) 4 (.sub (.fn 13 [(.loc 0), (.loc 3)]) (.cst (.int 0))), .asg (.fz [1, 5, 4]) 1 (.lc (.bin .Add (.sub (.loc 1) (.loc 5)) (.bm .count (.loc 4) [(.sub (.fnk 20 0 [] []) (.loc 5))])) [5] .rg [(.cst (.int 4))] [])], .ret (.fz [6, 1, 2]) (.bi .tuple [(.lc (.fn 21 [(.loc 6), (.bi .len [(.loc 2)])]) [6] .vl [(.loc 1)] [])])]
def ir23 : List IS := [.ite (.cmp .Eq (.loc 2) (.cst (.int 2))) [.ret .pl (.bin .FloorDiv (.loc 0) (.loc 1))] [], .ite (.cmp .Eq (.loc 2) (.cst (.int 1))) [.ret .pl (.bin .FloorDiv (.loc 0) (.bin .Mult (.loc 1) (.bin .Add (.loc 1) (.cst (.int 1)))))] [], .ret .pl (.bin .FloorDiv (.bin .Mult (.cst (.int 2)) (.loc 0)) (.bin .Mult (.bin .Mult (.loc 1) (.bin .Add (.loc 1) (.cst (.int 1)))) (.bin .Add (.loc 1) (.cst (.int 2)))))]
def ir24 : List IS := [.asg .pl 1 (.bi .len [(.loc 0)]), .asg .pl 2 (.cst (.int 1)), .for [1] [3] .rg [(.cst (.int 2)), (.bin .Add (.loc 1) (.cst (.int 1)))] [.asg (.fz [2, 3]) 2 (.bin .Mult (.loc 2) (.loc 3))], .asg .pl 4 (.lst [(.cst (.int 0)), (.cst (.int 0)), (.cst (.int 0)), (.cst (.int 0))]), .for [1] [5] .rg [(.loc 1)] [.for [1, 5] [6] .rg [(.bin .Add (.loc 5) (.cst (.int 2))), (.loc 1)] [.asg (.fz [2, 6, 5, 1]) 7 (.fn 23 [(.loc 2), (.bin .Sub (.bin .Sub (.loc 6) (.loc 5)) (.cst (.int 1))), (.bin .Add (.bi .int [(.cmp .Eq (.loc 5) (.cst (.int 0)))]) (.bi .int [(.cmp .Eq (.loc 6) (.bin .Sub (.loc 1) (.cst (.int 1))))]))]), .for [6, 5] [3] .rg [(.bin .Add (.loc 5) (.cst (.int 1))), (.loc 6)] [.asg (.fz [5, 3, 6]) 8 (.bm .index (.fnk 20 0 [] []) [(.fn 12 [(.sub (.loc 0) (.loc 5)), (.sub (.loc 0) (.loc 3)), (.sub (.loc 0) (.loc 6))])]), .seti .vw 4 (.loc 8) (.bin .Add (.sub (.loc 4) (.loc 8)) (.loc 7))]]], .ret (.fz [4, 9, 2]) (.bi .tuple [(.lc (.fn 21 [(.loc 9), (.loc 2)]) [9] .vl [(.loc 4)] [])])]
def ir25 : List IS := [.ite (.cmp .Gt (.bi .len [(.loc 0)]) (.cst (.int 7))) [.ret .pl (.fn 24 [(.loc 0)])] [], .ret .pl (.fn 22 [(.loc 0)])]
def ir26 : List IS := [.asg .pl 1 (.fn 19 [(.loc 0)]), .asg (.fz [1]) 2 (.fn 25 [(.loc 1)]), .asg (.fz [1]) 3 (.mk 27 1 [(.bi .list [(.loc 1)])] []), .ite (.cmp .Eq (.bin .Mod (.bi .int [(.fn 8 [(.loc 0), (.cst (.int 4))])]) (.cst (.int 8))) (.cst (.int 3))) [.asg (.fz [1]) 3 (.mk 27 1 [(.bi .tuple [(.loc 1)])] [])] [], .ite (.or (.not (.fn 16 [(.glo 0), (.bi .tuple [(.fnk 20 0 [] [])])])) (.not (.fn 16 [(.fn 7 [(.loc 3)]), (.loc 2)]))) [.ret .pl (.cst (.bl false))] [], .asg .pl 4 (.fn 11 [(.loc 0), (.cst (.int 5)), (.cst (.int 5))]), .ite (.not (.fn 16 [(.fn 7 [(.mk 27 1 [(.loc 4)] [])]), (.fn 25 [(.loc 4)])])) [.ret .pl (.cst (.bl false))] [], .ret (.fz [2, 3, 1]) (.and (.fn 16 [(.fn 7 [(.loc 3)]), (.loc 2)]) (.fn 16 [(.fnk 7 2 [] [(.mk 27 1 [(.loc 1)] [])]), (.loc 2)]))]
def ir27 : List IS := [.ite (.not (.chn .LtE .LtE (.cst (.int 2)) (.bi .len [(.loc 1)]) (.con 0 ("MOST" : PySem.Str)))) [.raise .pl 1 (.cst .non)] [], .for [] [2, 3] .en [(.loc 1)] [.ite (.not (.chn .LtE .LtE (.cst (.int 0)) (.loc 3) (.con 0 ("TOP_KIND" : PySem.Str)))) [.raise (.fz [2]) 1 (.loc 2)] []], .fld .pl ("kinds" : PySem.Str) (.bi .tuple [(.loc 1)]), .fld .vo ("size" : PySem.Str) (.bi .len [(.att (.loc 0) ("kinds" : PySem.Str))]), .fld .vo ("unlike_pairs" : PySem.Str) (.bi .len [(.fn 0 [(.att (.loc 0) ("kinds" : PySem.Str))])]), .fld .vo ("ends_unlike" : PySem.Str) (.ife (.cmp .NotEq (.sub (.att (.loc 0) ("kinds" : PySem.Str)) (.cst (.int 0))) (.sub (.att (.loc 0) ("kinds" : PySem.Str)) (.neg (.cst (.int 1))))) (.cst (.int 1)) (.cst (.int 0))), .fld .vo ("variety" : PySem.Str) (.bi .lset [(.att (.loc 0) ("kinds" : PySem.Str))])]
abbrev st0 : Stmt := top 6
def N0 : List PySem.Str := [("kinds" : PySem.Str), ("size" : PySem.Str), ("place" : PySem.Str)]
def ps0 : List PySem.Str := [("kinds" : PySem.Str)]
abbrev st1 : Stmt := top 10
def N1 : List PySem.Str := [("left" : PySem.Str), ("bead" : PySem.Str), ("right" : PySem.Str)]
def ps1 : List PySem.Str := [("left" : PySem.Str), ("bead" : PySem.Str), ("right" : PySem.Str)]
abbrev st2 : Stmt := top 12
def N2 : List PySem.Str := [("strand" : PySem.Str), ("i" : PySem.Str), ("j" : PySem.Str)]
def ps2 : List PySem.Str := [("strand" : PySem.Str)]
abbrev st3 : Stmt := top 13
def N3 : List PySem.Str := [("strand" : PySem.Str), ("i" : PySem.Str), ("k" : PySem.Str), ("j" : PySem.Str)]
def ps3 : List PySem.Str := [("strand" : PySem.Str), ("i" : PySem.Str), ("k" : PySem.Str), ("j" : PySem.Str)]
abbrev st4 : Stmt := top 15
def N4 : List PySem.Str := [("size" : PySem.Str), ("i" : PySem.Str), ("j" : PySem.Str), ("width" : PySem.Str)]
def ps4 : List PySem.Str := [("size" : PySem.Str), ("i" : PySem.Str), ("j" : PySem.Str)]
abbrev st5 : Stmt := top 16
def N5 : List PySem.Str := [("left" : PySem.Str), ("right" : PySem.Str), ("top" : PySem.Str), ("bottom" : PySem.Str), ("scale" : PySem.Str)]
def ps5 : List PySem.Str := [("left" : PySem.Str), ("right" : PySem.Str)]
abbrev st6 : Stmt := top 17
def N6 : List PySem.Str := [("strand" : PySem.Str), ("mark" : PySem.Str), ("total" : PySem.Str), ("i" : PySem.Str), ("j" : PySem.Str), ("many" : PySem.Str), ("top" : PySem.Str), ("bottom" : PySem.Str), ("k" : PySem.Str)]
def ps6 : List PySem.Str := [("strand" : PySem.Str), ("mark" : PySem.Str)]
abbrev st7 : Stmt := top 18
def N7 : List PySem.Str := [("strand" : PySem.Str), ("mark" : PySem.Str)]
def ps7 : List PySem.Str := [("strand" : PySem.Str)]
abbrev st8 : Stmt := top 20
def N8 : List PySem.Str := [("_law_script" : PySem.Str), ("_law_at" : PySem.Str)]
def ps8 : List PySem.Str := [("_law_script" : PySem.Str), ("_law_at" : PySem.Str)]
abbrev st9 : Stmt := top 21
def N9 : List PySem.Str := [("_law_cell_here" : PySem.Str), ("_law_k" : PySem.Str), ("_law_mixed_here" : PySem.Str)]
def ps9 : List PySem.Str := [("_law_cell_here" : PySem.Str), ("_law_k" : PySem.Str)]
abbrev st10 : Stmt := top 22
def N10 : List PySem.Str := [("_law_cell_here" : PySem.Str), ("_law_count" : PySem.Str), ("_law_size" : PySem.Str), ("_law_draws_here" : PySem.Str), ("_law_rest" : PySem.Str), ("_law_k" : PySem.Str)]
def ps10 : List PySem.Str := [("_law_cell_here" : PySem.Str), ("_law_count" : PySem.Str), ("_law_size" : PySem.Str)]
abbrev st11 : Stmt := top 23
def N11 : List PySem.Str := [("_law_script" : PySem.Str), ("_law_at" : PySem.Str), ("_law_most" : PySem.Str), ("_law_shape" : PySem.Str), ("_law_size" : PySem.Str), ("_law_variety" : PySem.Str), ("_law_step" : PySem.Str), ("_law_picks" : PySem.Str), ("_law_pick" : PySem.Str)]
def ps11 : List PySem.Str := [("_law_script" : PySem.Str), ("_law_at" : PySem.Str), ("_law_most" : PySem.Str)]
abbrev st12 : Stmt := top 24
def N12 : List PySem.Str := [("_law_left" : PySem.Str), ("_law_bead" : PySem.Str), ("_law_right" : PySem.Str)]
def ps12 : List PySem.Str := [("_law_left" : PySem.Str), ("_law_bead" : PySem.Str), ("_law_right" : PySem.Str)]
abbrev st13 : Stmt := top 25
def N13 : List PySem.Str := [("_law_kinds_here" : PySem.Str), ("_law_run" : PySem.Str), ("_law_standing" : PySem.Str), ("_law_marks_here" : PySem.Str), ("_law_pairs" : PySem.Str), ("_law_bead" : PySem.Str), ("_law_at" : PySem.Str), ("_law_left" : PySem.Str), ("_law_right" : PySem.Str), ("_law_k" : PySem.Str)]
def ps13 : List PySem.Str := [("_law_kinds_here" : PySem.Str), ("_law_run" : PySem.Str)]
abbrev st14 : Stmt := top 26
def N14 : List PySem.Str := [("_law_items" : PySem.Str), ("_law_rows" : PySem.Str), ("_law_item" : PySem.Str), ("_law_longer" : PySem.Str), ("_law_row" : PySem.Str), ("_law_at" : PySem.Str)]
def ps14 : List PySem.Str := [("_law_items" : PySem.Str)]
abbrev st15 : Stmt := top 27
def N15 : List PySem.Str := [("_law_actual" : PySem.Str)]
def ps15 : List PySem.Str := [("_law_actual" : PySem.Str)]
abbrev st16 : Stmt := top 28
def N16 : List PySem.Str := [("_law_actual" : PySem.Str), ("_law_expected" : PySem.Str), ("_law_k" : PySem.Str)]
def ps16 : List PySem.Str := [("_law_actual" : PySem.Str), ("_law_expected" : PySem.Str)]
abbrev st17 : Stmt := top 29
def N17 : List PySem.Str := [("_law_script" : PySem.Str), ("_law_at" : PySem.Str), ("_law_size" : PySem.Str), ("_law_shape" : PySem.Str), ("_law_variety" : PySem.Str), ("_law_step" : PySem.Str), ("_law_picks" : PySem.Str), ("_law_pick" : PySem.Str)]
def ps17 : List PySem.Str := [("_law_script" : PySem.Str), ("_law_at" : PySem.Str), ("_law_size" : PySem.Str)]
abbrev st18 : Stmt := top 30
def N18 : List PySem.Str := [("_law_at" : PySem.Str), ("_law_patterns" : PySem.Str)]
def ps18 : List PySem.Str := [("_law_at" : PySem.Str)]
abbrev st19 : Stmt := top 31
def N19 : List PySem.Str := [("_law_script" : PySem.Str), ("_law_draws_here" : PySem.Str), ("_law_case_here" : PySem.Str), ("_law_step" : PySem.Str), ("_law_mark_here" : PySem.Str)]
def ps19 : List PySem.Str := [("_law_script" : PySem.Str)]
abbrev st20 : Stmt := top 32
def N20 : List PySem.Str := []
def ps20 : List PySem.Str := []
abbrev st21 : Stmt := top 33
def N21 : List PySem.Str := [("_law_top" : PySem.Str), ("_law_bottom" : PySem.Str), ("_law_high" : PySem.Str), ("_law_low" : PySem.Str), ("_law_k" : PySem.Str), ("_law_rest" : PySem.Str)]
def ps21 : List PySem.Str := [("_law_top" : PySem.Str), ("_law_bottom" : PySem.Str)]
abbrev st22 : Stmt := top 34
def N22 : List PySem.Str := [("_law_kinds_here" : PySem.Str), ("_law_totals" : PySem.Str), ("_law_orders_here" : PySem.Str), ("_law_order" : PySem.Str), ("_law_marks_here" : PySem.Str), ("_law_k" : PySem.Str), ("_law_total" : PySem.Str)]
def ps22 : List PySem.Str := [("_law_kinds_here" : PySem.Str)]
abbrev st23 : Stmt := top 35
def N23 : List PySem.Str := [("_law_common" : PySem.Str), ("_law_between" : PySem.Str), ("_law_ends" : PySem.Str)]
def ps23 : List PySem.Str := [("_law_common" : PySem.Str), ("_law_between" : PySem.Str), ("_law_ends" : PySem.Str)]
abbrev st24 : Stmt := top 36
def N24 : List PySem.Str := [("_law_kinds_here" : PySem.Str), ("_law_size" : PySem.Str), ("_law_common" : PySem.Str), ("_law_k" : PySem.Str), ("_law_totals" : PySem.Str), ("_law_i" : PySem.Str), ("_law_j" : PySem.Str), ("_law_share_here" : PySem.Str), ("_law_at" : PySem.Str), ("_law_total" : PySem.Str)]
def ps24 : List PySem.Str := [("_law_kinds_here" : PySem.Str)]
abbrev st25 : Stmt := top 37
def N25 : List PySem.Str := [("_law_kinds_here" : PySem.Str)]
def ps25 : List PySem.Str := [("_law_kinds_here" : PySem.Str)]
abbrev st26 : Stmt := top 38
def N26 : List PySem.Str := [("_law_script" : PySem.Str), ("_law_kinds_here" : PySem.Str), ("_law_due_here" : PySem.Str), ("_law_made" : PySem.Str), ("_law_second" : PySem.Str)]
def ps26 : List PySem.Str := [("_law_script" : PySem.Str)]
abbrev st27 : Stmt := inClass (top 7) 2
def N27 : List PySem.Str := [("self" : PySem.Str), ("kinds" : PySem.Str), ("at" : PySem.Str), ("kind" : PySem.Str)]
def ps27 : List PySem.Str := [("self" : PySem.Str), ("kinds" : PySem.Str)]
end L39
end

section
set_option autoImplicit false
set_option Elab.async false
set_option linter.all false
set_option maxRecDepth 100000
set_option maxHeartbeats 4000000
namespace Ev
open PySem PySem.Spec PyProof.Rows L2 Pd

/-! ### what a reading wants -/
def KR (K : PySem.W.Frag) (r : RR) (Q : VK) (W : Addr → Addr → Hp → Prop) (Hs H : Hp) : Prop := match r with
  | .val d => ∀ v Hs' H', Gr Hs H Hs' H' → Rep K Hs' v d → Q v H'
  | .new ds => ∀ l vs Hs' H', Gr Hs H Hs' H' → H l = none → Hs' l = none → H' l = some (.lst vs) → Reps K Hs' vs ds → Q (.ref l) H'
  | .exc C fs => ∀ dd us Hs' H', Gr Hs H Hs' H' → Hs' dd = some (.xd us) → RepF K Hs' us fs → W C dd H'
theorem KR.go {K : PySem.W.Frag} {r : RR} {Q : VK} {W : Addr → Addr → Hp → Prop} {Hs H Hs1 H1 : Hp} (k : KR K r Q W Hs H) (g : Gr Hs H Hs1 H1) : KR K r Q W Hs1 H1 := by
  cases r with
  | val d => exact fun v Hs' H' g2 r => k v Hs' H' (g.trans g2) r
  | new ds => exact fun l vs Hs' H' g2 h1 h2 h3 r => k l vs Hs' H' (g.trans g2) (g.ext.free h1) h2 h3 r
  | exc C fs => exact fun dd us Hs' H' g2 h1 h2 => k dd us Hs' H' (g.trans g2) h1 h2
theorem KR.val {K : PySem.W.Frag} {d : D} {Q : VK} {W : Addr → Addr → Hp → Prop} {Hs H : Hp} {v : V} (k : KR K (.val d) Q W Hs H) (s : Same Hs H) (r : Rep K Hs v d) : Q v H := k v Hs H (Gr.refl s) r
/-- e gives r -/
def PG (X : Cx) (γ : List Sl) (e : Expr) (r : RR) : Prop := ∀ (W : WX), Takes X W → ∀ (σ : L2.St) (Hs H : Hp) (Q : VK), Same Hs H → SE X.K Hs σ γ →
  KR X.K r Q (fun C dd H' => W (.ref C) (some dd) σ H') Hs H → wE X e σ H Q
def PGT (X : Cx) (γ : List Sl) (e : Expr) (r : RR) : Prop := ∀ b, r = .val (.bl b) → PDT X γ e b
theorem takes0 {X : Cx} : Takes X (fun _ _ _ _ => False) := fun _ _ x => by
  obtain ⟨_, _, _, _, _, _, _, _, _, _, _, _, _, _, _, _, z⟩ := x
  exact z.elim
theorem PG.pd {X : Cx} {γ : List Sl} {e : Expr} {d : D} (h : PG X γ e (.val d)) : PD X γ e d := fun σ Hs H Q s E k => h _ takes0 σ Hs H Q s E k
theorem PG.pn {X : Cx} {γ : List Sl} {e : Expr} {d : List D} (h : PG X γ e (.new d)) : PN X γ e d := fun σ Hs H Q s E k => h _ takes0 σ Hs H Q s E k
theorem PG.px {X : Cx} {γ : List Sl} {e : Expr} {C : Addr} {fs : List (Str × D)} (h : PG X γ e (.exc C fs)) : PDX X γ e C fs := fun W tk σ Hs H Q s E k => h W tk σ Hs H Q s E k
theorem PG.of_pd {X : Cx} {γ : List Sl} {e : Expr} {d : D} (h : PD X γ e d) : PG X γ e (.val d) := fun W tk σ Hs H Q s E k => h σ Hs H Q s E k
theorem PG.of_pn {X : Cx} {γ : List Sl} {e : Expr} {d : List D} (h : PN X γ e d) : PG X γ e (.new d) := fun W tk σ Hs H Q s E k => h σ Hs H Q s E k

section
variable {X : Cx} {γ : List Sl} {a e : Expr} {es : List Expr} {pos : Pos}
theorem andR {ra r : RR} {f : D → Option RR} {W : WX} {σ : L2.St} {Hs H : Hp} {Q0 R : VK} (ha : PG X γ a ra) (h : RR.and (some ra) f = some r) (tk : Takes X W) (s : Same Hs H) (E : SE X.K Hs σ γ)
    (K : ∀ C fs, r = .exc C fs → KR X.K r Q0 (fun C dd H' => W (.ref C) (some dd) σ H') Hs H)
    (k : ∀ x v Hs1 H1, f x = some r → Gr Hs H Hs1 H1 → Rep X.K Hs1 v x → R v H1) : wE X a σ H R := by
  cases ra with
  | val x => exact ha W tk σ Hs H R s E fun v Hs' H' g q => k x v Hs' H' h g q
  | new ds =>
    refine ha W tk σ Hs H R s E fun l vs Hs' H' g h1 h2 h3 q => ?_
    obtain ⟨g', r'⟩ := share s g h1 h2 h3 q
    exact k _ _ _ H' h g' r'
  | exc C fs =>
    have e : RR.exc C fs = r := Option.some.inj h
    subst e
    exact ha W tk σ Hs H R s E (K C fs rfl)
end

/-! ### the checks -/
structure Md where
  sc : Scope
  N : List Str
  calm : Bool
structure Sta where
  fname : Nat → Option Str
  cname : Nat → Option Str
  gname : Nat → Option Str
  mname : Nat → Option Str
  ename : Nat → Option Str
  kname : Nat → Option Str
  plan : Nat → Option (Nat × Nat × List Str)
  frees : List Str
  gcd : Bool
def visB (M : Md) (n : Str) : Bool := match M.sc.names.lookup n with
  | some .local => true
  | some .cell => true
  | some .free => true
  | _ => false
def glB (M : Md) (n : Str) : Bool := match M.sc.names.lookup n with
  | some .globalImplicit => true
  | _ => false
def plainN (n : Str) : Bool := !(n == ("__debug__" : Str)) && !(n == ("__classdict__" : Str)) && !decide (n = ("__name__" : Str))
def biN : BI → Str
  | .len => "len" | .int => "int" | .list => "list" | .tuple => "tuple" | .sum => "sum" | .min => "min" | .max => "max" | .ord => "ord" | .bool => "bool" | .abs => "abs" | _ => ""
def biKnown (b : BI) : Bool := match bootBuiltins (biN b) with
  | some (.builtin _) => true
  | some (.type _) => true
  | _ => false
def bmN : BM → Str
  | .join => "join" | .find => "find" | .upper => "upper" | .count => "count" | .index => "index"
def isStar : Expr → Bool
  | .Starred _ _ => true
  | _ => false
def plainIx : Expr → Bool
  | .Slice _ _ _ _ => false
  | _ => true
def isSet : Expr → Bool
  | .Set _ _ _ => true
  | _ => false
def isComp : Expr → Bool
  | .ListComp _ _ _ _ => true
  | .SetComp _ _ _ _ => true
  | .DictComp _ _ _ _ _ => true
  | _ => false
def isCall0 : Expr → Bool
  | .Call (.Name x _) [] [] _ => x == ("super" : Str)
  | _ => false
def free (S : Sta) (M : Md) (n : Str) : Bool := glB M n && (S.frees.contains n && plainN n)
def all2 {α β : Type} (f : α → β → Bool) : List α → List β → Bool
  | [], [] => true
  | a :: as, b :: bs => f a b && all2 f as bs
  | _, _ => false
def isN (M : Md) (i : Nat) (n : Str) : Bool := decide (M.N[i]? = some n) && (visB M n && plainN n)
def okG (M : Md) (is : List Nat) (e : Expr) : Bool := match is, e with
  | [i], .Name n _ => decide (M.N[i]? = some n) && (match M.sc.names.lookup n with
    | some .local => true
    | _ => false)
  | [i, j], .Tuple [.Name n _, .Name m _] _ _ => (decide (M.N[i]? = some n) && (match M.sc.names.lookup n with
    | some .local => true
    | _ => false)) && (decide (M.N[j]? = some m) && (match M.sc.names.lookup m with
    | some .local => true
    | _ => false))
  | _, _ => false
def locB (M : Md) (n : Str) : Bool := match M.sc.names.lookup n with
  | some .local => true
  | some .cell => true
  | _ => false
/-- a statement's targets -/
def okGs (M : Md) (is : List Nat) (e : Expr) : Bool := match is, e with
  | [i], .Name n _ => decide (M.N[i]? = some n) && locB M n
  | [i, j], .Tuple [.Name n _, .Name m _] _ _ => (decide (M.N[i]? = some n) && locB M n) && (decide (M.N[j]? = some m) && locB M m)
  | _, _ => false
/-- a comprehension's target: local there, or a cell there -/
def okO (N : List Str) (own : List (Str × Nat)) (sc scope : Scope) : Bool := decide (scope.kind = .function) && ((scope.names.all fun y => decide (scope.names.lookup y.1 = some y.2)) && ((own.all fun p => decide (N[p.2]? = some p.1)) && ((scope.names.all fun y => !decide (y.2 = .free) || (decide (sc.names.lookup y.1 = some .cell) || decide (sc.names.lookup y.1 = some .free))) &&
  (scope.names.all fun y => !(decide (y.2 = .local) || decide (y.2 = .cell)) || ((own.map (·.1)).contains y.1 || !N.contains y.1)))))
def tgN : Expr → List Str
  | .Name n _ => [n]
  | .Tuple [.Name n _, .Name m _] _ _ => [n, m]
  | _ => []
def okC : D → Const → Bool
  | .non, .none => true
  | .bl b, .bool c => b == c
  | .int i, .int j => decide (i = j)
  | .str x, .str y => decide (x = y)
  | _, _ => false
def okKw (f : IE → Expr → Bool) (xs : List Expr) (as kvs : List IE) (kws : List Keyword) : Bool := decide (xs.length + kws.length + 1 < 30) && (all2 f as xs && all2 (fun a (k : Keyword) => f a k.value) kvs kws)
def okPl (S : Sta) (p : Nat) (f : Option Nat) (xs : List Expr) (kws : List Keyword) : Bool := match S.plan p with
  | some (f', m, ks) => (match f with
    | some f => decide (f' = f)
    | none => true) && (decide (m = xs.length) && decide (kws.map (·.arg) = ks.map some))
  | none => false
def okIt (f : IE → Expr → Bool) (S : Sta) (M : Md) (k : IK) (its : List IE) (e : Expr) : Bool := !isSet e && (match k, its, e with
  | .vl, [a], x => f a x
  | .rg, as, .Call (.Name n _) xs [] _ => decide (n = ("range" : Str)) && (free S M n && ((xs.length == 1 || xs.length == 2) && all2 f as xs))
  | .en, as, .Call (.Name n _) xs [] _ => decide (n = ("enumerate" : Str)) && (free S M n && (xs.length == 1 && all2 f as xs))
  | _, _, _ => false)
def okA (F : Md → IE → Expr → Bool) (S : Sta) (M : Md) (ir : IE) (e : Expr) : Bool := match ir, e with
  | .cst d, .Constant c _ _ => okC d c
  | .loc i, .Name x _ => isN M i x
  | .glo k, .Name x _ => decide (S.gname k = some x) && (glB M x && plainN x)
  | .kls k, .Name x _ => decide (S.cname k = some x) && (glB M x && plainN x)
  | .bin op a b, .BinOp x op' y _ => decide (op = op') && (F M a x && F M b y)
  | .neg a, .UnaryOp .USub x _ => F M a x
  | .not a, .UnaryOp .Not x _ => F M a x
  | .and a b, .BoolOp .And [x, y] _ => F M a x && F M b y
  | .and a b, .BoolOp .And (x :: y :: z :: r) p => F M a x && F M b (.BoolOp .And (y :: z :: r) p)
  | .or a b, .BoolOp .Or [x, y] _ => F M a x && F M b y
  | .or a b, .BoolOp .Or (x :: y :: z :: r) p => F M a x && F M b (.BoolOp .Or (y :: z :: r) p)
  | .ife c a b, .IfExp x y z _ => F M c x && (F M a y && F M b z)
  | .cmp op a b, .Compare x [op'] [y] _ => decide (op = op') && (!isSet y && (F M a x && F M b y))
  | .chn o1 o2 a b c, .Compare x [q1, q2] [y, z] _ => decide (o1 = q1) && (decide (o2 = q2) && (!isSet z && (F M a x && (F M b y && F M c z))))
  | .isc false a d, .Compare x [.Is] [.Constant c _ _] _ => okC d c && F M a x
  | .isc true a .non, .Compare x [.IsNot] [.Constant .none _ _] _ => F M a x
  | .fn f as, .Call (.Name x _) xs [] _ => decide (S.fname f = some x) && (glB M x && (plainN x && (!xs.isEmpty && all2 (F M) as xs)))
  | .bi .trg [a], .Call (.Name x _) [.Call (.Name y _) [z] [] _] [] _ => M.calm && (decide (x = ("tuple" : Str)) && (free S M x && (decide (y = ("range" : Str)) && (free S M y && F M a z))))
  | .bi .lset [a], .Call (.Name x _) [.Call (.Name y _) [z] [] _] [] _ => M.calm && (decide (x = ("len" : Str)) && (free S M x && (decide (y = ("set" : Str)) && (free S M y && F M a z))))
  | .bi b as, .Call (.Name x _) xs [] _ => biKnown b && (decide (b ≠ .trg) && (decide (b ≠ .lset) && (decide (biN b = x) && (free S M x && (!xs.isEmpty && all2 (F M) as xs)))))
  | .inb a t, .Call (.Name x _) [y, .Name z _] [] _ => decide (x = ("isinstance" : Str)) && (free S M x && (free S M z && (decide (bootBuiltins z = some (.type t)) && F M a y)))
  | .att o f, .Attribute x g _ => decide (f = g) && (!isCall0 x && F M o x)
  | .sub a b, .Subscript x y _ => plainIx y && (F M a x && F M b y)
  | .lst es, .List xs _ => all2 (F M) es xs
  | .tup es, .Tuple xs _ _ => all2 (F M) es xs
  | .slc a lo hi, .Subscript x (.Slice l h none _) _ => F M a x && ((match lo, l with
    | [], none => true
    | [i], some y => F M i y
    | _, _ => false) && (match hi, h with
    | [], none => true
    | [i], some y => F M i y
    | _, _ => false))
  | .rev a, .Subscript x (.Slice none none (some (.UnaryOp .USub (.Constant (.int 1) _ _) _)) _) _ => F M a x
  | .lc elt tg k its cond, .ListComp y [⟨t, it, ifs, 0⟩] scope _ => M.calm && (okG { M with sc := relS scope M.sc } tg t && (okO M.N ((tgN t).zip tg) M.sc scope && (decide (tg.length = (tgN t).length) && ((decide (k ≠ .en) || decide (tg.length = 2)) && (okIt (F M) S M k its it && ((match cond, ifs with
    | [], [] => true
    | [c], [z] => F { M with sc := relS scope M.sc } c z
    | _, _ => false) && F { M with sc := relS scope M.sc } elt y))))))
  | _, _ => false
/-- the calls and the rest -/
def okY (F : Md → IE → Expr → Bool) (S : Sta) (M : Md) (ir : IE) (e : Expr) : Bool := match ir, e with
  | .fnk g p as kvs, .Call (.Name x _) xs kws _ => decide (S.fname g = some x) && (glB M x && (plainN x && (okPl S p (some g) xs kws && okKw (F M) xs as kvs kws)))
  | .mk g p as kvs, .Call (.Name x _) xs kws _ => decide (S.kname g = some x) && (glB M x && (plainN x && (okPl S p (some g) xs kws && okKw (F M) xs as kvs kws)))
  | .con c g, .Attribute (.Name x _) h _ => decide (S.cname c = some x) && (glB M x && (plainN x && decide (g = h)))
  | .gcd [a, b], .Call (.Name x _) [y, z] [] _ => S.gcd && (decide (x = ("gcd" : Str)) && (glB M x && (F M a y && F M b z)))
  | .bm b o [a], .Call (.Attribute y x ap) [z] [] q => decide (b = .count ∨ b = .index) && (decide (bmN b = x) && (!isCall0 y && (!isStar z && ((ap.endLine == q.line) && (F M o y && F M a z)))))
  | .lrg as, .Call (.Name x _) [.Call (.Name y _) xs [] _] [] _ => M.calm && (decide (x = ("list" : Str)) && (free S M x && (decide (y = ("range" : Str)) && (free S M y && ((xs.length == 1 || xs.length == 2) && all2 (F M) as xs)))))
  | .lc2 elt t1 k1 its1 t2 k2 its2, .ListComp y [⟨g1, i1, [], 0⟩, ⟨g2, i2, [], 0⟩] scope _ => M.calm && (okG { M with sc := relS scope M.sc } t1 g1 && (okG { M with sc := relS scope M.sc } t2 g2 && (okO M.N ((tgN g1 ++ tgN g2).zip (t1 ++ t2)) M.sc scope && (decide (t1.length = (tgN g1).length) && (decide (t2.length = (tgN g2).length) && ((decide (k1 ≠ .en) && decide (k2 ≠ .en)) && (okIt (F M) S M k1 its1 i1 &&
    (okIt (F { M with sc := relS scope M.sc }) S { M with sc := relS scope M.sc } k2 its2 i2 && F { M with sc := relS scope M.sc } elt y))))))))
  | _, _ => false
def okE (S : Sta) : Nat → Md → IE → Expr → Bool
  | 0, _, _, _ => false
  | n + 1, M, ir, e => okA (okE S n) S M ir e || okY (okE S n) S M ir e

/-! ### what is known of the module, of the context -/
def spC (K : PySem.W.Frag) (G : List D → Option RR) : Sp := fun vs H Q E => ∃ Hs ds r, Same Hs H ∧ Reps K Hs vs ds ∧ G ds = some r ∧ KR K r Q (fun C dd H' => E (.ref C) (some dd) H') Hs H
/-- a constructor, from data to fields -/
def spCI (K : PySem.W.Frag) (C : Addr) (G : List D → Option RR) : Sp := fun vs H Q E => ∃ Hs H1 p dx ws ds r, vs = .ref p :: ws ∧ H = upd (upd H1 dx (.own p)) p (.ins C dx []) ∧ H1 p = none ∧ H1 dx = none ∧ dx ≠ p ∧ Same Hs H1 ∧ Reps K Hs ws ds ∧ G ds = some r ∧
  (match r with
  | .val (.obj C' fs) => C' = C ∧ ∀ Hs' H' dx' us, Gr Hs H1 Hs' H' → Hs' p = none → H' p = some (.ins C dx' us) → RepF K Hs' us fs → Q .non H'
  | .exc CE fs => ∀ dd us Hs' H', Gr Hs H1 Hs' H' → Hs' dd = some (.xd us) → RepF K Hs' us fs → E (.ref CE) (some dd) H'
  | _ => False)
/-- what a maker answers -/
def MkSh (C : Addr) (r : RR) : Prop := (∃ fs, r = .val (.obj C fs)) ∨ ∃ CE fs, r = .exc CE fs
def PA.sh : PA → PA
  | .pos j => .pos (j + 1)
  | q => q
/-- how a call binds: m values by position, keywords ks, arranged by pl -/
def paV (vs zs : List V) : PA → V
  | .pos j => vs.getD j .non
  | .kw j => zs.getD j .non
  | .dfl (.int i) => .int i
  | .dfl (.bl b) => .bl b
  | .dfl (.str x) => .str x
  | .dfl _ => .non
def okPA (m n : Nat) : PA → Prop
  | .pos j => j < m
  | .kw j => j < n
  | .dfl d => d.sc = true
structure BD (K : PySem.W.Frag) (fd : FuncData) (ps : List Str) (m : Nat) (ks : List Str) (pl : List PA) : Prop where
  ex : ∃ g gV, KBn K fd ps m ks g gV ∧ ∀ vs zs, vs.length = m → zs.length = ks.length → gV vs zs = pl.map (paV vs zs)
  ok : ∀ q ∈ pl, okPA m ks.length q
structure Glo (Φ : Phi) (S : Sta) (k : Nat) (P : Program) (w : World) (K : PySem.W.Frag) (mg : Str → Option Value) (base : Heap) : Prop where
  gl : ∀ i n d, S.gname i = some n → Φ.glob i = some d → ∃ v u, mg n = some u ∧ RelV v u ∧ ∀ H, Rep K H v d
  kl : ∀ i n, S.cname i = some n → mg n = some (.ref (Φ.ga i))
  fr : ∀ n ∈ S.frees, mg n = none
  gc : S.gcd = true → mg ("gcd" : Str) = some (.builtin "math.gcd")
  fn : ∀ i n, S.fname i = some n → ∃ f fd ps, FnOk P w K mg base (L2.CX P w) k f fd ps (spC K (Φ.call i)) ∧ mg n = some (.ref f) ∧ PySem.W.keepIn K (.ref f) = true ∧ Binds K fd ps [] ∧ ∀ p m ks, S.plan p = some (i, m, ks) → BD K fd ps m ks (Φ.arr p)
  mkr : ∀ i n, S.kname i = some n → ∃ C f fd ps j, FnOk P w K mg base (L2.CX P w) j f fd ps (spCI K C (Φ.call i)) ∧ j + 1 ≤ k ∧ mg n = some (.ref C) ∧ Mk K C f ∧ (∀ ds r, Φ.call i ds = some r → MkSh C r) ∧ ∀ p m ks, S.plan p = some (i, m, ks) → BD K fd ps (m + 1) ks (.pos 0 :: (Φ.arr p).map PA.sh)
  me : ∀ C m n i, S.mname m = some n → Φ.meth C m = some i → Φ.mn m = n ∧ Cls K C ∧ ∃ f fd ps, FnOk P w K mg base (L2.CX P w) k f fd ps (spC K (Φ.call i)) ∧ Meth K C n f ∧ ∀ p m ks, S.plan p = some (i, m, ks) → BD K fd ps (m + 1) ks (.pos 0 :: (Φ.arr p).map PA.sh)
  pf : ∀ p i m ks, S.plan p = some (i, m, ks) → Φ.pf p = i
  co : ∀ c n f d, S.cname c = some n → Φ.ccon c f = some d → ∃ mc v u, ClX.CRead K (Φ.ga c) mc ∧ ClX.CVal K (Φ.ga c) mc f v u ∧ ∀ H, Rep K H v d
  is : ∀ C t n b, S.cname t = some n → Φ.isX C t = some b → True
  er : ∀ i n f, S.ename i = some n → Φ.efld i = some f → DE P w K mg base n (Φ.ga i) f
  at_ : ∀ C f, Φ.fld C f = true → Cls K C ∧ NoAttr K C f
structure XO (Φ : Phi) (S : Sta) (k : Nat) (M : Md) (X : Cx) : Prop where
  sc : X.env.scope = M.sc
  N : X.N = M.N
  nd : X.N.Nodup
  hr : Room k X.A
  calm : M.calm = true → X.calm = true
  pa : M.calm = true → PassesOwn (model X.prog X.w) X.A X.env X.xe
  g : Glo Φ S k X.prog X.w X.K X.mg X.base
/-- where a caught error stands in a slot, its suite runs -/
def XG (X : Cx) (π : Pt) (γ : List S2) : Prop := ∀ (i : Nat) C fs, γ[i]? = some (S2.ex C fs) → ∃ (X0 : Cx) (oe : Obj) (pn : List (Addr × Obj)), X = X0.suite π.a ((π.a, oe) :: pn) ∧ Zc (.ref C) (some π.dd) oe ∧ ∃ vs, oe.data = .fields vs
end Ev
end

section
set_option autoImplicit false
set_option Elab.async false
set_option linter.all false
set_option maxRecDepth 100000
set_option maxHeartbeats 4000000
namespace Ev
open PySem PySem.Spec PyProof.Rows L2 Pd
theorem ba {a b : Bool} (h : (a && b) = true) : a = true ∧ b = true := Bool.and_eq_true_iff.mp h
theorem nb {b : Bool} (h : (!b) = true) : b = false := by cases b <;> simp_all
/-! ### operations -/
section
variable {X : Cx}
theorem rd_eqB {K : PySem.W.Frag} {p q : Bool} : RVD K rEq (.bl p) (.bl q) (.bl (decide (p = q))) := fun Hs H _ _ Q s r1 r2 k => by
  cases r1; cases r2
  refine ⟨rfl, k _ _ _ (Gr.refl s) ?_⟩
  have : decide (V.bl p = V.bl q) = decide (p = q) := by simp
  rw [this]
  exact .bl _
theorem rd_neS {K : PySem.W.Frag} {u v : Str} : RVD K rNe (.str u) (.str v) (.bl (!decide (u = v))) := fun Hs H _ _ Q s r1 r2 k => by
  cases r1; cases r2
  refine ⟨rfl, k _ _ _ (Gr.refl s) ?_⟩
  have : decide (V.str u = V.str v) = decide (u = v) := by simp
  rw [this]
  exact .bl _
theorem cmpR {op : CmpOp} {x y : D} {b : Bool} (h : cmpD op x y = some b) : ∃ r, OpR X (compareOp op) r ∧ RVD X.K r x y (.bl b) := by
  unfold cmpD at h
  split at h <;> first | cases h | skip
  · exact ⟨_, op_eq, rd_eqI⟩
  · exact ⟨_, op_eq, rd_eqS⟩
  · exact ⟨_, op_eq, rd_eqB⟩
  · exact ⟨_, op_ne, rd_neI⟩
  · exact ⟨_, op_ne, rd_neB⟩
  · exact ⟨_, op_ne, rd_neS⟩
  · exact ⟨_, op_lt, rd_I0 fun _ => .bl _⟩
  · exact ⟨_, op_le, rd_I0 fun _ => .bl _⟩
  · exact ⟨_, op_gt, rd_I0 fun _ => .bl _⟩
  · exact ⟨_, op_ge, rd_I0 fun _ => .bl _⟩
  · exact ⟨_, op_le_str, rd_leS⟩
/-- an operation of two, by what comes -/
def RVR (K : PySem.W.Frag) (r : R2) (x y : D) (rr : RR) : Prop := ∀ (Hs H : Hp) (v u : V) (Q : VK) (W : Addr → Addr → Hp → Prop), Same Hs H → Rep K Hs v x → Rep K Hs u y → KR K rr Q W Hs H → r v u H Q
theorem RVR.of {K : PySem.W.Frag} {r : R2} {x y z : D} (h : RVD K r x y z) : RVR K r x y (.val z) := fun Hs H v u Q W s r1 r2 k => h Hs H v u Q s r1 r2 k
theorem rd_catT {X : Cx} {ds es : List D} (hz : ds.length + es.length ≤ 100000) : ∃ r, OpR X (binaryOp .Add) r ∧ RVD X.K r (.tup ds) (.tup es) (.tup (ds ++ es)) := ⟨_, op_catA, fun Hs H v u Q s r1 r2 k => by
    cases r1 with
    | tup t1 r1 =>
      cases r2 with
      | tup t2 r2 =>
        refine ⟨_, _, _, _, rfl, rfl, sqT_mono s t1, sqT_mono s t2, sz_of (by rw [r1.length, r2.length]; exact hz), fun z => ?_, fun _ z => ?_, fun _ _ => newT s (r1.append r2) k⟩
        · have e := (reps_nil r1).mp z
          subst e
          exact k _ _ _ (Gr.refl s) (.tup t2 r2)
        · have e := (reps_nil r2).mp z
          subst e
          exact k _ _ _ (Gr.refl s) (by rw [List.append_nil]; exact .tup t1 r1)⟩
theorem binR {op : Operator} {x y : D} {rr : RR} (h : binD op x y = some rr) : ∃ r, OpR X (binaryOp op) r ∧ RVR X.K r x y rr := by
  unfold binD at h
  split at h
  · cases h
    exact ⟨_, op_add, .of (rd_I0 fun _ => .int _)⟩
  · split at h <;> cases h
    next hz => exact ⟨_, op_add_str, .of fun Hs H v u Q s r1 r2 k => by
      cases r1; cases r2
      exact ⟨_, _, rfl, rfl, sz_of hz, k _ _ _ (Gr.refl s) (.str _)⟩⟩
  · split at h <;> cases h
    next hz =>
      obtain ⟨r, h1, h2⟩ := rd_catT (X := X) hz
      exact ⟨r, h1, .of h2⟩
  · split at h <;> cases h
    next hz => exact ⟨_, op_cat, fun Hs H v u Q W s r1 r2 k => by
      cases r1 with
      | lst h1 r1 =>
        cases r2 with
        | lst h2 r2 => exact ⟨_, _, _, _, rfl, rfl, s _ _ h1, s _ _ h2, sz_of (by rw [r1.length, r2.length]; exact hz), newL s (r1.append r2) k⟩⟩
  · cases h
    exact ⟨_, op_sub, .of (rd_I0 fun _ => .int _)⟩
  · split at h <;> cases h
    next hz => exact ⟨_, op_mulW, .of (rd_I (fun _ => .int _) hz)⟩
  · split at h <;> cases h
    next hz => exact ⟨_, op_mod, .of (rd_I (fun _ => .int _) hz)⟩
  · split at h <;> cases h
    next hz => exact ⟨_, op_fdivW, .of (rd_I (fun _ => .int _) hz)⟩
  · split at h <;> cases h
    next hz => exact ⟨_, op_pow, .of (rd_I (fun _ => .int _) hz)⟩
  · cases h
theorem negR {x : D} {rr : RR} (h : negD x = some rr) : ∃ i, x = .int i ∧ rr = .val (.int (-i)) := by
  unfold negD at h
  split at h <;> cases h
  exact ⟨_, rfl, rfl⟩
theorem notR {x : D} {rr : RR} (h : notD x = some rr) : ∃ b, x = .bl b ∧ rr = .val (.bl (!b)) := by
  unfold notD at h
  split at h <;> cases h
  exact ⟨_, rfl, rfl⟩
theorem subR {x y : D} {rr : RR} (h : subD x y = some rr) : ∃ r, IxR X r ∧ RVR X.K r x y rr := by
  unfold subD at h
  split at h
  · cases e : atI _ _ <;> rw [e] at h <;> cases h
    exact ⟨_, ix_list, .of (rd_ixL e)⟩
  · cases e : atI _ _ <;> rw [e] at h <;> cases h
    exact ⟨_, ix_list, .of (rd_ixR e)⟩
  · cases e : atI _ _ <;> rw [e] at h <;> cases h
    exact ⟨_, ix_tup, .of (rd_ixT e)⟩
  · split at h
    next hz =>
      cases e : atI _ _ <;> rw [e] at h <;> cases h
      exact ⟨_, ix_str, .of (rd_ixS hz e)⟩
    · cases h
  · cases h
end

/-! ### pieces -/
theorem and_some {r : Option RR} {f : D → Option RR} {x : RR} (h : RR.and r f = some x) : ∃ ra, r = some ra ∧ RR.and (some ra) f = some x := by
  cases r with
  | none => cases h
  | some ra => exact ⟨ra, rfl, h⟩
theorem noK {K : PySem.W.Frag} {d : D} {Q : VK} {W : Addr → Addr → Hp → Prop} {Hs H : Hp} : ∀ C fs, RR.val d = .exc C fs → KR K (.val d) Q W Hs H := fun _ _ h => by cases h
theorem star_cons {e : Expr} {es : List Expr} {env : Env} (h : isStar e = false) : starEach (e :: es) env = (false, eval e env) :: starEach es env := by
  cases e <;> first | rfl | cases h
theorem star_any {pos : Pos} {env : Env} : ∀ {es : List Expr}, (∀ e ∈ es, isStar e = false) → (backTo pos (starEach es env)).any (·.1) = false
  | [], _ => rfl
  | e :: es, h => by
    rw [star_cons (h e (List.mem_cons_self ..))]
    show (false || (backTo pos (starEach es env)).any (·.1)) = false
    rw [Bool.false_or]
    exact star_any fun x hx => h x (List.mem_cons_of_mem _ hx)
theorem ok_nostar {S : Sta} : ∀ {n : Nat} {M : Md} {ir : IE} {e : Expr}, okE S n M ir e = true → isStar e = false
  | 0, _, _, _, h => by cases h
  | n + 1, M, ir, e, h => by
    cases e with
    | Starred v p =>
      exfalso
      rcases Bool.or_eq_true_iff.mp (show (okA (okE S n) S M ir (.Starred v p) || okY (okE S n) S M ir (.Starred v p)) = true from h) with h | h
      · unfold okA at h
        split at h <;> first | contradiction | (rename_i q; cases q)
      · unfold okY at h
        split at h <;> first | contradiction | (rename_i q; cases q)
    | _ => rfl
theorem all2_mem {α β : Type} {f : α → β → Bool} : ∀ {as : List α} {bs : List β}, all2 f as bs = true → ∀ b ∈ bs, ∃ a, f a b = true
  | [], [], _, _, hb => by cases hb
  | [], _ :: _, h, _, _ => by cases h
  | _ :: _, [], h, _, _ => by cases h
  | a :: as, b :: bs, h, c, hc => by
    obtain ⟨h1, h2⟩ := ba h
    rcases List.mem_cons.mp hc with rfl | hc
    · exact ⟨a, h1⟩
    · exact all2_mem h2 c hc
section
variable {Φ : Phi} {S : Sta} {k n : Nat} {M : Md} {X : Cx} {γ : List S2} {π : Pt}
theorem PG.d {e : Expr} {g : List Sl} {rr : RR} {d : D} (h : PG X g e rr) (q : RR.d? (some rr) = some d) : PD X g e d := by
  cases rr with
  | val x => cases q; exact h.pd
  | new ds => cases q; exact h.pn.pd
  | exc C fs => cases q
def isBo : Expr → Bool
  | .BoolOp _ _ _ => true
  | _ => false
def PGW (X : Cx) (g : List Sl) (e : Expr) (r : RR) : Prop := ∀ b, r = .val (.bl b) → PDT X g e b ∧ (isBo e = true → PDW X g e b)
/-- all expressions, n deep -/
def IHt (Φ : Phi) (S : Sta) (k n : Nat) : Prop := ∀ (M : Md) (X : Cx), XO Φ S k M X → ∀ (γ : List S2) (π : Pt), XG X π γ → ∀ (ir : IE) (e : Expr), okE S n M ir e = true →
  (∀ r, ev Φ γ false ir = some r → PG X (γ.map (S2.sl π)) e r) ∧ ∀ r, ev Φ γ true ir = some r → PGW X (γ.map (S2.sl π)) e r
/-- arguments -/
theorem argsR (ih : IHt Φ S k n) (x : XO Φ S k M X) (gx : XG X π γ) {W : WX} (tk : Takes X W) {σ : L2.St} {Q0 : VK} : ∀ {as : List IE} {xs : List Expr} {kf : List D → Option RR} {r : RR} {Hs H : Hp} {R : List V → Hp → Prop}, all2 (okE S n M) as xs = true → evL Φ γ as kf = some r →
    Same Hs H → SE X.K Hs σ (γ.map (S2.sl π)) → (∀ C fs, r = .exc C fs → KR X.K r Q0 (fun C dd H' => W (.ref C) (some dd) σ H') Hs H) →
    (∀ ds vs Hs1 H1, kf ds = some r → Gr Hs H Hs1 H1 → Reps X.K Hs1 vs ds → R vs H1) → wA X xs σ H R
  | [], [], kf, r, Hs, H, R, _, h, s, E, K, kk => wA_of L2.pa_nil (kk [] [] Hs H h (Gr.refl s) .nil)
  | a :: as, y :: ys, kf, r, Hs, H, R, ok, h, s, E, K, kk => by
    obtain ⟨o1, o2⟩ := ba ok
    have h' : RR.and (ev Φ γ false a) (fun d => evL Φ γ as fun ds => kf (d :: ds)) = some r := by rw [evL] at h; exact h
    obtain ⟨ra, e1, e2⟩ := and_some h'
    refine wA_of (L2.pa_cons (wE_ok y) (wA_ok ys) (star_cons (ok_nostar o1))) ?_
    refine andR (((ih M X x γ π gx a y o1).1) ra e1) e2 tk s E K fun d v Hs1 H1 hd g1 r1 => ?_
    refine argsR ih x gx tk o2 hd g1.sub (E.mono g1.sh) (fun C fs e => (K C fs e).go g1) fun ds vs Hs2 H2 hk g2 r2 => ?_
    exact kk (d :: ds) (v :: vs) Hs2 H2 hk (g1.trans g2) (.cons (r1.mono g2.sh) r2)
  | [], _ :: _, _, _, _, _, _, ok, _, _, _, _, _ => by cases ok
  | _ :: _, [], _, _, _, _, _, ok, _, _, _, _, _ => by cases ok
theorem map_at {γ : List S2} {i : Nat} {s : S2} (h : γ[i]? = some s) : (γ.map (S2.sl π))[i]? = some (s.sl π) := by rw [List.getElem?_map, h] <;> rfl
theorem visB_ok (x : XO Φ S k M X) {i : Nat} {nm : Str} (h : isN M i nm = true) : X.N[i]? = some nm ∧ Vis X.env.scope nm ∧ (nm == ("__debug__" : Str)) = false ∧ (nm == ("__classdict__" : Str)) = false := by
  obtain ⟨h1, h2⟩ := ba h
  obtain ⟨h2, h3⟩ := ba h2
  obtain ⟨h3, h4⟩ := ba h3
  obtain ⟨h3, h5⟩ := ba h3
  refine ⟨by rw [x.N]; exact of_decide_eq_true h1, ?_, nb h3, nb h5⟩
  unfold visB at h2
  unfold Vis
  rw [x.sc]
  split at h2
  · exact .inl (by assumption)
  · exact .inr (.inl (by assumption))
  · exact .inr (.inr (by assumption))
  · cases h2
theorem glB_ok (x : XO Φ S k M X) {nm : Str} (h : (glB M nm && plainN nm) = true) : Gl X nm ∧ (nm == ("__debug__" : Str)) = false ∧ nm ≠ "__name__" := by
  obtain ⟨h2, h3⟩ := ba h
  obtain ⟨h3, h4⟩ := ba h3
  obtain ⟨h3, h5⟩ := ba h3
  refine ⟨?_, nb h3, of_decide_eq_false (nb h4)⟩
  unfold glB at h2
  show X.env.scope.names.lookup nm = _
  rw [x.sc]
  split at h2
  · assumption
  · cases h2
theorem free_ok (x : XO Φ S k M X) {nm : Str} (h : free S M nm = true) : Gl X nm ∧ X.mg nm = none ∧ (nm == ("__debug__" : Str)) = false ∧ nm ≠ "__name__" := by
  obtain ⟨h1, h2⟩ := ba h
  obtain ⟨h2, h3⟩ := ba h2
  obtain ⟨q1, q2, q3⟩ := glB_ok x (nm := nm) (by rw [h1, h3]; rfl)
  exact ⟨q1, x.g.fr nm (List.contains_iff_mem.mp h2), q2, q3⟩
theorem tst_eq (ir : IE) (h : ev Φ γ true ir = tst true (ev Φ γ false ir)) {r : RR} (e : ev Φ γ true ir = some r) {b : Bool} (q : r = .val (.bl b)) : ∃ d, (RR.d? (ev Φ γ false ir) = some d ∧ (∀ C fs, ev Φ γ false ir ≠ some (.exc C fs))) ∧ ((d = .bl b) ∨ (∃ i, d = .int i ∧ b = (i != 0)) ∨ ∃ ds, d = .lst ds ∧ b = !ds.isEmpty) := by
  rw [h] at e
  subst q
  cases q2 : ev Φ γ false ir with
  | none => rw [q2] at e; cases e
  | some ra =>
    rw [q2] at e
    cases ra with
    | val d =>
      refine ⟨d, ⟨rfl, fun _ _ z => by cases z⟩, ?_⟩
      unfold tst RR.and at e
      cases d <;> first | cases e | skip
      · exact .inl rfl
      · exact .inr (.inl ⟨_, rfl, rfl⟩)
      · exact .inr (.inr ⟨_, rfl, rfl⟩)
    | new ds =>
      refine ⟨.lst ds, ⟨rfl, fun _ _ z => by cases z⟩, ?_⟩
      unfold tst RR.and at e
      cases e
      exact .inr (.inr ⟨_, rfl, rfl⟩)
    | exc C fs => unfold tst RR.and at e; cases e
/-- a test that is a value's truth -/
theorem tst_ok {e : Expr} (ir : IE) (h : ev Φ γ true ir = tst true (ev Φ γ false ir)) (hp : ∀ r, ev Φ γ false ir = some r → PG X (γ.map (S2.sl π)) e r) (he : ∀ whole, isTrue e X.env whole = (do let v ← whole; standAt e.pos; holding [v] (truthy v)) := by intro _; rfl) (hbo : isBo e = false := by rfl) :
    ∀ r, ev Φ γ true ir = some r → PGW X (γ.map (S2.sl π)) e r := fun r hr b hb => by
  refine ⟨?_, fun z => by rw [hbo] at z; cases z⟩
  obtain ⟨d, ⟨h1, _⟩, h2⟩ := tst_eq ir h hr hb
  cases q : ev Φ γ false ir with
  | none => rw [q] at h1; cases h1
  | some rr =>
    rw [q] at h1
    have p := (hp rr q).d h1
    rcases h2 with rfl | ⟨i, rfl, rfl⟩ | ⟨ds, rfl, rfl⟩
    · exact pt_val p he
    · exact fun σ Hs H Q s E k => wT_of (L2.pt_truth (wE_ok e) he) (p σ Hs H _ s E fun v Hs' H' g r => by
        cases r
        exact ⟨_, rfl, k Hs' H' g⟩)
    · exact pt_lst p he
theorem bl_ok {e : Expr} (ir : IE) (h : ev Φ γ true ir = ev Φ γ false ir) (hp : ∀ r, ev Φ γ false ir = some r → PG X (γ.map (S2.sl π)) e r) (he : ∀ whole, isTrue e X.env whole = (do let v ← whole; standAt e.pos; holding [v] (truthy v)) := by intro _; rfl) (hbo : isBo e = false := by rfl) :
    ∀ r, ev Φ γ true ir = some r → PGW X (γ.map (S2.sl π)) e r := fun r hr b hb => by
  refine ⟨?_, fun z => by rw [hbo] at z; cases z⟩
  subst hb
  rw [h] at hr
  exact pt_val (hp _ hr).pd he
end
end Ev
end

section
set_option autoImplicit false
set_option Elab.async false
set_option linter.all false
set_option maxRecDepth 100000
set_option maxHeartbeats 4000000
namespace Ev
open PySem PySem.Spec PyProof.Rows L2 Pd
section
variable {X : Cx}
theorem opAny {f : Value → Value → Sem Value} : OpR X f (fun v u H Q => ∃ r, OpR X f r ∧ r v u H Q) := fun pins s σ H x y v u Q I r1 r2 ⟨r, h, q⟩ => h pins s σ H x y v u Q I r1 r2 q
theorem callAny {f : Value} : CallR X f (fun vs H Q => ∃ r, CallR X f r ∧ r vs H Q) := fun pins s σ H xs us Q I r1 ⟨r, h, q⟩ => h pins s σ H xs us Q I r1 q
theorem ixAny : IxR X (fun v u H Q => ∃ r, IxR X r ∧ r v u H Q) := fun a b pins s σ H x y v u Q I r1 r2 ⟨r, h, q⟩ hs => h a b pins s σ H x y v u Q I r1 r2 q hs
theorem slAny : L2.SlR X (fun v l h H Q => ∃ r, L2.SlR X r ∧ r v l h H Q) := fun pins s σ H x v vl vu lo hi sl Q I r1 hs p1 p2 ⟨r, h, q⟩ => h pins s σ H x v vl vu lo hi sl Q I r1 hs p1 p2 q
def RCRr (K : PySem.W.Frag) (r : List V → Hp → VK → Prop) (ds : List D) (rr : RR) : Prop := ∀ (Hs H : Hp) (vs : List V) (Q : VK) (W : Addr → Addr → Hp → Prop), Same Hs H → Reps K Hs vs ds → KR K rr Q W Hs H → r vs H Q
theorem RCRr.of {K : PySem.W.Frag} {r : List V → Hp → VK → Prop} {ds : List D} {z : D} (h : RCD K r ds z) : RCRr K r ds (.val z) := fun Hs H vs Q W s r k => h Hs H vs Q s r k
theorem RCRr.ofN {K : PySem.W.Frag} {r : List V → Hp → VK → Prop} {ds zs : List D} (h : RCN K r ds zs) : RCRr K r ds (.new zs) := fun Hs H vs Q W s r k => h Hs H vs Q s r k
theorem rc_lenX {x : D} {n : Nat} (hx : (∃ ds, x = .lst ds ∧ n = ds.length) ∨ (∃ ds, x = .rol ds ∧ n = ds.length) ∨ (∃ ds, x = .tup ds ∧ n = ds.length)) : ∃ r, CallR X (.builtin "len") r ∧ RCD X.K r [x] (.int (n : Int)) := by
  refine ⟨_, call_len_seq, rc_one fun Hs H v Q s r k => ?_⟩
  rcases hx with ⟨ds, rfl, rfl⟩ | ⟨ds, rfl, rfl⟩ | ⟨ds, rfl, rfl⟩
  · cases r with
    | lst h1 r1 => exact ⟨_, _, rfl, .inl (.inl (.inl (s _ _ h1))), by rw [r1.length]; exact k _ Hs H (Gr.refl s) (.int _)⟩
  · cases r with
    | rol h1 r1 => exact ⟨_, _, rfl, .inl (sqL_mono s h1), by rw [r1.length]; exact k _ Hs H (Gr.refl s) (.int _)⟩
  · cases r with
    | tup h1 r1 => exact ⟨_, _, rfl, .inr (sqT_mono s h1), by rw [r1.length]; exact k _ Hs H (Gr.refl s) (.int _)⟩
theorem rc_listX {x : D} {ds : List D} (hx : x = .lst ds ∨ x = .rol ds ∨ x = .tup ds) : ∃ r, CallR X (.type "list") r ∧ RCN X.K r [x] ds := by
  refine ⟨_, call_list_of, fun Hs H vs Q s rs k => ?_⟩
  cases rs with
  | cons r rn =>
    cases rn
    rcases hx with rfl | rfl | rfl
    · cases r with
      | lst h1 r1 => exact ⟨_, _, rfl, .inl (.inl (.inl (s _ _ h1))), newL s r1 k⟩
    · cases r with
      | rol h1 r1 => exact ⟨_, _, rfl, .inl (sqL_mono s h1), newL s r1 k⟩
    · cases r with
      | tup h1 r1 => exact ⟨_, _, rfl, .inr (sqT_mono s h1), newL s r1 k⟩
theorem biOk {b : BI} {ds : List D} {rr : RR} (h : biD b ds = some rr) (nt : b ≠ .trg) (nl : b ≠ .lset) : (∃ id r, bootBuiltins (biN b) = some (.builtin id) ∧ CallR X (.builtin id) r ∧ RCRr X.K r ds rr) ∨ (∃ T r, bootBuiltins (biN b) = some (.type T) ∧ CallR X (.type T) r ∧ RCRr X.K r ds rr) := by
  unfold biD at h
  split at h
  · cases h
    obtain ⟨r, h1, h2⟩ := rc_lenX (X := X) (x := .lst _) (.inl ⟨_, rfl, rfl⟩)
    exact .inl ⟨"len", r, boot_len, h1, .of h2⟩
  · cases h
    obtain ⟨r, h1, h2⟩ := rc_lenX (X := X) (x := .rol _) (.inr (.inl ⟨_, rfl, rfl⟩))
    exact .inl ⟨"len", r, boot_len, h1, .of h2⟩
  · cases h
    obtain ⟨r, h1, h2⟩ := rc_lenX (X := X) (x := .tup _) (.inr (.inr ⟨_, rfl, rfl⟩))
    exact .inl ⟨"len", r, boot_len, h1, .of h2⟩
  · split at h <;> cases h
    next hz => exact .inl ⟨"len", _, boot_len, call_len_str, .of (rc_one fun Hs H v Q s r k => by
      cases r
      exact ⟨_, rfl, sz_of hz, k _ Hs H (Gr.refl s) (.int _)⟩)⟩
  · cases h
    exact .inr ⟨"int", _, boot_int, call_int1, .of (rc_one fun Hs H v Q s r k => by
      cases r
      exact .inl ⟨_, rfl, k _ Hs H (Gr.refl s) (.int _)⟩)⟩
  · cases h
    exact .inr ⟨"int", _, boot_int, call_int1, .of (rc_one fun Hs H v Q s r k => by
      cases r
      exact .inr ⟨_, rfl, k _ Hs H (Gr.refl s) (.int _)⟩)⟩
  · cases h
    obtain ⟨r, h1, h2⟩ := rc_listX (X := X) (x := .lst _) (.inl rfl)
    exact .inr ⟨"list", r, by decide +kernel, h1, .ofN h2⟩
  · cases h
    obtain ⟨r, h1, h2⟩ := rc_listX (X := X) (x := .rol _) (.inr (.inl rfl))
    exact .inr ⟨"list", r, by decide +kernel, h1, .ofN h2⟩
  · cases h
    obtain ⟨r, h1, h2⟩ := rc_listX (X := X) (x := .tup _) (.inr (.inr rfl))
    exact .inr ⟨"list", r, by decide +kernel, h1, .ofN h2⟩
  · cases h
    exact .inr ⟨"tuple", _, boot_tuple, call_tuple_of, .of (rc_one fun Hs H v Q s r k => by
      cases r with
      | lst h1 r1 => exact ⟨_, _, rfl, .inl ⟨.inl (.inl (s _ _ h1)), newT s r1 k⟩⟩)⟩
  · cases h
    exact .inr ⟨"tuple", _, boot_tuple, call_tuple_of, .of (rc_one fun Hs H v Q s r k => by
      cases r with
      | tup h1 r1 => exact ⟨_, _, rfl, .inr ⟨sqT_mono s h1, k _ Hs H (Gr.refl s) (.tup h1 r1)⟩⟩)⟩
  · split at h <;> cases h
    next hz => exact .inl ⟨"ord", _, by decide +kernel, call_ord, .of (rc_one fun Hs H v Q s r k => by
      cases r
      exact ⟨_, rfl, hz, k _ Hs H (Gr.refl s) (.int _)⟩)⟩
  · exact absurd rfl nt
  · exact absurd rfl nl
  · cases h
theorem slcR {x : D} {l h : Option Int} {rr : RR} (e : slcD x l h = some rr) : ∃ r, L2.SlR X r ∧ ∀ (Hs H : Hp) (v : V) (Q : VK) (W : Addr → Addr → Hp → Prop), Same Hs H → Rep X.K Hs v x → KR X.K rr Q W Hs H → r v l h H Q := by
  unfold slcD at e
  split at e
  · cases e
    exact ⟨_, sl_list, fun Hs H v Q W s r k => by
      cases r with
      | lst h1 r1 => exact ⟨_, _, rfl, .inl (.inl (s _ _ h1)), newL s (r1.cut _ _) k⟩⟩
  · cases e
    refine ⟨_, sl_tupA, fun Hs H v Q W s r k => ?_⟩
    cases r with
    | tup h1 r1 =>
      refine ⟨_, _, rfl, sqT_mono s h1, fun hw => ?_, fun _ => newT s (r1.cut _ _) k⟩
      rw [r1.length] at hw
      exact k _ _ _ (Gr.refl s) (by rw [cut_whole hw]; exact .tup h1 r1)
  · split at e <;> cases e
    next hz => exact ⟨_, sl_str, fun Hs H v Q W s r k => by
      cases r
      exact ⟨_, rfl, sz_of hz, k _ Hs H (Gr.refl s) (.str _)⟩⟩
  · cases e
end
end Ev
end

section
set_option autoImplicit false
set_option Elab.async false
set_option linter.all false
set_option maxRecDepth 100000
set_option maxHeartbeats 4000000
namespace Ev
open PySem PySem.Spec PyProof.Rows L2 Pd
theorem okC_ok {X : Cx} {γ : List Sl} {d : D} {c : Const} {j : Nat} {p : Pos} (h : okC d c = true) : PD X γ (.Constant c j p) d := by
  unfold okC at h
  split at h
  · exact pd_non
  · have e := eq_of_beq h
    subst e
    exact pd_bl
  · have e := of_decide_eq_true h
    subst e
    exact pd_int
  · have e := of_decide_eq_true h
    subst e
    exact pd_str
  · cases h
theorem attr_base {o : Expr} {f : Str} {env : Env} {w : Sem Value} (h : isCall0 o = false) : attributeBase o f env w = w := by
  unfold attributeBase
  split
  · next id p1 pos =>
    have h1 : (id == ("super" : Str)) = false := h
    have h2 : (id != ("super" : Str)) = true := by rw [bne, h1]; rfl
    rw [h2]
    rfl
  · rfl
theorem plainIx_ok {b : Expr} (h : plainIx b = true) : PlainIx b := by
  cases b <;> first | exact fun _ _ => rfl | cases h
theorem noset {e : Expr} (h : isSet e = false) {op : CmpOp} : behindInMarks op e = false := by
  cases e <;> first | rfl | cases h
theorem noset2 {a b : Expr} (h : isSet b = false) {o1 o2 : CmpOp} : lastMarks [o1, o2] [a, b] = false := by
  show behindInMarks o2 b = false
  exact noset h
theorem noset_it {e : Expr} (h : isSet e = false) {env : Env} : ∀ x, foldedSetIterable e env x = pure x := by
  intro x
  cases e <;> first | rfl | cases h
section
variable {Φ : Phi} {S : Sta} {k n : Nat} {M : Md} {X : Cx} {γ : List S2} {π : Pt} {a b c o : IE} {ea eb ec eo : Expr} {p : Pos} {r : RR}
theorem s_bin (ih : IHt Φ S k n) (x : XO Φ S k M X) (gx : XG X π γ) {op : Operator} (h1 : okE S n M a ea = true) (h2 : okE S n M b eb = true) (h : ev Φ γ false (.bin op a b) = some r) : PG X (γ.map (S2.sl π)) (.BinOp ea op eb p) r := fun W tk σ Hs H Q s E K => by
  have h' : RR.and (ev Φ γ false a) (fun x => RR.and (ev Φ γ false b) fun y => binD op x y) = some r := h
  obtain ⟨ra, e1, e2⟩ := and_some h'
  refine wE_of (pe_op opAny (wE_ok ea) (wE_ok eb)) (andR ((ih M X x γ π gx a ea h1).1 ra e1) e2 tk s E (fun _ _ _ => K) fun u v Hs1 H1 hd g1 r1 => ?_)
  obtain ⟨rb, e3, e4⟩ := and_some hd
  refine andR ((ih M X x γ π gx b eb h2).1 rb e3) e4 tk g1.sub (E.mono g1.sh) (fun _ _ _ => K.go g1) fun u2 v2 Hs2 H2 hd2 g2 r2 => ?_
  obtain ⟨rr, q1, q2⟩ := binR (X := X) hd2
  exact ⟨rr, q1, q2 Hs2 H2 v v2 Q _ g2.sub (r1.mono g2.sh) r2 (K.go (g1.trans g2))⟩
theorem s_sub (ih : IHt Φ S k n) (x : XO Φ S k M X) (gx : XG X π γ) (hp : plainIx eb = true) (h1 : okE S n M a ea = true) (h2 : okE S n M b eb = true) (h : ev Φ γ false (.sub a b) = some r) : PG X (γ.map (S2.sl π)) (.Subscript ea eb p) r := fun W tk σ Hs H Q s E K => by
  have h' : RR.and (ev Φ γ false a) (fun x => RR.and (ev Φ γ false b) fun y => subD x y) = some r := h
  obtain ⟨ra, e1, e2⟩ := and_some h'
  refine wE_of (pe_ix ixAny (wE_ok ea) (wE_ok eb) (plainIx_ok hp)) (andR ((ih M X x γ π gx a ea h1).1 ra e1) e2 tk s E (fun _ _ _ => K) fun u v Hs1 H1 hd g1 r1 => ?_)
  obtain ⟨rb, e3, e4⟩ := and_some hd
  refine andR ((ih M X x γ π gx b eb h2).1 rb e3) e4 tk g1.sub (E.mono g1.sh) (fun _ _ _ => K.go g1) fun u2 v2 Hs2 H2 hd2 g2 r2 => ?_
  obtain ⟨rr, q1, q2⟩ := subR (X := X) hd2
  exact ⟨rr, q1, q2 Hs2 H2 v v2 Q _ g2.sub (r1.mono g2.sh) r2 (K.go (g1.trans g2))⟩
theorem s_neg (ih : IHt Φ S k n) (x : XO Φ S k M X) (gx : XG X π γ) (h1 : okE S n M a ea = true) (h : ev Φ γ false (.neg a) = some r) : PG X (γ.map (S2.sl π)) (.UnaryOp .USub ea p) r := fun W tk σ Hs H Q s E K => by
  have h' : RR.and (ev Φ γ false a) negD = some r := h
  obtain ⟨ra, e1, e2⟩ := and_some h'
  refine wE_of (pe_un un_neg (wE_ok ea)) (andR ((ih M X x γ π gx a ea h1).1 ra e1) e2 tk s E (fun _ _ _ => K) fun u v Hs1 H1 hd g1 r1 => ?_)
  obtain ⟨i, rfl, rfl⟩ := negR hd
  cases r1
  exact ⟨i, rfl, (K.go g1).val g1.sub (.int _)⟩
theorem s_not (ih : IHt Φ S k n) (x : XO Φ S k M X) (gx : XG X π γ) (h1 : okE S n M a ea = true) (h : ev Φ γ false (.not a) = some r) : PG X (γ.map (S2.sl π)) (.UnaryOp .Not ea p) r := fun W tk σ Hs H Q s E K => by
  have h' : RR.and (ev Φ γ false a) notD = some r := h
  obtain ⟨ra, e1, e2⟩ := and_some h'
  refine wE_of (pe_not (wE_ok ea)) (andR ((ih M X x γ π gx a ea h1).1 ra e1) e2 tk s E (fun _ _ _ => K) fun u v Hs1 H1 hd g1 r1 => ?_)
  obtain ⟨i, rfl, rfl⟩ := notR hd
  cases r1
  exact ⟨i, rfl, (K.go g1).val g1.sub (.bl _)⟩
theorem s_notT (ih : IHt Φ S k n) (x : XO Φ S k M X) (gx : XG X π γ) (h1 : okE S n M a ea = true) (h : ev Φ γ true (.not a) = some r) : PGW X (γ.map (S2.sl π)) (.UnaryOp .Not ea p) r := fun b hb => by
  subst hb
  have h' : RR.and (ev Φ γ true a) notD = some (.val (.bl b)) := h
  obtain ⟨ra, e1, e2⟩ := and_some h'
  refine ⟨?_, fun z => by cases z⟩
  cases ra with
  | val d =>
    obtain ⟨i, rfl, q⟩ := notR e2
    cases q
    exact pt_not ((ih M X x γ π gx a ea h1).2 _ e1 i rfl).1
  | new ds => obtain ⟨i, z, _⟩ := notR (x := .lst ds) e2; cases z
  | exc C fs => cases e2
theorem s_cmp (ih : IHt Φ S k n) (x : XO Φ S k M X) (gx : XG X π γ) {op : CmpOp} (hs : isSet eb = false) (h1 : okE S n M a ea = true) (h2 : okE S n M b eb = true) (h : ev Φ γ false (.cmp op a b) = some r) : PG X (γ.map (S2.sl π)) (.Compare ea [op] [eb] p) r := fun W tk σ Hs H Q s E K => by
  have h' : RR.and (ev Φ γ false a) (fun x => RR.and (ev Φ γ false b) fun y => (cmpD op x y).bind bv) = some r := h
  obtain ⟨ra, e1, e2⟩ := and_some h'
  refine wE_of (pe_cmpR opAny (wE_ok ea) (wE_ok eb) (noset hs)) (andR ((ih M X x γ π gx a ea h1).1 ra e1) e2 tk s E (fun _ _ _ => K) fun u v Hs1 H1 hd g1 r1 => ?_)
  obtain ⟨rb, e3, e4⟩ := and_some hd
  refine andR ((ih M X x γ π gx b eb h2).1 rb e3) e4 tk g1.sub (E.mono g1.sh) (fun _ _ _ => K.go g1) fun u2 v2 Hs2 H2 hd2 g2 r2 => ?_
  cases q : cmpD op u u2 with
  | none => rw [q] at hd2; cases hd2
  | some b' =>
    rw [q] at hd2
    cases hd2
    obtain ⟨rr, q1, q2⟩ := cmpR (X := X) q
    exact ⟨rr, q1, q2 Hs2 H2 v v2 Q g2.sub (r1.mono g2.sh) r2 (K.go (g1.trans g2))⟩
theorem s_cmpT (ih : IHt Φ S k n) (x : XO Φ S k M X) (gx : XG X π γ) {op : CmpOp} (hs : isSet eb = false) (h1 : okE S n M a ea = true) (h2 : okE S n M b eb = true) (h : ev Φ γ true (.cmp op a b) = some r) : PGW X (γ.map (S2.sl π)) (.Compare ea [op] [eb] p) r := fun bb hb => by
  subst hb
  have h' : RR.and (ev Φ γ false a) (fun x => RR.and (ev Φ γ false b) fun y => (cmpD op x y).bind bv) = some (.val (.bl bb)) := h
  refine ⟨fun σ Hs H Q s E K => ?_, fun z => by cases z⟩
  obtain ⟨ra, e1, e2⟩ := and_some h'
  refine wT_of (pt_cmpR opAny (wE_ok ea) (wE_ok eb) (noset hs)) (andR (Q0 := fun _ _ => True) ((ih M X x γ π gx a ea h1).1 ra e1) e2 takes0 s E noK fun u v Hs1 H1 hd g1 r1 => ?_)
  obtain ⟨rb, e3, e4⟩ := and_some hd
  refine andR (Q0 := fun _ _ => True) ((ih M X x γ π gx b eb h2).1 rb e3) e4 takes0 g1.sub (E.mono g1.sh) noK fun u2 v2 Hs2 H2 hd2 g2 r2 => ?_
  cases q : cmpD op u u2 with
  | none => rw [q] at hd2; cases hd2
  | some b' =>
    rw [q] at hd2
    cases hd2
    obtain ⟨rr, q1, q2⟩ := cmpR (X := X) q
    refine ⟨rr, q1, q2 Hs2 H2 v v2 _ g2.sub (r1.mono g2.sh) r2 fun w Hs3 H3 g3 r3 => ?_⟩
    cases r3
    exact ⟨_, rfl, K Hs3 H3 ((g1.trans g2).trans g3)⟩
/-- the chain's reading -/
theorem chn_go (ih : IHt Φ S k n) (x : XO Φ S k M X) (gx : XG X π γ) {o1 o2 : CmpOp} (h1 : okE S n M a ea = true) (h2 : okE S n M b eb = true) (h3 : okE S n M c ec = true) (h : ev Φ γ false (.chn o1 o2 a b c) = some r)
    {W : WX} (tk : Takes X W) {σ : L2.St} {Hs H : Hp} {Q : VK} (s : Same Hs H) (E : SE X.K Hs σ (γ.map (S2.sl π))) (K : KR X.K r Q (fun C dd H' => W (.ref C) (some dd) σ H') Hs H) :
    tChain (fun v u H Q => ∃ r, OpR X (compareOp o1) r ∧ r v u H Q) (fun v u H Q => ∃ r, OpR X (compareOp o2) r ∧ r v u H Q) (wE X ea) (wE X eb) (wE X ec) σ H Q := by
  have h' : RR.and (ev Φ γ false a) (fun x => RR.and (ev Φ γ false b) fun y => match cmpD o1 x y with
    | none => none
    | some false => bv false
    | some true => RR.and (ev Φ γ false c) fun z => (cmpD o2 y z).bind bv) = some r := h
  obtain ⟨ra, e1, e2⟩ := and_some h'
  refine andR ((ih M X x γ π gx a ea h1).1 ra e1) e2 tk s E (fun _ _ _ => K) fun u v Hs1 H1 hd g1 r1 => ?_
  obtain ⟨rb, e3, e4⟩ := and_some hd
  refine andR ((ih M X x γ π gx b eb h2).1 rb e3) e4 tk g1.sub (E.mono g1.sh) (fun _ _ _ => K.go g1) fun u2 v2 Hs2 H2 hd2 g2 r2 => ?_
  cases q : cmpD o1 u u2 with
  | none => rw [q] at hd2; cases hd2
  | some b' =>
    rw [q] at hd2
    obtain ⟨rr, q1, q2⟩ := cmpR (X := X) q
    refine ⟨rr, q1, q2 Hs2 H2 v v2 _ g2.sub (r1.mono g2.sh) r2 fun w Hs3 H3 g3 r3 => ?_⟩
    cases r3
    refine ⟨_, rfl, ?_⟩
    have g13 := (g1.trans g2).trans g3
    cases b' with
    | false =>
      rw [if_neg Bool.false_ne_true]
      cases hd2
      exact (K.go g13).val g3.sub (.bl false)
    | true =>
      rw [if_pos rfl]
      obtain ⟨rc, e5, e6⟩ := and_some hd2
      refine andR ((ih M X x γ π gx c ec h3).1 rc e5) e6 tk g3.sub (E.mono g13.sh) (fun _ _ _ => K.go g13) fun u3 v3 Hs4 H4 hd3 g4 r4 => ?_
      cases q3 : cmpD o2 u2 u3 with
      | none => rw [q3] at hd3; cases hd3
      | some b3 =>
        rw [q3] at hd3
        cases hd3
        obtain ⟨r5, q4, q5⟩ := cmpR (X := X) q3
        exact ⟨r5, q4, q5 Hs4 H4 v2 v3 _ g4.sub ((r2.mono g3.sh).mono g4.sh) r4 (K.go (g13.trans g4))⟩
theorem s_chn (ih : IHt Φ S k n) (x : XO Φ S k M X) (gx : XG X π γ) {o1 o2 : CmpOp} (hs : isSet ec = false) (h1 : okE S n M a ea = true) (h2 : okE S n M b eb = true) (h3 : okE S n M c ec = true) (h : ev Φ γ false (.chn o1 o2 a b c) = some r) : PG X (γ.map (S2.sl π)) (.Compare ea [o1, o2] [eb, ec] p) r := fun W tk σ Hs H Q s E K =>
  wE_of (pe_chain opAny opAny (wE_ok ea) (wE_ok eb) (wE_ok ec) (noset2 hs)) (chn_go ih x gx h1 h2 h3 h tk s E K)
theorem s_chnT (ih : IHt Φ S k n) (x : XO Φ S k M X) (gx : XG X π γ) {o1 o2 : CmpOp} (hs : isSet ec = false) (h1 : okE S n M a ea = true) (h2 : okE S n M b eb = true) (h3 : okE S n M c ec = true) (h : ev Φ γ true (.chn o1 o2 a b c) = some r) : PGW X (γ.map (S2.sl π)) (.Compare ea [o1, o2] [eb, ec] p) r := fun bb hb => by
  subst hb
  refine ⟨fun σ Hs H Q s E K => ?_, fun z => by cases z⟩
  refine wT_of (L2.pt_chain opAny opAny (wE_ok ea) (wE_ok eb) (wE_ok ec) (noset2 hs)) (chn_go ih x gx h1 h2 h3 (show ev Φ γ false (.chn o1 o2 a b c) = _ from h) takes0 s E fun w Hs3 H3 g3 r3 => ?_)
  cases r3
  exact ⟨_, rfl, K Hs3 H3 g3⟩
theorem s_isc (x : XO Φ S k M X) (ih : IHt Φ S k n) (gx : XG X π γ) {d : D} {cc : Const} {j : Nat} {p2 : Pos} (hc : okC d cc = true) (h1 : okE S n M a ea = true) (h : ev Φ γ false (.isc false a d) = some r) : (PG X (γ.map (S2.sl π)) (.Compare ea [.Is] [.Constant cc j p2] p) r) ∧ PGW X (γ.map (S2.sl π)) (.Compare ea [.Is] [.Constant cc j p2] p) r := by
  have h' : RR.and (ev Φ γ false a) (fun x => (iscD d x).bind fun b => bv (if false then !b else b)) = some r := h
  obtain ⟨ra, e1, e2⟩ := and_some h'
  have pa := (ih M X x γ π gx a ea h1).1 ra e1
  have main : ∀ y, PD X (γ.map (S2.sl π)) ea y → ((iscD d y).bind fun b => bv (if false then !b else b)) = some r → (PG X (γ.map (S2.sl π)) (.Compare ea [.Is] [.Constant cc j p2] p) r) ∧ PGW X (γ.map (S2.sl π)) (.Compare ea [.Is] [.Constant cc j p2] p) r := fun y py e => by
    unfold iscD at e
    unfold okC at hc
    split at hc
    · cases e
      exact ⟨PG.of_pd (pd_isN py), fun b hb => by cases hb; exact ⟨pt_isN py, fun z => by cases z⟩⟩
    · cases e
      have e' := eq_of_beq hc
      subst e'
      exact ⟨PG.of_pd (pd_isBl py), fun b hb => by cases hb; exact ⟨pt_isBl py, fun z => by cases z⟩⟩
    · cases e
    · cases e
    · cases hc
  cases ra with
  | val y => exact main y pa.pd e2
  | new ds => exact main _ pa.pn.pd e2
  | exc C fs =>
    cases e2
    refine ⟨fun W tk σ Hs H Q s E K => ?_, fun b hb => by cases hb⟩
    exact wE_of (pe_cmpR opAny (wE_ok ea) (wE_ok _) (noset rfl)) (pa W tk σ Hs H _ s E K)
theorem s_isn (x : XO Φ S k M X) (ih : IHt Φ S k n) (gx : XG X π γ) {j : Nat} {p2 : Pos} (h1 : okE S n M a ea = true) (h : ev Φ γ false (.isc true a .non) = some r) : (PG X (γ.map (S2.sl π)) (.Compare ea [.IsNot] [.Constant .none j p2] p) r) ∧ PGW X (γ.map (S2.sl π)) (.Compare ea [.IsNot] [.Constant .none j p2] p) r := by
  have h' : RR.and (ev Φ γ false a) (fun x => (iscD .non x).bind fun b => bv (if true then !b else b)) = some r := h
  obtain ⟨ra, e1, e2⟩ := and_some h'
  have pa := (ih M X x γ π gx a ea h1).1 ra e1
  have main : ∀ y, PD X (γ.map (S2.sl π)) ea y → ((iscD .non y).bind fun b => bv (if true then !b else b)) = some r → (PG X (γ.map (S2.sl π)) (.Compare ea [.IsNot] [.Constant .none j p2] p) r) ∧ PGW X (γ.map (S2.sl π)) (.Compare ea [.IsNot] [.Constant .none j p2] p) r := fun y py e => by
    cases e
    refine ⟨PG.of_pd ?_, fun b hb => by cases hb; exact ⟨pt_notN py, fun z => by cases z⟩⟩
    exact pd_cmp op_notN (fun Hs H v u Q s r1 r2 kk => by
      cases r2
      exact ⟨rfl, kk _ Hs H (Gr.refl s) (by rw [r1.non_iff]; exact .bl _)⟩) py pd_non
  cases ra with
  | val y => exact main y pa.pd e2
  | new ds => exact main _ pa.pn.pd e2
  | exc C fs =>
    cases e2
    refine ⟨fun W tk σ Hs H Q s E K => ?_, fun b hb => by cases hb⟩
    exact wE_of (pe_cmpR opAny (wE_ok ea) (wE_ok _) (noset rfl)) (pa W tk σ Hs H _ s E K)
end
end Ev
end

section
set_option autoImplicit false
set_option Elab.async false
set_option linter.all false
set_option maxRecDepth 100000
set_option maxHeartbeats 4000000
namespace Ev
open PySem PySem.Spec PyProof.Rows L2 Pd
section
variable {Φ : Phi} {S : Sta} {k n : Nat} {M : Md} {X : Cx} {γ : List S2} {π : Pt} {a b c o : IE} {ea eb ec eo : Expr} {p : Pos} {r : RR}
/-- a and rest, as values -/
theorem and_go {rest : List Expr} (pa : ∀ ra, ev Φ γ false a = some ra → PG X (γ.map (S2.sl π)) ea ra) (pb : ∀ rb, ev Φ γ false b = some rb → PG X (γ.map (S2.sl π)) (.BoolOp .And (eb :: rest) p) rb) (h : ev Φ γ false (.and a b) = some r) :
    PG X (γ.map (S2.sl π)) (.BoolOp .And (ea :: eb :: rest) p) r := fun W tk σ Hs H Q s E K => by
  have h' : RR.and (ev Φ γ false a) (fun
    | .bl true => ev Φ γ false b
    | .bl false => bv false
    | _ => none) = some r := h
  obtain ⟨ra, e1, e2⟩ := and_some h'
  refine wE_of (pe_and (wE_ok ea) (wE_ok _)) (andR (pa ra e1) e2 tk s E (fun _ _ _ => K) fun u v Hs1 H1 hd g1 r1 => ?_)
  split at hd
  · cases r1
    exact ⟨true, rfl, pb r hd W tk σ Hs1 H1 Q g1.sub (E.mono g1.sh) (K.go g1)⟩
  · cases r1
    cases hd
    exact ⟨false, rfl, (K.go g1).val g1.sub (.bl false)⟩
  · cases hd
theorem or_go {rest : List Expr} (pa : ∀ ra, ev Φ γ false a = some ra → PG X (γ.map (S2.sl π)) ea ra) (pb : ∀ rb, ev Φ γ false b = some rb → PG X (γ.map (S2.sl π)) (.BoolOp .Or (eb :: rest) p) rb) (h : ev Φ γ false (.or a b) = some r) :
    PG X (γ.map (S2.sl π)) (.BoolOp .Or (ea :: eb :: rest) p) r := fun W tk σ Hs H Q s E K => by
  have h' : RR.and (ev Φ γ false a) (fun
    | .bl true => bv true
    | .bl false => ev Φ γ false b
    | _ => none) = some r := h
  obtain ⟨ra, e1, e2⟩ := and_some h'
  refine wE_of (pe_or (wE_ok ea) (wE_ok _)) (andR (pa ra e1) e2 tk s E (fun _ _ _ => K) fun u v Hs1 H1 hd g1 r1 => ?_)
  split at hd
  · cases r1
    cases hd
    exact ⟨true, rfl, (K.go g1).val g1.sub (.bl true)⟩
  · cases r1
    exact ⟨false, rfl, pb r hd W tk σ Hs1 H1 Q g1.sub (E.mono g1.sh) (K.go g1)⟩
  · cases hd
theorem and_goT {rest : List Expr} (pa : ∀ ra, ev Φ γ true a = some ra → PGW X (γ.map (S2.sl π)) ea ra) (pb : ∀ q, ev Φ γ true b = some (.val (.bl q)) → PDW X (γ.map (S2.sl π)) (.BoolOp .And (eb :: rest) p) q) (h : ev Φ γ true (.and a b) = some r) :
    PGW X (γ.map (S2.sl π)) (.BoolOp .And (ea :: eb :: rest) p) r := fun q hq => by
  subst hq
  have h' : RR.and (ev Φ γ true a) (fun
    | .bl true => ev Φ γ true b
    | .bl false => bv false
    | _ => none) = some (.val (.bl q)) := h
  obtain ⟨ra, e1, e2⟩ := and_some h'
  have w : PDW X (γ.map (S2.sl π)) (.BoolOp .And (ea :: eb :: rest) p) q := by
    cases ra with
    | val d =>
      have e3 : (match d with
        | .bl true => ev Φ γ true b
        | .bl false => bv false
        | _ => none) = some (.val (.bl q)) := e2
      split at e3
      · have z := pw_and (q := q) ((pa _ e1) true rfl).1 fun _ => pb q e3
        rwa [Bool.true_and] at z
      · cases e3
        have z := pw_and (b := eb) (rest := rest) (pos := p) (q := false) ((pa _ e1) false rfl).1 fun h => by cases h
        exact z
      · cases e3
    | new ds => cases e2
    | exc C fs => cases e2
  exact ⟨w.pt, fun _ => w⟩
theorem or_goT {rest : List Expr} (pa : ∀ ra, ev Φ γ true a = some ra → PGW X (γ.map (S2.sl π)) ea ra) (pb : ∀ q, ev Φ γ true b = some (.val (.bl q)) → PDW X (γ.map (S2.sl π)) (.BoolOp .Or (eb :: rest) p) q) (h : ev Φ γ true (.or a b) = some r) :
    PGW X (γ.map (S2.sl π)) (.BoolOp .Or (ea :: eb :: rest) p) r := fun q hq => by
  subst hq
  have h' : RR.and (ev Φ γ true a) (fun
    | .bl true => bv true
    | .bl false => ev Φ γ true b
    | _ => none) = some (.val (.bl q)) := h
  obtain ⟨ra, e1, e2⟩ := and_some h'
  have w : PDW X (γ.map (S2.sl π)) (.BoolOp .Or (ea :: eb :: rest) p) q := by
    cases ra with
    | val d =>
      have e3 : (match d with
        | .bl true => bv true
        | .bl false => ev Φ γ true b
        | _ => none) = some (.val (.bl q)) := e2
      split at e3
      · cases e3
        have z := pw_or (b := eb) (rest := rest) (pos := p) (q := true) ((pa _ e1) true rfl).1 fun h => by cases h
        exact z
      · have z := pw_or (q := q) ((pa _ e1) false rfl).1 fun _ => pb q e3
        rwa [Bool.false_or] at z
      · cases e3
    | new ds => cases e2
    | exc C fs => cases e2
  exact ⟨w.pt, fun _ => w⟩
theorem PG.one {op : BoolOp} {g : List Sl} (h : PG X g ea r) : PG X g (.BoolOp op [ea] p) r := fun W tk σ Hs H Q s E K => wE_of (pe_one (wE_ok ea)) (h W tk σ Hs H Q s E K)
theorem bl?_ok {r : Option RR} {q : Bool} (h : bl? r = some q) : r = some (.val (.bl q)) := by
  unfold bl? at h
  split at h
  · cases h; rfl
  · cases h
theorem s_ife (ih : IHt Φ S k n) (x : XO Φ S k M X) (gx : XG X π γ) (h0 : okE S n M c ec = true) (h1 : okE S n M a ea = true) (h2 : okE S n M b eb = true) (h : ev Φ γ false (.ife c a b) = some r) : PG X (γ.map (S2.sl π)) (.IfExp ec ea eb p) r := fun W tk σ Hs H Q s E K => by
  have h' : (match bl? (ev Φ γ true c) with
    | some true => ev Φ γ false a
    | some false => ev Φ γ false b
    | none => none) = some r := h
  cases q : bl? (ev Φ γ true c) with
  | none => rw [q] at h'; cases h'
  | some q0 =>
    rw [q] at h'
    have pc := ((ih M X x γ π gx c ec h0).2 _ (bl?_ok q) q0 rfl).1
    refine wE_of (pe_ifExp (wT_ok ec) (wE_ok ea) (wE_ok eb)) (pc σ Hs H _ s E fun Hs' H' g => ?_)
    cases q0 with
    | true => exact (ih M X x γ π gx a ea h1).1 r h' W tk σ Hs' H' Q g.sub (E.mono g.sh) (K.go g)
    | false => exact (ih M X x γ π gx b eb h2).1 r h' W tk σ Hs' H' Q g.sub (E.mono g.sh) (K.go g)
theorem s_att (ih : IHt Φ S k n) (x : XO Φ S k M X) (gx : XG X π γ) {f : Str} (hc : isCall0 eo = false) (h1 : okE S n M o eo = true) (h : ev Φ γ false (.att o f) = some r) : PG X (γ.map (S2.sl π)) (.Attribute eo f p) r := fun W tk σ Hs H Q s E K => by
  have h' : RR.and (ev Φ γ false o) (fun x => match x with
    | .obj C fs => if Φ.fld C f then (fs.lookup f).map .val else none
    | _ => none) = some r := h
  obtain ⟨ra, e1, e2⟩ := and_some h'
  refine wE_of (pe_fld (wE_ok eo) (attr_base hc)) (andR ((ih M X x γ π gx o eo h1).1 ra e1) e2 tk s E (fun _ _ _ => K) fun u v Hs1 H1 hd g1 r1 => ?_)
  split at hd
  · split at hd
    next hf =>
      cases r1 with
      | obj h1 r1 =>
        cases q : List.lookup f _ with
        | none => rw [q] at hd; cases hd
        | some d =>
          rw [q] at hd
          cases hd
          obtain ⟨u, hu, ru⟩ := r1.get q
          obtain ⟨c1, c2⟩ := x.g.at_ _ f hf
          exact ⟨_, _, _, _, u, rfl, g1.sub _ _ h1, c1, c2, hu, (K.go g1).val g1.sub ru⟩
    · cases hd
  · cases hd
theorem s_fn (ih : IHt Φ S k n) (x : XO Φ S k M X) (gx : XG X π γ) {f : Nat} {nm : Str} {as : List IE} {e : Expr} {es : List Expr} {p2 : Pos} (hf : S.fname f = some nm) (hg : (glB M nm && plainN nm) = true) (h1 : all2 (okE S n M) as (e :: es) = true) (h : ev Φ γ false (.fn f as) = some r) :
    PG X (γ.map (S2.sl π)) (.Call (.Name nm p2) (e :: es) [] p) r := fun W tk σ Hs H Q s E K => by
  have h' : evL Φ γ as (fun ds => Φ.call f ds) = some r := h
  obtain ⟨fa, fd, ps, F, m, kp, bd, _⟩ := x.g.fn f nm hf
  obtain ⟨q1, q2, _⟩ := glB_ok x hg
  have ns : ∀ y ∈ (e :: es), isStar y = false := fun y hy => by
    obtain ⟨i, hi⟩ := all2_mem h1 y hy
    exact ok_nostar hi
  refine wE_of (pe_callS F x.hr q1 m kp bd (fun σ => passAt tk σ) (wA_ok _) q2 (star_cons (ns e (List.mem_cons_self ..))) (star_any fun y hy => ns y (List.mem_cons_of_mem _ hy))) ?_
  exact argsR ih x gx tk h1 h' s E (fun _ _ _ => K) fun ds vs Hs1 H1 hk g1 r1 => ⟨Hs1, ds, r, g1.sub, r1, hk, K.go g1⟩
theorem s_bi (ih : IHt Φ S k n) (x : XO Φ S k M X) (gx : XG X π γ) {bb : BI} {nm : Str} {as : List IE} {e : Expr} {es : List Expr} {p2 : Pos} (hkn : biKnown bb = true) (hb : biN bb = nm) (hg : free S M nm = true) (h1 : all2 (okE S n M) as (e :: es) = true) (nt : bb ≠ .trg) (nl : bb ≠ .lset) (h : ev Φ γ false (.bi bb as) = some r) :
    PG X (γ.map (S2.sl π)) (.Call (.Name nm p2) (e :: es) [] p) r := fun W tk σ Hs H Q s E K => by
  have h' : evL Φ γ as (fun ds => biD bb ds) = some r := h
  obtain ⟨q1, q2, q3, q4⟩ := free_ok x hg
  have ns : ∀ y ∈ (e :: es), isStar y = false := fun y hy => by
    obtain ⟨i, hi⟩ := all2_mem h1 y hy
    exact ok_nostar hi
  have n1 := star_cons (env := X.env) (es := es) (ns e (List.mem_cons_self ..))
  have n2 := star_any (pos := p) (env := X.env) fun y (hy : y ∈ es) => ns y (List.mem_cons_of_mem _ hy)
  subst hb
  by_cases hk : ∃ id, bootBuiltins (biN bb) = some (.builtin id)
  · obtain ⟨id, hid⟩ := hk
    refine wE_of (pe_callB callAny q1 q2 hid (wA_ok _) q4 q3 n1 n2) (argsR ih x gx tk h1 h' s E (fun _ _ _ => K) fun ds vs Hs1 H1 hk g1 r1 => ?_)
    rcases biOk (X := X) hk nt nl with ⟨id', rr, w1, w2, w3⟩ | ⟨T, rr, w1, w2, w3⟩
    · rw [w1] at hid; cases hid
      exact ⟨rr, w2, w3 Hs1 H1 vs Q _ g1.sub r1 (K.go g1)⟩
    · rw [w1] at hid; cases hid
  · by_cases hk2 : ∃ T, bootBuiltins (biN bb) = some (.type T)
    · obtain ⟨T, hT⟩ := hk2
      refine wE_of (pe_callTy callAny q1 q2 hT (wA_ok _) q4 q3 n1 n2) (argsR ih x gx tk h1 h' s E (fun _ _ _ => K) fun ds vs Hs1 H1 hk g1 r1 => ?_)
      rcases biOk (X := X) hk nt nl with ⟨id', rr, w1, w2, w3⟩ | ⟨T', rr, w1, w2, w3⟩
      · rw [w1] at hT; cases hT
      · rw [w1] at hT; cases hT
        exact ⟨rr, w2, w3 Hs1 H1 vs Q _ g1.sub r1 (K.go g1)⟩
    · exfalso
      unfold biKnown at hkn
      split at hkn
      next id q => exact hk ⟨_, q⟩
      next T q => exact hk2 ⟨_, q⟩
      next => cases hkn
end
end Ev
end

section
set_option autoImplicit false
set_option Elab.async false
set_option linter.all false
set_option maxRecDepth 100000
set_option maxHeartbeats 4000000
namespace Ev
open PySem PySem.Spec PyProof.Rows L2 Pd
section
variable {Φ : Phi} {S : Sta} {k n : Nat} {M : Md} {X : Cx} {γ : List S2} {π : Pt} {a b c o : IE} {ea eb ec eo : Expr} {p : Pos} {r : RR}
theorem s_loc (x : XO Φ S k M X) {i : Nat} {nm : Str} (hn : isN M i nm = true) (h : ev Φ γ false (.loc i) = some r) : PG X (γ.map (S2.sl π)) (.Name nm p) r := by
  have h' : (match γ[i]? with
    | some (.sh d) => some (RR.val d)
    | _ => none) = some r := h
  obtain ⟨q1, q2, q3, q4⟩ := visB_ok x hn
  split at h'
  next d e =>
    cases h'
    exact PG.of_pd (pd_v i (map_at e) q1 q2 q3 q4)
  next => cases h'
theorem s_glo (x : XO Φ S k M X) {i : Nat} {nm : Str} (hs : S.gname i = some nm) (hg : (glB M nm && plainN nm) = true) (h : ev Φ γ false (.glo i) = some r) : PG X (γ.map (S2.sl π)) (.Name nm p) r := by
  have h' : (Φ.glob i).map RR.val = some r := h
  obtain ⟨q1, q2, _⟩ := glB_ok x hg
  cases e : Φ.glob i with
  | none => rw [e] at h'; cases h'
  | some d =>
    rw [e] at h'
    cases h'
    obtain ⟨v, u, m, rv, hv⟩ := x.g.gl i nm d hs e
    exact PG.of_pd (pd_glob q1 m rv hv q2)
theorem s_kls (x : XO Φ S k M X) {i : Nat} {nm : Str} (hs : S.cname i = some nm) (hg : (glB M nm && plainN nm) = true) (h : ev Φ γ false (.kls i) = some r) : PG X (γ.map (S2.sl π)) (.Name nm p) r := by
  obtain ⟨q1, q2, _⟩ := glB_ok x hg
  have h' : some (RR.val (.adr (Φ.ga i))) = some r := h
  cases h'
  exact PG.of_pd (pd_glob (v := .ref (Φ.ga i)) q1 (x.g.kl i nm hs) rfl (fun _ => .adr _) q2)
theorem s_lst (ih : IHt Φ S k n) (x : XO Φ S k M X) (gx : XG X π γ) {as : List IE} {es : List Expr} (h1 : all2 (okE S n M) as es = true) (h : ev Φ γ false (.lst as) = some r) : PG X (γ.map (S2.sl π)) (.List es p) r := fun W tk σ Hs H Q s E K => by
  have h' : evL Φ γ as (fun ds => if ds.length ≤ 100000 then some (.new ds) else none) = some r := h
  refine wE_of (pe_lst (wA_ok es)) (argsR ih x gx tk h1 h' s E (fun _ _ _ => K) fun ds vs Hs1 H1 hk g1 r1 => ?_)
  split at hk
  next hz =>
    cases hk
    exact ⟨sz_of (by rw [r1.length]; exact hz), newL g1.sub r1 (K.go g1)⟩
  next => cases hk
theorem s_tup (ih : IHt Φ S k n) (x : XO Φ S k M X) (gx : XG X π γ) {as : List IE} {es : List Expr} {j : Nat} (h1 : all2 (okE S n M) as es = true) (h : ev Φ γ false (.tup as) = some r) : PG X (γ.map (S2.sl π)) (.Tuple es j p) r := fun W tk σ Hs H Q s E K => by
  have h' : evL Φ γ as (fun ds => if ds.length ≤ 100000 then some (.val (.tup ds)) else none) = some r := h
  refine wE_of (pe_tup (wA_ok es)) (argsR ih x gx tk h1 h' s E (fun _ _ _ => K) fun ds vs Hs1 H1 hk g1 r1 => ?_)
  split at hk
  next hz =>
    cases hk
    exact ⟨sz_of (by rw [r1.length]; exact hz), newT g1.sub r1 (K.go g1)⟩
  next => cases hk
def okO1 (S : Sta) (n : Nat) (M : Md) (lo : List IE) (l : Option Expr) : Bool := match lo, l with
  | [], none => true
  | [i], some y => okE S n M i y
  | _, _ => false
theorem evO_ok (ih : IHt Φ S k n) (x : XO Φ S k M X) (gx : XG X π γ) {lo : List IE} {l : Option Expr} {q : Option Int} (h : okO1 S n M lo l = true) (e : evO Φ γ lo = some q) : PDO X (γ.map (S2.sl π)) l q := by
  unfold okO1 at h
  split at h
  · have e' : (some none : Option (Option Int)) = some q := e
    cases e'
    exact trivial
  · next i y =>
    have e' : (match RR.d? (ev Φ γ false i) with
      | some (.int i) => some (some i)
      | _ => none) = some q := e
    split at e'
    · next j hj =>
      cases e'
      cases z : ev Φ γ false i with
      | none => rw [z] at hj; cases hj
      | some ra =>
        rw [z] at hj
        exact ((ih M X x γ π gx i y h).1 ra z).d hj
    · cases e'
  · cases h
theorem s_slc (ih : IHt Φ S k n) (x : XO Φ S k M X) (gx : XG X π γ) {lo hi : List IE} {l h0 : Option Expr} {p2 : Pos} (h1 : okE S n M a ea = true) (hl : okO1 S n M lo l = true) (hh : okO1 S n M hi h0 = true) (h : ev Φ γ false (.slc a lo hi) = some r) :
    PG X (γ.map (S2.sl π)) (.Subscript ea (.Slice l h0 none p2) p) r := fun W tk σ Hs H Q s E K => by
  have h' : RR.and (ev Φ γ false a) (fun x => match evO Φ γ lo, evO Φ γ hi with
    | some l, some h => slcD x l h
    | _, _ => none) = some r := h
  obtain ⟨ra, e1, e2⟩ := and_some h'
  refine wE_of (pe_slice slAny (wE_ok ea) (tO_ok l) (tO_ok h0)) (andR ((ih M X x γ π gx a ea h1).1 ra e1) e2 tk s E (fun _ _ _ => K) fun u v Hs1 H1 hd g1 r1 => ?_)
  cases q1 : evO Φ γ lo with
  | none => rw [q1] at hd; cases hd
  | some ql =>
    cases q2 : evO Φ γ hi with
    | none => rw [q1, q2] at hd; cases hd
    | some qh =>
      rw [q1, q2] at hd
      refine po_go (evO_ok (π := π) ih x gx hl q1) g1.sub (E.mono g1.sh) fun Hs2 H2 g2 => ?_
      refine po_go (evO_ok (π := π) ih x gx hh q2) g2.sub (E.mono (g1.trans g2).sh) fun Hs3 H3 g3 => ?_
      obtain ⟨rr, w1, w2⟩ := slcR (X := X) hd
      exact ⟨rr, w1, w2 Hs3 H3 v Q _ g3.sub ((r1.mono g2.sh).mono g3.sh) (K.go ((g1.trans g2).trans g3))⟩
theorem s_rev (ih : IHt Φ S k n) (x : XO Φ S k M X) (gx : XG X π γ) {j : Nat} {p1 p2 p3 : Pos} (h1 : okE S n M a ea = true) (h : ev Φ γ false (.rev a) = some r) : PG X (γ.map (S2.sl π)) (.Subscript ea (.Slice none none (some (.UnaryOp .USub (.Constant (.int 1) j p1) p2)) p3) p) r := by
  have h' : RR.and (ev Φ γ false a) (fun x => match x with
    | .tup ds => some (.val (.tup ds.reverse))
    | _ => none) = some r := h
  obtain ⟨ra, e1, e2⟩ := and_some h'
  have pa := (ih M X x γ π gx a ea h1).1 ra e1
  have main : ∀ d, PD X (γ.map (S2.sl π)) ea d → (match d with
    | .tup ds => some (RR.val (.tup ds.reverse))
    | _ => none) = some r → PG X (γ.map (S2.sl π)) (.Subscript ea (.Slice none none (some (.UnaryOp .USub (.Constant (.int 1) j p1) p2)) p3) p) r := fun d pd e => by
    split at e
    · cases e
      exact PG.of_pd (pd_rvT pd)
    · cases e
  cases ra with
  | val d => exact main d pa.pd e2
  | new ds => exact main _ pa.pn.pd e2
  | exc C fs =>
    cases e2
    exact fun W tk σ Hs H Q s E K => wE_of (pe_rvT (wE_ok ea)) (pa W tk σ Hs H _ s E K)
theorem d_of {g : List Sl} {r : Option RR} {d : D} (h : RR.d? r = some d) (hp : ∀ ra, r = some ra → PG X g ea ra) : PD X g ea d := by
  cases r with
  | none => cases h
  | some ra => exact (hp ra rfl).d h
theorem evL1 {kf : List D → Option RR} (h : evL Φ γ [a] kf = some r) : (∃ d, RR.d? (ev Φ γ false a) = some d ∧ kf [d] = some r) ∨ ∃ C fs, ev Φ γ false a = some (.exc C fs) ∧ r = .exc C fs := by
  have h' : RR.and (ev Φ γ false a) (fun d => kf [d]) = some r := h
  obtain ⟨ra, e1, e2⟩ := and_some h'
  rw [e1]
  cases ra with
  | val d => exact .inl ⟨d, rfl, e2⟩
  | new ds => exact .inl ⟨_, rfl, e2⟩
  | exc C fs => cases e2; exact .inr ⟨C, fs, rfl, rfl⟩
theorem ints_ok : ∀ {ds : List D} {ns : List Int}, ints? ds = some ns → ds = ns.map .int
  | [], _, h => by cases h; rfl
  | d :: r, ns, h => by
    unfold ints? at h
    split at h
    · next z => cases z
    · next i r' z =>
      cases z
      cases q : ints? r with
      | none => rw [q] at h; cases h
      | some l => rw [q] at h; cases h; rw [ints_ok q]; rfl
    · cases h
theorem s_inb (ih : IHt Φ S k n) (x : XO Φ S k M X) (gx : XG X π γ) {t : String} {z : Str} {p2 p3 : Pos} (hg : free S M "isinstance" = true) (hz : free S M z = true) (hb : bootBuiltins z = some (.type t)) (h1 : okE S n M a ea = true) (h : ev Φ γ false (.inb a t) = some r) :
    PG X (γ.map (S2.sl π)) (.Call (.Name "isinstance" p2) [ea, .Name z p3] [] p) r := by
  have h' : RR.and (ev Φ γ false a) (fun x => match x.tyN with
    | some t' => (kitB t' t).bind bv
    | none => none) = some r := h
  obtain ⟨ra, e1, e2⟩ := and_some h'
  have pa := (ih M X x γ π gx a ea h1).1 ra e1
  obtain ⟨q1, q2, q3, q4⟩ := free_ok x hg
  obtain ⟨w1, w2, w3, w4⟩ := free_ok x hz
  have n1 : starEach [ea, .Name z p3] X.env = (false, eval ea X.env) :: starEach [.Name z p3] X.env := star_cons (ok_nostar h1)
  have main : ∀ d, PD X (γ.map (S2.sl π)) ea d → (match d.tyN with
    | some t' => (kitB t' t).bind bv
    | none => none) = some r → PG X (γ.map (S2.sl π)) (.Call (.Name "isinstance" p2) [ea, .Name z p3] [] p) r := fun d pd e => by
    split at e
    · next t' ht =>
      cases q : kitB t' t with
      | none => rw [q] at e; cases e
      | some bb =>
        rw [q] at e
        cases e
        exact PG.of_pd (pd_isi pd ht q q2 w2 hb q1 w1 w4 w3 n1 rfl rfl)
    · cases e
  cases ra with
  | val d => exact main d pa.pd e2
  | new ds => exact main _ pa.pn.pd e2
  | exc C fs =>
    cases e2
    exact fun W tk σ Hs H Q s E K => wE_of (pe_callB (id := "isinstance") (r := fun _ _ _ => False) (fun _ _ _ _ _ _ _ _ _ z => z.elim) q1 q2 (by decide +kernel) (wA_ok _) q4 q3 n1 rfl) (wA_of (L2.pa_cons (wE_ok ea) (wA_ok _) n1) (pa W tk σ Hs H _ s E K))
theorem s_trg (ih : IHt Φ S k n) (x : XO Φ S k M X) (gx : XG X π γ) (hcm : M.calm = true) {p1 p2 p3 : Pos} (hg : free S M "tuple" = true) (hz : free S M "range" = true) (h1 : okE S n M a ea = true) (h : ev Φ γ false (.bi .trg [a]) = some r) :
    PG X (γ.map (S2.sl π)) (.Call (.Name "tuple" p1) [.Call (.Name "range" p2) [ea] [] p3] [] p) r := by
  have h' : evL Φ γ [a] (fun ds => biD .trg ds) = some r := h
  obtain ⟨q1, q2, q3, q4⟩ := free_ok x hg
  obtain ⟨w1, w2, w3, w4⟩ := free_ok x hz
  have na := star_cons (env := X.env) (es := []) (ok_nostar h1)
  rcases evL1 h' with ⟨d, e1, e2⟩ | ⟨C, fs, e1, rfl⟩
  · have pd := d_of e1 ((ih M X x γ π gx a ea h1).1)
    have e2' : biD .trg [d] = some r := e2
    unfold biD at e2'
    split at e2' <;> first | contradiction | skip
    next i z =>
      cases z
      split at e2'
      next hb =>
        cases e2'
        exact PG.of_pd (pd_tupRg pd hb.1 hb.2 q2 w2 q1 w1 na (x.calm hcm))
      next => cases e2'
  · exact fun W tk σ Hs H Q s E K => wE_of (pe_tupRg (x.calm hcm) q1 q2 (prg_1 w1 w2 (wE_ok ea) na) rfl) ((ih M X x γ π gx a ea h1).1 _ e1 W tk σ Hs H _ s E K)
theorem s_lset (ih : IHt Φ S k n) (x : XO Φ S k M X) (gx : XG X π γ) (hcm : M.calm = true) {p1 p2 p3 : Pos} (hg : free S M "len" = true) (hz : free S M "set" = true) (h1 : okE S n M a ea = true) (h : ev Φ γ false (.bi .lset [a]) = some r) :
    PG X (γ.map (S2.sl π)) (.Call (.Name "len" p1) [.Call (.Name "set" p2) [ea] [] p3] [] p) r := by
  have h' : evL Φ γ [a] (fun ds => biD .lset ds) = some r := h
  obtain ⟨q1, q2, q3, q4⟩ := free_ok x hg
  obtain ⟨w1, w2, w3, w4⟩ := free_ok x hz
  have na := star_cons (env := X.env) (es := []) (ok_nostar h1)
  rcases evL1 h' with ⟨d, e1, e2⟩ | ⟨C, fs, e1, rfl⟩
  · have pd := d_of e1 ((ih M X x γ π gx a ea h1).1)
    have e2' : biD .lset [d] = some r := e2
    unfold biD at e2'
    split at e2' <;> first | contradiction | skip
    next ds z1 z =>
      cases z
      cases q : ints? ds with
      | none => rw [q] at e2'; cases e2'
      | some ns =>
        rw [q] at e2'
        have e3 : (if ns.length ≤ 4000 then iv (kinds ns).length else none) = some r := e2'
        split at e3
        next hb =>
          cases e3
          rw [ints_ok q] at pd
          exact PG.of_pd (pd_lenS2 pd hb q2 w2 q1 w1 (x.calm hcm) na)
        next => cases e3
  · exact fun W tk σ Hs H Q s E K => wE_of (pe_lenS q1 q2 w1 w2 (wE_ok ea) (x.calm hcm) na) ((ih M X x γ π gx a ea h1).1 _ e1 W tk σ Hs H _ s E K)
theorem evD1 {ds : List D} (h : evD Φ γ [a] = some ds) : ∃ d, RR.d? (ev Φ γ false a) = some d ∧ ds = [d] := by
  have h' : (match RR.d? (ev Φ γ false a), (some [] : Option (List D)) with
    | some d, some ds => some (d :: ds)
    | _, _ => none) = some ds := h
  cases q : RR.d? (ev Φ γ false a) with
  | none => rw [q] at h'; cases h'
  | some d => rw [q] at h'; cases h'; exact ⟨d, rfl, rfl⟩
theorem evD2 {ds : List D} (h : evD Φ γ [a, b] = some ds) : ∃ d e, RR.d? (ev Φ γ false a) = some d ∧ RR.d? (ev Φ γ false b) = some e ∧ ds = [d, e] := by
  have h' : (match RR.d? (ev Φ γ false a), evD Φ γ [b] with
    | some d, some ds => some (d :: ds)
    | _, _ => none) = some ds := h
  cases q : RR.d? (ev Φ γ false a) with
  | none => rw [q] at h'; cases h'
  | some d =>
    cases q2 : evD Φ γ [b] with
    | none => rw [q, q2] at h'; cases h'
    | some l =>
      rw [q, q2] at h'
      cases h'
      obtain ⟨e, w1, rfl⟩ := evD1 q2
      exact ⟨d, e, rfl, w1, rfl⟩
theorem it_ok (ih : IHt Φ S k n) (x : XO Φ S k M X) (gx : XG X π γ) {kk : IK} {its : List IE} {e tg : Expr} {items : List D} (h : okIt (okE S n M) S M kk its e = true) (hv : (evD Φ γ its).bind (itms kk) = some items) (ht : kk = .en → ∃ elts j tp, tg = .Tuple elts j tp) :
    PDIt X (γ.map (S2.sl π)) tg e items ∧ ∀ y, foldedSetIterable e X.env y = pure y := by
  obtain ⟨h0, h⟩ := ba h
  refine ⟨?_, noset_it (nb h0)⟩
  split at h
  · next a y =>
    cases q : evD Φ γ [a] with
    | none => rw [q] at hv; cases hv
    | some ds =>
      rw [q] at hv
      obtain ⟨d, e1, rfl⟩ := evD1 q
      have pd := d_of e1 ((ih M X x γ π gx a _ h).1)
      have e2 : itms .vl [d] = some items := hv
      unfold itms at e2
      split at e2 <;> first | contradiction | skip
      · next l z1 z => cases z; cases e2; exact (it_l pd).at tg
      · next l z1 z => cases z; cases e2; exact (it_r pd).at tg
      · next l z1 z => cases z; cases e2; exact (it_t pd).at tg
      · next l z1 z => cases z; cases e2; exact (it_s pd).at tg
  · next nm p1 xs p2 h9 =>
    obtain ⟨hn, hA⟩ := ba h
    obtain ⟨hf, hB⟩ := ba hA
    obtain ⟨hl, hC⟩ := ba hB
    have hn := of_decide_eq_true hn
    subst hn
    obtain ⟨q1, q2, q3, q4⟩ := free_ok x hf
    match xs, its, hC, hv with
    | [y], [a], h, hv =>
      obtain ⟨h1, _⟩ := ba h
      cases q : evD Φ γ [a] with
      | none => rw [q] at hv; cases hv
      | some ds =>
        rw [q] at hv
        obtain ⟨d, e1, rfl⟩ := evD1 q
        have pd := d_of e1 ((ih M X x γ π gx a _ h1).1)
        have e2 : itms .rg [d] = some items := hv
        unfold itms at e2
        split at e2 <;> first | contradiction | skip
        · next j z1 z =>
          cases z
          split at e2
          next hb =>
            cases e2
            exact (it_range1 pd q2 hb.1 hb.2 q1 (star_cons (ok_nostar h1))).at tg
          next => cases e2
        · next z => cases z
    | [y, z], [a, b], h, hv =>
      obtain ⟨h1, h⟩ := ba h
      obtain ⟨h2, _⟩ := ba h
      cases q : evD Φ γ [a, b] with
      | none => rw [q] at hv; cases hv
      | some ds =>
        rw [q] at hv
        obtain ⟨d, d2, e1, e3, rfl⟩ := evD2 q
        have pd := d_of e1 ((ih M X x γ π gx a _ h1).1)
        have pd2 := d_of e3 ((ih M X x γ π gx b _ h2).1)
        have e2 : itms .rg [d, d2] = some items := hv
        unfold itms at e2
        split at e2 <;> first | contradiction | skip
        · next z => cases z
        next i j z1 z =>
          cases z
          split at e2
          next hb =>
            cases e2
            have s2 : starEach [z] X.env = [(false, eval z X.env)] := star_cons (ok_nostar h2)
            exact (it_range2 pd pd2 q2 ⟨hb.1.1, hb.1.2, hb.2.1, hb.2.2⟩ q1 (by rw [star_cons (ok_nostar h1), s2]) s2).at tg
          next => cases e2
    | [], [], _, _ => cases hl
    | _ :: _ :: _ :: _, _, _, _ => cases hl
    | [], _ :: _, h, _ => cases h
    | [_], [], h, _ => cases h
    | [_], _ :: _ :: _, h, _ => exact (by obtain ⟨_, h⟩ := ba h; cases h)
    | [_, _], [], h, _ => cases h
    | [_, _], [_], h, _ => exact (by obtain ⟨_, h⟩ := ba h; cases h)
    | [_, _], _ :: _ :: _ :: _, h, _ => exact (by obtain ⟨_, h⟩ := ba h; obtain ⟨_, h⟩ := ba h; cases h)
  · next nm p1 xs p2 h9 =>
    obtain ⟨hn, hA⟩ := ba h
    obtain ⟨hf, hB⟩ := ba hA
    obtain ⟨hl, hC⟩ := ba hB
    have hn := of_decide_eq_true hn
    subst hn
    obtain ⟨q1, q2, q3, q4⟩ := free_ok x hf
    obtain ⟨elts, j, tp, rfl⟩ := ht rfl
    match xs, its, hC, hv with
    | [y], [a], h, hv =>
      obtain ⟨h1, _⟩ := ba h
      cases q : evD Φ γ [a] with
      | none => rw [q] at hv; cases hv
      | some ds =>
        rw [q] at hv
        obtain ⟨d, e1, rfl⟩ := evD1 q
        have pd := d_of e1 ((ih M X x γ π gx a _ h1).1)
        have e2 : itms .en [d] = some items := hv
        unfold itms at e2
        split at e2 <;> first | contradiction | skip
        · next l z1 z => cases z; cases e2; exact it_enL pd q2 q1 (star_cons (ok_nostar h1))
        · next l z1 z => cases z; cases e2; exact it_enT pd q2 q1 (star_cons (ok_nostar h1))
    | [], [], _, _ => cases hl
    | _ :: _ :: _, _, _, _ => cases hl
    | [], _ :: _, h, _ => cases h
    | [_], [], h, _ => cases h
    | [_], _ :: _ :: _, h, _ => exact (by obtain ⟨_, h⟩ := ba h; cases h)
  · cases h
end
end Ev
end

section
set_option autoImplicit false
set_option Elab.async false
set_option linter.all false
set_option maxRecDepth 100000
set_option maxHeartbeats 4000000
namespace Ev
open PySem PySem.Spec PyProof.Rows L2 Pd
theorem ht_of {o : Expr} {m : Str} {apos pos : Pos} {env : Env} {es : List Expr} {kws : List Keyword} (h : isCall0 o = false) (f : methodCallForm (es.length + kws.length) (backTo pos (starEach es env)) (backToKw pos (keywordEach kws env)) = true) (hl : (apos.endLine == pos.line) = true) : eval (.Call (.Attribute o m apos) es kws pos) env = (do
      let ov ← eval o env
      standAt apos.atName
      let (f, first) ← holding [ov] (getMethod ov m (do return (← importBound o env).getD true))
      callWith pos f first (backTo pos (starEach es env)) (backToKw pos (keywordEach kws env))) := by
  show (do
    let ov ← attributeBase o m env (eval o env)
    standAt apos.atName
    methodCall o m apos pos env ov (es.length + kws.length) (backTo pos (starEach es env)) (backToKw pos (keywordEach kws env))) = _
  rw [attr_base h]
  unfold methodCall
  rw [f]
  have e : methodCallPos true o env apos pos = pure pos := by
    unfold methodCallPos
    rw [hl]
    rfl
  rw [e]
  rfl
/-! ### any call's arguments -/
def wK (X : Cx) (kws : List Keyword) : TA := fun σ H Q => ∀ (pos : Pos) (pins : List (Addr × Obj)) (s : Shared), Inv X pins σ H s → wpAny (model X.prog X.w) X.A (evalAll ((backToKw pos (keywordEach kws X.env)).map (·.2))) (AP X pins σ Q) X.xe s
theorem wK_of {X : Cx} {kws : List Keyword} {t : TA} (h : PK X kws t) {σ : L2.St} {H : Hp} {Q : List V → Hp → Prop} (q : t σ H Q) : wK X kws σ H Q := fun pos pins s I => h.run pos pins s σ H Q I q
theorem wK_ok {X : Cx} (kws : List Keyword) : PK X kws (wK X kws) := ⟨fun pos pins s σ H Q I h => h pos pins s I⟩
def wA0 (X : Cx) : List Expr → TA
  | [] => fun _ H Q => Q [] H
  | e :: es => wA X (e :: es)
def wK0 (X : Cx) : List Keyword → TA
  | [] => fun _ H Q => Q [] H
  | e :: es => wK X (e :: es)
section
variable {X : Cx} {pins : List (Addr × Obj)} {σ : L2.St} {H : Hp} {s : Shared}
theorem cw_any {f : Value} {first : List Value} {es : List Expr} {kws : List Keyword} {pos : Pos} {Q' : Value → Shared → Prop} {R : List V → List V → Hp → Prop} (I : Inv X pins σ H s) (hk : PySem.W.keepIn X.K f = true) (ns : ∀ y ∈ es, isStar y = false) (hall : (backToKw pos (keywordEach kws X.env)).all (·.1.isSome) = true)
    (hany : (backToKw pos (keywordEach kws X.env)).any (·.1.isNone) = false) (h : wA0 X es σ H fun vs H1 => wK0 X kws σ H1 fun zs H2 => R vs zs H2)
    (k : ∀ us ws vs zs s' H2, Inv X pins σ H2 s' → Vals vs us → Vals zs ws → R vs zs H2 → wpAny (model X.prog X.w) X.A (call f (first ++ us) (((backToKw pos (keywordEach kws X.env)).filterMap (·.1)).zip ws)) Q' X.xe s') :
    wpAny (model X.prog X.w) X.A (callWith pos f first (backTo pos (starEach es X.env)) (backToKw pos (keywordEach kws X.env))) Q' X.xe s := by
  have ap := fun (e : Expr) (es : List Expr) (ns : ∀ y ∈ e :: es, isStar y = false) => star_any (pos := pos) (env := X.env) fun y (hy : y ∈ es) => ns y (List.mem_cons_of_mem _ hy)
  cases es with
  | nil =>
    cases kws with
    | nil =>
      have z := k [] [] [] [] s H I .nil .nil h
      exact PySem.W.callWith_K0 I.kIn hk z
    | cons kw kws =>
      refine PySem.W.callWith_KW0 (h₀ := X.base) I.ok.mod.kin hk hall ?_ (by rw [hany]; rfl)
      refine thn (h pos pins s I) fun ws s2 ⟨zs, H2, I2, rz, q2⟩ => ⟨I2.kIn, ?_⟩
      exact k [] ws [] zs s2 H2 I2 .nil rz q2
  | cons e es =>
    have he := star_cons (env := X.env) (es := es) (ns e (List.mem_cons_self ..))
    have hp := ap e es ns
    cases kws with
    | nil =>
      refine PySem.W.callWith_K (h₀ := X.base) I.ok.mod.kin hk (thn (h pos pins s I) fun us s1 ⟨vs, H1, I1, r, q⟩ => ⟨I1.kIn, ?_⟩) he hp
      exact k us [] vs [] s1 H1 I1 r .nil q
    | cons kw kws =>
      have hp2 : ((backTo pos (starEach (e :: es) X.env)).any (·.1) || (backToKw pos (keywordEach (kw :: kws) X.env)).any (·.1.isNone)) = false := by
        rw [hany, star_any (es := e :: es) (fun y hy => ns y hy)]; rfl
      refine PySem.W.callWith_KW (h₀ := X.base) I.ok.mod.kin hk hall (thn (h pos pins s I) fun us s1 ⟨vs, H1, I1, r, q⟩ => ?_) hp2 he
      refine thn (q pos pins s1 I1) fun ws s2 ⟨zs, H2, I2, rz, q2⟩ => ⟨I2.kIn, ?_⟩
      exact k us ws vs zs s2 H2 I2 r rz q2
theorem Reps.arr {K : PySem.W.Frag} {H : Hp} {vs zs : List V} {ds es : List D} (r1 : Reps K H vs ds) (r2 : Reps K H zs es) : ∀ {pl : List PA}, (∀ q ∈ pl, okPA vs.length zs.length q) → Reps K H (pl.map (paV vs zs)) (pl.map (paD ds es))
  | [], _ => .nil
  | q :: pl, h => by
    refine .cons ?_ (Reps.arr r1 r2 fun x hx => h x (List.mem_cons_of_mem _ hx))
    have hq := h q (List.mem_cons_self ..)
    cases q with
    | pos j =>
      have hj : j < ds.length := by rw [← r1.length]; exact hq
      obtain ⟨v, e1, e2⟩ := r1.get (i := j) (d := ds[j]) (by simp [hj])
      show Rep K H (vs.getD j .non) (ds.getD j .non)
      rw [List.getD_eq_getElem?_getD, List.getD_eq_getElem?_getD, e1, List.getElem?_eq_getElem hj]
      exact e2
    | kw j =>
      have hj : j < es.length := by rw [← r2.length]; exact hq
      obtain ⟨v, e1, e2⟩ := r2.get (i := j) (d := es[j]) (by simp [hj])
      show Rep K H (zs.getD j .non) (es.getD j .non)
      rw [List.getD_eq_getElem?_getD, List.getD_eq_getElem?_getD, e1, List.getElem?_eq_getElem hj]
      exact e2
    | dfl d =>
      cases d with
      | non => exact .non
      | bl b => exact .bl b
      | int i => exact .int i
      | str x => exact .str x
      | _ => cases hq
/-- a callee runs; what it lets out is taken at the slots -/
theorem run_any {W : WX} {k m : Nat} {f : Addr} {fd : FuncData} {ps ks : List Str} {sp : Sp} {pl : List PA} {Q : VK} {us ws : List Value} {vs zs : List V} (tk : Takes X W) (F : FnOk X.prog X.w X.K X.mg X.base (L2.CX X.prog X.w) k f fd ps sp) (hr : Room k X.A) (B : BD X.K fd ps m ks pl)
    (I : Inv X pins σ H s) (r : Vals vs us) (rz : Vals zs ws) (l1 : vs.length = m) (l2 : zs.length = ks.length) (h : sp (pl.map (paV vs zs)) H Q (WE W σ)) : wpAny (model X.prog X.w) X.A (call (.ref f) us (ks.zip ws)) (EP X pins σ Q) X.xe s := by
  obtain ⟨g, gV, kb, hg⟩ := B.ex
  have r2 := kb.rel r rz
  rw [hg vs zs l1 l2] at r2
  refine wpAny_call (codeAny_mono (F.run X.A X.stack s H ⟨us, ks.zip ws⟩ (g us ws) _ Q (WE W σ) hr I.env0 (kb.to s us ws I.kIn (r.length.symm.trans l1) (rz.length.symm.trans l2)) r2 h) fun r s' hq => ?_)
  cases r with
  | error e => exact passAt tk σ pins H s e s' I hq
  | ok fl =>
    cases fl with
    | ret u => exact I.after hq
    | next => exact False.elim hq
    | brk => exact False.elim hq
    | cont => exact False.elim hq
/-- an instance is made -/
theorem make_any {W : WX} {k m : Nat} {CO fI : Addr} {fd : FuncData} {ps ks : List Str} {sp : Sp} {pl : List PA} {Q : VK} {us ws : List Value} {vs zs : List V} (tk : Takes X W) (M : Mk X.K CO fI) (F : FnOk X.prog X.w X.K X.mg X.base (L2.CX X.prog X.w) k fI fd ps sp) (hr : Room (k + 1) X.A)
    (B : BD X.K fd ps (m + 1) ks pl) (I : Inv X pins σ H s) (r : Vals vs us) (rz : Vals zs ws) (l1 : vs.length = m) (l2 : zs.length = ks.length)
    (h : ∀ p dx, H p = none → H dx = none → dx ≠ p → sp (pl.map (paV (.ref p :: vs) zs)) (upd (upd H dx (.own p)) p (.ins CO dx [])) (fun v H2 => v = .non ∧ Q (.ref p) H2) (WE W σ)) : wpAny (model X.prog X.w) X.A (call (.ref CO) us (ks.zip ws)) (EP X pins σ Q) X.xe s := by
  obtain ⟨g, gV, kb, hg⟩ := B.ex
  let z := s.heap.objs.size
  have I2 := Inv.made (C := CO) I
  have hq := h (z + 1) z (I.hok.fresh (Nat.le_succ z)) (I.hok.fresh (Nat.le_refl z)) (Nat.ne_of_lt (Nat.lt_succ_self z))
  have rr : Vals (V.ref (z + 1) :: vs) (Value.ref (z + 1) :: us) := .cons rfl r
  have r2 := kb.rel rr rz
  rw [hg (V.ref (z + 1) :: vs) zs (congrArg Nat.succ l1) l2] at r2
  have e1 : (Value.ref (z + 1) :: us).length = m + 1 := rr.length.symm.trans (congrArg Nat.succ l1)
  refine wpAny_call (make_map (f := fI) I.kIn M.makes M.init (beq_iff_eq.mp M.fn) (codeAny_mono (F.run _ X.stack _ _ ⟨Value.ref (z + 1) :: us, ks.zip ws⟩ (g (Value.ref (z + 1) :: us) ws) _ _ (WE W σ) (hr.make CO us (ks.zip ws)) (I2.env0.make CO us (ks.zip ws)) (kb.to _ (Value.ref (z + 1) :: us) ws I2.kIn e1 (rz.length.symm.trans l2)) r2 hq) fun res s' hq' => ?_))
  match res, hq' with
  | .error er, hq' => exact passAt tk σ pins _ _ er s' I2 hq'
  | .ok (.ret u), hq' =>
    obtain ⟨v, H', I3, rv, ev, q3⟩ := I2.after hq'
    subst ev
    exact ⟨rv, V.ref (z + 1), H', I3, rfl, q3⟩
  | .ok .next, hq' => exact hq'.elim
  | .ok .brk, hq' => exact hq'.elim
  | .ok .cont, hq' => exact hq'.elim
end
end Ev
end

section
set_option autoImplicit false
set_option Elab.async false
set_option linter.all false
set_option maxRecDepth 100000
set_option maxHeartbeats 4000000
namespace Ev
open PySem PySem.Spec PyProof.Rows L2 Pd
section
variable {Φ : Phi} {S : Sta} {k n : Nat} {M : Md} {X : Cx} {γ : List S2} {π : Pt} {p : Pos} {r : RR}
/-- arguments, their number told -/
theorem argsN (ih : IHt Φ S k n) (x : XO Φ S k M X) (gx : XG X π γ) {W : WX} (tk : Takes X W) {σ : L2.St} {Q0 : VK} : ∀ {as : List IE} {xs : List Expr} {kf : List D → Option RR} {r : RR} {Hs H : Hp} {R : List V → Hp → Prop}, all2 (okE S n M) as xs = true → evL Φ γ as kf = some r →
    Same Hs H → SE X.K Hs σ (γ.map (S2.sl π)) → (∀ C fs, r = .exc C fs → KR X.K r Q0 (fun C dd H' => W (.ref C) (some dd) σ H') Hs H) →
    (∀ ds vs Hs1 H1, kf ds = some r → Gr Hs H Hs1 H1 → Reps X.K Hs1 vs ds → ds.length = xs.length → R vs H1) → wA X xs σ H R
  | [], [], kf, r, Hs, H, R, _, h, s, E, K, kk => wA_of L2.pa_nil (kk [] [] Hs H h (Gr.refl s) .nil rfl)
  | a :: as, y :: ys, kf, r, Hs, H, R, ok, h, s, E, K, kk => by
    obtain ⟨o1, o2⟩ := ba ok
    have h' : RR.and (ev Φ γ false a) (fun d => evL Φ γ as fun ds => kf (d :: ds)) = some r := by rw [evL] at h; exact h
    obtain ⟨ra, e1, e2⟩ := and_some h'
    refine wA_of (L2.pa_cons (wE_ok y) (wA_ok ys) (star_cons (ok_nostar o1))) ?_
    refine andR (((ih M X x γ π gx a y o1).1) ra e1) e2 tk s E K fun d v Hs1 H1 hd g1 r1 => ?_
    refine argsN ih x gx tk o2 hd g1.sub (E.mono g1.sh) (fun C fs e => (K C fs e).go g1) fun ds vs Hs2 H2 hk g2 r2 l2 => ?_
    exact kk (d :: ds) (v :: vs) Hs2 H2 hk (g1.trans g2) (.cons (r1.mono g2.sh) r2) (congrArg Nat.succ l2)
  | [], _ :: _, _, _, _, _, _, ok, _, _, _, _, _ => by cases ok
  | _ :: _, [], _, _, _, _, _, ok, _, _, _, _, _ => by cases ok
theorem args0 (ih : IHt Φ S k n) (x : XO Φ S k M X) (gx : XG X π γ) {W : WX} (tk : Takes X W) {σ : L2.St} {Q0 : VK} {as : List IE} {xs : List Expr} {kf : List D → Option RR} {r : RR} {Hs H : Hp} {R : List V → Hp → Prop} (ok : all2 (okE S n M) as xs = true) (h : evL Φ γ as kf = some r)
    (s : Same Hs H) (E : SE X.K Hs σ (γ.map (S2.sl π))) (K : ∀ C fs, r = .exc C fs → KR X.K r Q0 (fun C dd H' => W (.ref C) (some dd) σ H') Hs H)
    (kk : ∀ ds vs Hs1 H1, kf ds = some r → Gr Hs H Hs1 H1 → Reps X.K Hs1 vs ds → ds.length = xs.length → R vs H1) : wA0 X xs σ H R := by
  cases xs with
  | nil =>
    cases as with
    | nil => exact kk [] [] Hs H h (Gr.refl s) .nil rfl
    | cons a as => cases ok
  | cons y ys => exact argsN ih x gx tk ok h s E K kk
theorem argsK (ih : IHt Φ S k n) (x : XO Φ S k M X) (gx : XG X π γ) {W : WX} (tk : Takes X W) {σ : L2.St} {Q0 : VK} : ∀ {as : List IE} {xs : List Keyword} {kf : List D → Option RR} {r : RR} {Hs H : Hp} {R : List V → Hp → Prop}, all2 (fun a (k : Keyword) => okE S n M a k.value) as xs = true → evL Φ γ as kf = some r →
    Same Hs H → SE X.K Hs σ (γ.map (S2.sl π)) → (∀ C fs, r = .exc C fs → KR X.K r Q0 (fun C dd H' => W (.ref C) (some dd) σ H') Hs H) →
    (∀ ds vs Hs1 H1, kf ds = some r → Gr Hs H Hs1 H1 → Reps X.K Hs1 vs ds → ds.length = xs.length → R vs H1) → wK X xs σ H R
  | [], [], kf, r, Hs, H, R, _, h, s, E, K, kk => wK_of pk_nil (kk [] [] Hs H h (Gr.refl s) .nil rfl)
  | a :: as, ⟨nm, y, kp⟩ :: ys, kf, r, Hs, H, R, ok, h, s, E, K, kk => by
    obtain ⟨o1, o2⟩ := ba ok
    have h' : RR.and (ev Φ γ false a) (fun d => evL Φ γ as fun ds => kf (d :: ds)) = some r := by rw [evL] at h; exact h
    obtain ⟨ra, e1, e2⟩ := and_some h'
    refine wK_of (pk_cons (wE_ok y) (wK_ok ys)) ?_
    refine andR (((ih M X x γ π gx a y o1).1) ra e1) e2 tk s E K fun d v Hs1 H1 hd g1 r1 => ?_
    refine argsK ih x gx tk o2 hd g1.sub (E.mono g1.sh) (fun C fs e => (K C fs e).go g1) fun ds vs Hs2 H2 hk g2 r2 l2 => ?_
    exact kk (d :: ds) (v :: vs) Hs2 H2 hk (g1.trans g2) (.cons (r1.mono g2.sh) r2) (congrArg Nat.succ l2)
  | [], _ :: _, _, _, _, _, _, ok, _, _, _, _, _ => by cases ok
  | _ :: _, [], _, _, _, _, _, ok, _, _, _, _, _ => by cases ok
theorem argsK0 (ih : IHt Φ S k n) (x : XO Φ S k M X) (gx : XG X π γ) {W : WX} (tk : Takes X W) {σ : L2.St} {Q0 : VK} {as : List IE} {xs : List Keyword} {kf : List D → Option RR} {r : RR} {Hs H : Hp} {R : List V → Hp → Prop} (ok : all2 (fun a (k : Keyword) => okE S n M a k.value) as xs = true) (h : evL Φ γ as kf = some r)
    (s : Same Hs H) (E : SE X.K Hs σ (γ.map (S2.sl π))) (K : ∀ C fs, r = .exc C fs → KR X.K r Q0 (fun C dd H' => W (.ref C) (some dd) σ H') Hs H)
    (kk : ∀ ds vs Hs1 H1, kf ds = some r → Gr Hs H Hs1 H1 → Reps X.K Hs1 vs ds → ds.length = xs.length → R vs H1) : wK0 X xs σ H R := by
  cases xs with
  | nil =>
    cases as with
    | nil => exact kk [] [] Hs H h (Gr.refl s) .nil rfl
    | cons a as => cases ok
  | cons y ys => exact argsK ih x gx tk ok h s E K kk
theorem kw_names {pos : Pos} {env : Env} : ∀ kws : List Keyword, (backToKw pos (keywordEach kws env)).map (·.1) = kws.map (·.arg)
  | [] => rfl
  | ⟨nm, y, kp⟩ :: ks => by
    show nm :: (backToKw pos (keywordEach ks env)).map (·.1) = nm :: ks.map (·.arg)
    rw [kw_names ks]
theorem names_of : ∀ {l : List (Option Str × Sem Value)} {ks : List Str}, l.map (·.1) = ks.map some → l.all (·.1.isSome) = true ∧ l.any (·.1.isNone) = false ∧ l.filterMap (·.1) = ks
  | [], [], _ => ⟨rfl, rfl, rfl⟩
  | [], _ :: _, h => by cases h
  | _ :: _, [], h => by cases h
  | (o, t) :: l, k :: ks, h => by
    have h1 : o = some k := (List.cons.inj h).1
    subst h1
    obtain ⟨e1, e2, e3⟩ := names_of (List.cons.inj h).2
    refine ⟨?_, ?_, ?_⟩
    · rw [List.all_cons, e1] <;> rfl
    · rw [List.any_cons, e2] <;> rfl
    · rw [List.filterMap_cons]; exact congrArg _ e3
theorem plan_ok {p0 : Nat} {f : Option Nat} {xs : List Expr} {kws : List Keyword} (h : okPl S p0 f xs kws = true) : ∃ f' ks, S.plan p0 = some (f', xs.length, ks) ∧ (∀ g, f = some g → f' = g) ∧ kws.map (·.arg) = ks.map some := by
  unfold okPl at h
  split at h
  next f' m ks q =>
    obtain ⟨h1, h2⟩ := ba h
    obtain ⟨h2, h3⟩ := ba h2
    have e := of_decide_eq_true h2
    subst e
    refine ⟨f', ks, q, fun g e => ?_, of_decide_eq_true h3⟩
    subst e
    exact of_decide_eq_true h1
  next => cases h
theorem s_fnk (ih : IHt Φ S k n) (x : XO Φ S k M X) (gx : XG X π γ) {f p0 : Nat} {nm : Str} {as kvs : List IE} {xs : List Expr} {kws : List Keyword} {p2 : Pos} (hf : S.fname f = some nm) (hg : (glB M nm && plainN nm) = true) (hp : okPl S p0 (some f) xs kws = true)
    (hk : okKw (okE S n M) xs as kvs kws = true) (h : ev Φ γ false (.fnk f p0 as kvs) = some r) : PG X (γ.map (S2.sl π)) (.Call (.Name nm p2) xs kws p) r := fun W tk σ Hs H Q s E K => by
  have h' : evL Φ γ as (fun ds => evL Φ γ kvs fun es => Φ.call f ((Φ.arr p0).map (paD ds es))) = some r := h
  obtain ⟨fa, fd, ps, F, m, kp, _, bd⟩ := x.g.fn f nm hf
  obtain ⟨f', ks, e1, e2, e3⟩ := plan_ok hp
  obtain rfl := e2 f rfl
  have B := bd p0 _ ks e1
  obtain ⟨q1, q2, _⟩ := glB_ok x hg
  obtain ⟨k0, k1⟩ := ba hk
  obtain ⟨k1, k2⟩ := ba k1
  have ns : ∀ y ∈ xs, isStar y = false := fun y hy => by
    obtain ⟨i, hi⟩ := all2_mem k1 y hy
    exact ok_nostar hi
  obtain ⟨n1, n2, n3⟩ := names_of (l := backToKw p (keywordEach kws X.env)) ((kw_names kws).trans e3)
  have hl : ks.length = kws.length := by
    have z := congrArg List.length e3
    simpa using z.symm
  refine fun pins t I => wpAny_Call_Name_kw (ld_glob I q1 m ?_ q2)
  refine cw_any (R := fun vs zs H2 => vs.length = xs.length ∧ zs.length = ks.length ∧ spC X.K (Φ.call f') ((Φ.arr p0).map (paV vs zs)) H2 Q (WE W σ)) I kp ns n1 n2 ?_ fun us ws vs zs s' H2 I2 r1 r2 ⟨l1, l2, q⟩ => ?_
  · refine args0 ih x gx tk k1 h' s E (fun _ _ _ => K) fun ds vs Hs1 H1 hd g1 r1 l1 => ?_
    refine argsK0 ih x gx tk k2 hd g1.sub (E.mono g1.sh) (fun _ _ _ => K.go g1) fun es zs Hs2 H2 hd2 g2 r2 l2 => ?_
    have r1' := r1.mono g2.sh
    refine ⟨r1'.length.trans l1, r2.length.trans (l2.trans hl.symm), Hs2, _, r, g2.sub, Reps.arr r1' r2 fun q hq => ?_, hd2, (K.go g1).go g2⟩
    have z := B.ok q hq
    rw [← (r1'.length.trans l1), ← (r2.length.trans (l2.trans hl.symm))] at z
    exact z
  · rw [n3]
    exact run_any tk F x.hr B I2 r1 r2 l1 l2 q
theorem sh_arr {vs zs : List V} {u : V} (pl : List PA) : (pl.map PA.sh).map (paV (u :: vs) zs) = pl.map (paV vs zs) := by
  rw [List.map_map]
  apply List.map_congr_left
  intro q _
  cases q with
  | pos j => rfl
  | kw j => rfl
  | dfl d => cases d <;> rfl
/-- the object made becomes data -/
theorem made_gr {K : PySem.W.Frag} {Hs' H' Hs2 H2 : Hp} {p dx' C : Addr} {us : List (Str × V)} {fs : List (Str × D)} (np : H' p = none) (g2 : Gr Hs' H' Hs2 H2) (h1 : Hs2 p = none) (h2 : H2 p = some (.ins C dx' us)) (r2 : RepF K Hs2 us fs) :
    Gr Hs' H' (upd Hs2 p (.ins C dx' us)) H2 ∧ Rep K (upd Hs2 p (.ins C dx' us)) (.ref p) (.obj C fs) := by
  have s1 : Same Hs2 (upd Hs2 p (.ins C dx' us)) := fun x u e => by rw [upd_ne (ne_of_none e h1)]; exact e
  refine ⟨⟨g2.sh.trans s1, g2.ext, fun x u e => ?_, fun x q1 q2 => ?_⟩, .obj upd_same (r2.mono s1)⟩
  · by_cases q : x = p
    · subst q; rw [upd_same] at e; rw [← e]; exact h2
    · rw [upd_ne q] at e; exact g2.sub x u e
  · have : x ≠ p := fun q => q1 (by rw [q]; exact np)
    rw [upd_ne this]
    exact g2.loc x q1 q2
theorem s_mk (ih : IHt Φ S k n) (x : XO Φ S k M X) (gx : XG X π γ) {f p0 : Nat} {nm : Str} {as kvs : List IE} {xs : List Expr} {kws : List Keyword} {p2 : Pos} (hf : S.kname f = some nm) (hg : (glB M nm && plainN nm) = true) (hp : okPl S p0 (some f) xs kws = true)
    (hk : okKw (okE S n M) xs as kvs kws = true) (h : ev Φ γ false (.mk f p0 as kvs) = some r) : PG X (γ.map (S2.sl π)) (.Call (.Name nm p2) xs kws p) r := fun W tk σ Hs H Q s E K => by
  have h' : evL Φ γ as (fun ds => evL Φ γ kvs fun es => Φ.call f ((Φ.arr p0).map (paD ds es))) = some r := h
  obtain ⟨C, fa, fd, ps, j, F, hj, m, mk, msh, bd⟩ := x.g.mkr f nm hf
  obtain ⟨f', ks, e1, e2, e3⟩ := plan_ok hp
  obtain rfl := e2 f rfl
  have B := bd p0 _ ks e1
  obtain ⟨q1, q2, _⟩ := glB_ok x hg
  obtain ⟨k0, k1⟩ := ba hk
  obtain ⟨k1, k2⟩ := ba k1
  have ns : ∀ y ∈ xs, isStar y = false := fun y hy => by
    obtain ⟨i, hi⟩ := all2_mem k1 y hy
    exact ok_nostar hi
  obtain ⟨n1, n2, n3⟩ := names_of (l := backToKw p (keywordEach kws X.env)) ((kw_names kws).trans e3)
  have hl : ks.length = kws.length := by
    have z := congrArg List.length e3
    simpa using z.symm
  refine fun pins t I => wpAny_Call_Name_kw (ld_glob I q1 m ?_ q2)
  refine cw_any (R := fun vs zs H2 => vs.length = xs.length ∧ zs.length = ks.length ∧ ∃ Hs2 ds es, Same Hs2 H2 ∧ Reps X.K Hs2 ((Φ.arr p0).map (paV vs zs)) ((Φ.arr p0).map (paD ds es)) ∧ Φ.call f' ((Φ.arr p0).map (paD ds es)) = some r ∧ KR X.K r Q (fun C dd H' => W (.ref C) (some dd) σ H') Hs2 H2) I mk.kp ns n1 n2 ?_ fun us ws vs zs s' H2 I2 r1 r2 ⟨l1, l2, Hs2, ds, es, sm, rr, hc, kk⟩ => ?_
  · refine args0 ih x gx tk k1 h' s E (fun _ _ _ => K) fun ds vs Hs1 H1 hd g1 r1 l1 => ?_
    refine argsK0 ih x gx tk k2 hd g1.sub (E.mono g1.sh) (fun _ _ _ => K.go g1) fun es zs Hs2 H2 hd2 g2 r2 l2 => ?_
    have r1' := r1.mono g2.sh
    refine ⟨r1'.length.trans l1, r2.length.trans (l2.trans hl.symm), Hs2, ds, es, g2.sub, Reps.arr r1' r2 fun q hq => ?_, hd2, (K.go g1).go g2⟩
    have z := B.ok (PA.sh q) (List.mem_cons_of_mem _ (List.mem_map_of_mem hq))
    rw [(r1'.length.trans l1), (r2.length.trans (l2.trans hl.symm))]
    cases q with
    | pos j => exact Nat.lt_of_succ_lt_succ z
    | kw j => exact z
    | dfl d => exact z
  · rw [n3]
    refine make_any tk mk F (x.hr.mono hj) B I2 r1 r2 l1 l2 fun pp dx np ndx nex => ?_
    have ea : (PA.pos 0 :: (Φ.arr p0).map PA.sh).map (paV (.ref pp :: vs) zs) = .ref pp :: (Φ.arr p0).map (paV vs zs) := by
      rw [List.map_cons, sh_arr]; rfl
    rw [ea]
    refine ⟨Hs2, H2, pp, dx, _, _, r, rfl, rfl, np, ndx, nex, sm, rr, hc, ?_⟩
    rcases msh _ _ hc with ⟨fs, rfl⟩ | ⟨CE, fs, rfl⟩
    · refine ⟨rfl, fun Hs3 H3 dx' us' g3 h1 h2 r3 => ⟨rfl, ?_⟩⟩
      obtain ⟨g4, r4⟩ := made_gr np g3 h1 h2 r3
      exact kk _ _ _ g4 r4
    · exact fun dd us' Hs3 H3 g3 h1 r3 => kk dd us' Hs3 H3 g3 h1 r3
theorem s_con (x : XO Φ S k M X) {c : Nat} {f : Str} {nm : Str} {p2 : Pos} (hf : S.cname c = some nm) (hg : (glB M nm && plainN nm) = true) (h : ev Φ γ false (.con c f) = some r) : PG X (γ.map (S2.sl π)) (.Attribute (.Name nm p2) f p) r := by
  have h' : (Φ.ccon c f).map RR.val = some r := h
  cases q : Φ.ccon c f with
  | none => rw [q] at h'; cases h'
  | some d =>
    rw [q] at h'
    cases h'
    obtain ⟨mc, v, u, c1, c2, c3⟩ := x.g.co c nm f d hf q
    obtain ⟨q1, q2, _⟩ := glB_ok x hg
    exact PG.of_pd (pd_cval c1 c2 (pd_glob (v := .ref (Φ.ga c)) q1 (x.g.kl c nm hf) rfl (fun _ => .adr _) q2) c3)
theorem s_gcd (ih : IHt Φ S k n) (x : XO Φ S k M X) (gx : XG X π γ) {as : List IE} {e : Expr} {es : List Expr} {p2 : Pos} (hS : S.gcd = true) (hg : glB M "gcd" = true) (h1 : all2 (okE S n M) as (e :: es) = true) (h : ev Φ γ false (.gcd as) = some r) :
    PG X (γ.map (S2.sl π)) (.Call (.Name "gcd" p2) (e :: es) [] p) r := fun W tk σ Hs H Q s E K => by
  have h' : evL Φ γ as gcdD = some r := h
  obtain ⟨q1, q2, _⟩ := glB_ok x (nm := "gcd") (by rw [hg]; rfl)
  have ns : ∀ y ∈ (e :: es), isStar y = false := fun y hy => by
    obtain ⟨i, hi⟩ := all2_mem h1 y hy
    exact ok_nostar hi
  have n1 := star_cons (env := X.env) (es := es) (ns e (List.mem_cons_self ..))
  have n2 := star_any (pos := p) (env := X.env) fun y (hy : y ∈ es) => ns y (List.mem_cons_of_mem _ hy)
  refine wE_of (pe_callBfun cr_gcd q1 (x.g.gc hS) (wA_ok _) q2 n1 n2) (argsR ih x gx tk h1 h' s E (fun _ _ _ => K) fun ds vs Hs1 H1 hk g1 r1 => ?_)
  unfold gcdD at hk
  split at hk
  · next a b =>
    cases hk
    cases r1 with
    | cons a1 r1 => cases r1 with
      | cons a2 r1 =>
        cases a1; cases a2; cases r1
        exact ⟨a, b, rfl, (K.go g1).val g1.sub (.int _)⟩
  · cases hk
end
end Ev
end

section
set_option autoImplicit false
set_option Elab.async false
set_option linter.all false
set_option maxRecDepth 100000
set_option maxHeartbeats 4000000
namespace Ev
open PySem PySem.Spec PyProof.Rows L2 Pd
section
variable {Φ : Phi} {S : Sta} {k n : Nat} {M : Md} {X : Cx} {γ : List S2} {π : Pt} {p : Pos} {r : RR}
def cntS (q : Str) (v : Value) : Bool := match v with
  | .str b _ => b == q
  | _ => false
theorem strs_ok : ∀ {ds : List D} {ns : List Str}, strs? ds = some ns → ds = ns.map .str
  | [], ns, h => by cases h; rfl
  | d :: r, ns, h => by
    unfold strs? at h
    cases d with
    | str i =>
      dsimp only at h
      cases q : strs? r with
      | none => rw [q] at h; cases h
      | some l => rw [q] at h; cases h; rw [strs_ok q]; rfl
    | _ => cases h
def rCntS (K : PySem.W.Frag) : V → List V → Hp → VK → Prop := fun x xs H Q => ∃ (p : Addr) (bs : List Str) (k : Str), x = .ref p ∧ xs = [.str k] ∧ SqL K H p (bs.map V.str) ∧ Q (.int (bs.count k : Nat)) H
theorem cntS_of {k : Str} : ∀ {bs : List Str} {us : List Value}, Vals (bs.map V.str) us → us.countP (cntS k) = bs.count k
  | [], _, .nil => rfl
  | b :: bs, _, .cons r t => by
    obtain ⟨u, rfl⟩ := r
    rw [List.countP_cons, List.count_cons, cntS_of t] <;> rfl
theorem mem_str {bs : List Str} {us : List Value} (h : Vals (bs.map V.str) us) : ∀ u ∈ us, ∃ x t, u = .str x t := by
  intro u hu
  obtain ⟨j, hj, rfl⟩ := List.mem_iff_getElem.mp hu
  have hl := h.length
  rw [List.length_map] at hl
  obtain ⟨v, h1, h2⟩ := h.get (i := j) (x := .str (bs[j]'(by omega))) (by simp)
  rw [List.getElem?_eq_getElem hj] at h1
  cases h1
  obtain ⟨t, e⟩ := h2
  exact ⟨_, t, e⟩
theorem mt_cntS : MtR X "list.count" (rCntS X.K) := by
  intro pins s σ H x xs v us Q I rx rxs h
  obtain ⟨p, bs, k, rfl, rfl, hs, q⟩ := h
  cases rx
  obtain ⟨u, rfl, ru⟩ := rxs.one
  obtain ⟨t, rfl⟩ := (show ∃ t, u = Value.str k t from ru)
  obtain ⟨its, rv, ⟨⟨cls, dd, data, sl⟩, n, ho, hc, hdn, hd⟩, hlen⟩ := I.list hs
  simp only at hc hd
  subst hc hd
  refine call_meets PySem.F.slot_list_count ⟨_, ho, rfl⟩ PySem.F.entry_list_count (PySem.F.args_list_count_2 _ _) (SeqAt.list_countAt p _ n dd sl (.str k t) (cntS k)) ⟨ho, fun y hy => ?_, ?_⟩
  · obtain ⟨b, t2, rfl⟩ := mem_str rv y (by simpa using hy)
    exact SeqAt.EqAt.str_str b t2 k t
  · refine ⟨.int (bs.count k : Nat), H, I.tok _, ⟨s.toks, ?_⟩, q⟩
    have e := cntS_of (k := k) rv
    show Value.int ((its.toArray.toList.countP (cntS k) : Nat) : Int) s.toks = Value.int ((bs.count k : Nat) : Int) s.toks
    rw [List.toList_toArray, e]
theorem ty_lidx : typeOf (.builtin "list.index") = pure (.type "method_descriptor") := by show builtinType _ = _; rw [builtinType_eq_fast]; kernel_rfl
theorem repsS {K : PySem.W.Frag} {H : Hp} {vs : List V} {xs : List Str} (r : Reps K H vs (xs.map D.str)) : vs = xs.map V.str := reps_str r
theorem repsI {K : PySem.W.Frag} {H : Hp} : ∀ {vs : List V} {xs : List Int}, Reps K H vs (xs.map D.int) → vs = xs.map V.int
  | [], [], _ => rfl
  | [], _ :: _, h => by cases h
  | _ :: _, [], h => by cases h
  | v :: vs, n :: ns, h => by
    cases h with
    | cons r t => cases r; rw [repsI t] <;> rfl
theorem idx_of {α : Type} [BEq α] [LawfulBEq α] {xs : List α} {y : α} {f : α → V} (hf : ∀ a b, eqV (f a) (f b) = (a == b)) (h : xs.idxOf y < xs.length) : ∃ z, (xs.map f)[xs.idxOf y]? = some z ∧ eqV z (f y) = true ∧ ∀ (m : Nat) (z' : V), m < xs.idxOf y → (xs.map f)[m]? = some z' → eqV z' (f y) = false := by
  refine ⟨f xs[xs.idxOf y], by simp [h], ?_, fun m z' hm hz => ?_⟩
  · rw [hf, List.getElem_idxOf h]; exact beq_self_eq_true _
  · have hm' : m < xs.length := Nat.lt_trans hm h
    rw [List.getElem?_map, List.getElem?_eq_getElem hm'] at hz
    cases hz
    rw [hf]
    exact List.not_of_lt_findIdx hm
theorem flat_map {α : Type} {f : α → V} (h : ∀ a, flatV (f a) = true) (xs : List α) : (xs.map f).all flatV = true := by
  induction xs with
  | nil => rfl
  | cons x r ih => rw [List.map_cons, List.all_cons, h, ih] <;> rfl
theorem s_bm (ih : IHt Φ S k n) (x : XO Φ S k M X) (gx : XG X π γ) {b : BM} {o a : IE} {eo ea : Expr} {nm : Str} {ap : Pos} (hbb : b = .count ∨ b = .index) (hb : bmN b = nm) (hc : isCall0 eo = false) (hs : isStar ea = false) (hl : (ap.endLine == p.line) = true) (h1 : okE S n M o eo = true) (h2 : okE S n M a ea = true) (h : ev Φ γ false (.bm b o [a]) = some r) :
    PG X (γ.map (S2.sl π)) (.Call (.Attribute eo nm ap) [ea] [] p) r := fun W tk σ Hs H Q s E K => by
  have h' : RR.and (ev Φ γ false o) (fun y => if bmT b y then evL Φ γ [a] fun ds => bmD b y ds else none) = some r := h
  obtain ⟨ra, e1, e2⟩ := and_some h'
  have na := star_cons (env := X.env) (es := []) hs
  have few : ((backTo p (starEach [ea] X.env)).all (fun x => !x.1) && (backToKw p (keywordEach [] X.env)).all (fun x => x.1.isSome) && decide (([ea] : List Expr).length + ([] : List Keyword).length + (if ([] : List Keyword).isEmpty then 0 else 1) < 30)) = true := by
    rw [na]; rfl
  have args : ∀ {y : D} {R : List V → Hp → Prop} {Hs1 H1 : Hp}, evL Φ γ [a] (fun ds => bmD b y ds) = some r → Gr Hs H Hs1 H1 → (∀ d v Hs2 H2, bmD b y [d] = some r → Gr Hs1 H1 Hs2 H2 → Rep X.K Hs2 v d → R [v] H2) → wA X [ea] σ H1 R := fun {y R Hs1 H1} e g k => by
    refine argsR ih x gx tk (Q0 := Q) (as := [a]) (by show (okE S n M a ea && true) = true; rw [h2]; rfl) e g.sub (E.mono g.sh) (fun _ _ _ => K.go g) fun ds vs Hs2 H2 hd g2 r2 => ?_
    cases r2 with
    | nil => unfold bmD at hd; split at hd <;> first | (rename_i q; cases q; done) | cases hd
    | cons r2 rr => cases rr with
      | nil => exact k _ _ _ _ hd g2 r2
      | cons _ _ => unfold bmD at hd; split at hd <;> first | (rename_i q; cases q; done) | cases hd
  have PO := (ih M X x γ π gx o eo h1).1 ra e1
  have lst : ∀ y, bmT b y = true → ∃ ds, y = .lst ds := fun y q => by
    unfold bmT at q
    split at q <;> first | exact ⟨_, rfl⟩ | cases q
  have fin : ∀ {id : String} {rr : V → List V → Hp → VK → Prop}, MtR X id rr → Slot "list" nm id → typeOf (.builtin id) = pure (.type "method_descriptor") → (∀ ds d Hs2 H2 l vs v, bmD b (.lst ds) [d] = some r → Same Hs2 H2 → H2 l = some (.lst vs) → Reps X.K Hs2 vs ds → Rep X.K Hs2 v d → KR X.K r Q (fun C dd H' => W (.ref C) (some dd) σ H') Hs2 H2 → rr (.ref l) [v] H2 Q) →
      wE X (.Call (.Attribute eo nm ap) [ea] [] p) σ H Q := fun {id rr} hm slot ty k => by
    refine wE_of (pe_bm (r := rr) PySem.F.plainAttrs_list slot ty hm (wE_ok eo) (wA_ok [ea]) (attr_base hc) few hl na rfl) ?_
    refine andR PO e2 tk s E (fun _ _ _ => K) fun y v Hs1 H1 hd g1 r1 => ?_
    split at hd
    next hT =>
      obtain ⟨ds, rfl⟩ := lst y hT
      cases r1 with
      | lst hl1 rl =>
        refine ⟨.inl ⟨rfl, _, .inl (.inl (g1.sub _ _ hl1))⟩, args hd g1 fun d v2 Hs2 H2 hd2 g2 r2 => ?_⟩
        exact k ds d Hs2 H2 _ _ v2 hd2 g2.sub (g2.sub _ _ (g2.sh _ _ hl1)) (rl.mono g2.sh) r2 ((K.go g1).go g2)
    next => cases hd
  subst hb
  cases b with
  | count =>
    refine fin mt_cntS PySem.F.slot_list_count ty_lcnt fun ds d Hs2 H2 l vs v hd sm hl2 rl rv kk => ?_
    unfold bmD at hd
    split at hd <;> first | contradiction | skip
    next _ ds' xk _ _ e1 e2 =>
      cases e1; cases e2
      cases q : strs? ds with
      | none => rw [q] at hd; cases hd
      | some xs =>
        rw [q] at hd
        cases hd
        rw [strs_ok q] at rl
        have e := repsS rl
        subst e
        cases rv
        exact ⟨l, xs, _, rfl, rfl, .inl (.inl hl2), kk.val sm (.int _)⟩
  | index =>
    refine fin mt_index PySem.F.slot_list_index ty_lidx fun ds d Hs2 H2 l vs v hd sm hl2 rl rv kk => ?_
    unfold bmD at hd
    split at hd <;> first | contradiction | skip
    next _ ds' xk _ _ e1 e2 =>
      cases e1; cases e2
      rename_i xk _
      cases q : strs? ds with
      | none => rw [q] at hd; cases hd
      | some xs =>
        rw [q] at hd
        have hd' : (if xs.idxOf xk < xs.length then iv (xs.idxOf xk : Nat) else none) = some r := hd
        split at hd'
        next hz =>
          cases hd'
          rw [strs_ok q] at rl
          have e := repsS rl
          subst e
          cases rv
          obtain ⟨z, z1, z2, z3⟩ := idx_of (f := V.str) (fun a b => rfl) hz
          exact ⟨l, _, _, _, z, rfl, rfl, .inl (.inl hl2), rfl, flat_map (fun _ => rfl) xs, z1, z2, z3, kk.val sm (.int _)⟩
        next => cases hd'
    next _ ds' xk _ _ e1 e2 =>
      cases e1; cases e2
      rename_i xk _
      cases q : ints? ds with
      | none => rw [q] at hd; cases hd
      | some xs =>
        rw [q] at hd
        have hd' : (if xs.idxOf xk < xs.length then iv (xs.idxOf xk : Nat) else none) = some r := hd
        split at hd'
        next hz =>
          cases hd'
          rw [ints_ok q] at rl
          have e := repsI rl
          subst e
          cases rv
          obtain ⟨z, z1, z2, z3⟩ := idx_of (f := V.int) (fun a b => rfl) hz
          exact ⟨l, _, _, _, z, rfl, rfl, .inl (.inl hl2), rfl, flat_map (fun _ => rfl) xs, z1, z2, z3, kk.val sm (.int _)⟩
        next => cases hd'
  | _ => rcases hbb with z | z <;> cases z
theorem two_of {f : IE → Expr → Bool} : ∀ {as : List IE} {xs : List Expr}, (xs.length == 1 || xs.length == 2) = true → all2 f as xs = true → (∃ a y, as = [a] ∧ xs = [y] ∧ f a y = true) ∨ ∃ a b y z, as = [a, b] ∧ xs = [y, z] ∧ f a y = true ∧ f b z = true
  | [], [], hn, _ => by cases hn
  | _ :: _, [], hn, _ => by cases hn
  | [], _ :: _, _, h => by cases h
  | [a], [y], _, h => .inl ⟨a, y, rfl, rfl, (ba h).1⟩
  | [_], _ :: _ :: _, _, h => by have := (ba h).2; cases this
  | _ :: _ :: _, [_], _, h => by have := (ba h).2; cases this
  | [a, b], [y, z], _, h => .inr ⟨a, b, y, z, rfl, rfl, (ba h).1, (ba (ba h).2).1⟩
  | [_, _], _ :: _ :: _ :: _, hn, _ => by simp at hn
  | _ :: _ :: _ :: _, [_, _], _, h => by have := (ba (ba h).2).2; cases this
  | _ :: _ :: _ :: _, _ :: _ :: _ :: _, hn, _ => by simp at hn
/-- list(range(..)) -/
theorem s_lrg (ih : IHt Φ S k n) (x : XO Φ S k M X) (gx : XG X π γ) (hcm : M.calm = true) {as : List IE} {xs : List Expr} {p1 p2 p3 : Pos} (hg : free S M "list" = true) (hz : free S M "range" = true) (hn : (xs.length == 1 || xs.length == 2) = true) (h1 : all2 (okE S n M) as xs = true) (h : ev Φ γ false (.lrg as) = some r) :
    PG X (γ.map (S2.sl π)) (.Call (.Name "list" p1) [.Call (.Name "range" p2) xs [] p3] [] p) r := fun W tk σ Hs H Q s E K => by
  have h' : evL Φ γ as lrgD = some r := h
  obtain ⟨q1, q2, q3, q4⟩ := free_ok x hg
  obtain ⟨w1, w2, w3, w4⟩ := free_ok x hz
  have end_ : ∀ {i j : Int} {Hs1 H1 : Hp}, RgOk i j → Gr Hs H Hs1 H1 → r = .new (rngD i (j - i).toNat) → RgOk i j ∧ ∀ q, H1 q = none → Q (.ref q) (upd H1 q (.lst (rgV i j))) := fun {i j Hs1 H1} ok g e => by
    subst e
    exact ⟨ok, newL g.sub (reps_rg i j) (K.go g)⟩
  rcases two_of hn h1 with ⟨a, ya, rfl, rfl, o1⟩ | ⟨a, b, ya, yb, rfl, rfl, o1, o2⟩
  · clear hn h1
    have h1 := o1
    have na := star_cons (env := X.env) (es := []) (ok_nostar h1)
    refine wE_of (pe_listRg (x.calm hcm) q1 q2 (prg_1 w1 w2 (wE_ok ya) na) rfl) ?_
    have h2 : RR.and (ev Φ γ false a) (fun d => lrgD [d]) = some r := h'
    obtain ⟨ra, e1, e2⟩ := and_some h2
    refine andR ((ih M X x γ π gx a ya h1).1 ra e1) e2 tk s E (fun _ _ _ => K) fun d v Hs1 H1 hd g1 r1 => ?_
    unfold lrgD at hd
    split at hd
    next i e =>
      cases e
      split at hd
      next hb =>
        cases r1
        cases hd
        obtain ⟨b1, b2⟩ := hb
        unfold okRg at b1
        exact ⟨i, rfl, end_ ⟨by omega, by omega, by omega, by omega, by omega⟩ g1 (by rw [Int.sub_zero])⟩
      next => cases hd
    next e => cases e
    next => cases hd
  · clear hn h1
    have h1 := o1
    have h2 := o2
    have na := star_cons (env := X.env) (es := [yb]) (ok_nostar h1)
    have nb' := star_cons (env := X.env) (es := []) (ok_nostar h2)
    refine wE_of (pe_listRg (x.calm hcm) q1 q2 (prg_2 w1 w2 (wE_ok ya) (wE_ok yb) na nb' (by rw [nb']; rfl)) rfl) ?_
    have h3 : RR.and (ev Φ γ false a) (fun d => RR.and (ev Φ γ false b) fun d2 => lrgD [d, d2]) = some r := h'
    obtain ⟨ra, e1, e2⟩ := and_some h3
    refine andR ((ih M X x γ π gx a ya h1).1 ra e1) e2 tk s E (fun _ _ _ => K) fun d v Hs1 H1 hd g1 r1 => ?_
    obtain ⟨rb, e3, e4⟩ := and_some hd
    refine andR ((ih M X x γ π gx b yb h2).1 rb e3) e4 tk g1.sub (E.mono g1.sh) (fun _ _ _ => K.go g1) fun d2 v2 Hs2 H2 hd2 g2 r2 => ?_
    unfold lrgD at hd2
    split at hd2
    next e => cases e
    next i j e =>
      cases e
      split at hd2
      next hb =>
        cases r1
        cases r2
        cases hd2
        obtain ⟨b1, b2, b3⟩ := hb
        unfold okRg at b1 b2
        exact ⟨i, j, rfl, rfl, end_ ⟨by omega, by omega, by omega, by omega, by omega⟩ (g1.trans g2) rfl⟩
      next => cases hd2
    next => cases hd2
end
end Ev
end

section
set_option autoImplicit false
set_option Elab.async false
set_option linter.all false
set_option maxRecDepth 100000
set_option maxHeartbeats 4000000
namespace Pd
open PySem PySem.Spec PyProof.Rows L2
/-! ### a comprehension of two fors, no tests -/
section
variable {X : Cx} {γ : List Sl} {tg iter elt tg1 iter1 : Expr} {pos : Pos} {scope : Scope} {own : List (Str × Nat)} {vs1 : List Nat}
def cI (X : Cx) (scope : Scope) (tg iter : Expr) : TI := fun σ H R => ∀ s H1 C cl fp, ∃ wi, PI (KX X scope s H1 C cl fp) tg iter wi ∧ wi σ H R
def Turns2 (X : Cx) (γ : List Sl) (scope : Scope) (own : List (Str × Nat)) (vs1 : List Nat) (tg tg1 iter1 elt : Expr) (as : List D) (F : D → List D) : Prop := ∀ a, a ∈ as → ∃ γ2 js bs f2, (∀ j ∈ js, j ∈ own.map (·.2)) ∧ F a = bs.map f2 ∧ bs.length ≤ 300 ∧
  (∀ (s : Shared) (H : Hp) (C : Addr) (cl : List (Str × Addr)) (fp : List Addr), PDG (KX X scope s H C cl fp) (blkS γ (own.map (·.2))) tg a γ2 js ∧ PDIt (KX X scope s H C cl fp) γ2 tg1 iter1 bs) ∧
  ∀ b, b ∈ bs → ∃ γ3 js2, (∀ j ∈ js2, j ∈ vs1) ∧ ∀ (s : Shared) (H : Hp) (C : Addr) (cl : List (Str × Addr)) (fp : List Addr), PDG (KX X scope s H C cl fp) (blkS γ2 vs1) tg1 b γ3 js2 ∧ PD (KX X scope s H C cl fp) γ3 elt (f2 b)
theorem wipe_same {σ σ3 : L2.St} {vs js : List Nat} (hlen : σ3.length = (wipe σ vs).length) (hout : ∀ i : Nat, i ∉ js → σ3[i]? = (wipe σ vs)[i]?) (hjs : ∀ j ∈ js, j ∈ vs) : wipe σ3 vs = wipe σ vs := by
  have e := wipe_eq (vs := vs) hlen fun i hi => hout i fun z => hi (hjs i z)
  rw [e]
  apply List.ext_getElem?
  intro n
  by_cases q : n ∈ vs
  · by_cases hn : n < σ.length
    · rw [wipe_in q hn, wipe_in q (by rw [wipe_length]; exact hn)]
    · rw [List.getElem?_eq_none (by rw [wipe_length, wipe_length]; exact Nat.le_of_not_lt hn), List.getElem?_eq_none (by rw [wipe_length]; exact Nat.le_of_not_lt hn)]
  · rw [wipe_out q]
theorem flat_take_succ {α : Type} {as : List α} {F : α → List D} {i : Nat} {a : α} (h : as[i]? = some a) : (as.take (i + 1)).flatMap F = (as.take i).flatMap F ++ F a := by
  rw [List.take_add_one, h]
  simp only [Option.toList, List.flatMap_append, List.flatMap_cons, List.flatMap_nil, List.append_nil]
theorem flat_len {as : List D} {F : D → List D} (h : ∀ a ∈ as, (F a).length ≤ 300) : (as.flatMap F).length ≤ 300 * as.length := by
  induction as with
  | nil => simp
  | cons a r ih =>
    rw [List.flatMap_cons, List.length_append, List.length_cons]
    have h1 := h a (List.mem_cons_self ..)
    have h2 := ih fun b hb => h b (List.mem_cons_of_mem _ hb)
    omega
theorem lc2_go {as : List D} {F : D → List D} {wi : TI} {σ : L2.St} {Hs H : Hp} {Q : VK} (hfe : ∀ σ Hs H (R : It → Hp → Prop), Same Hs H → SE X.K Hs σ γ → (∀ J Hs' H', Gr Hs H Hs' H' → Feeds X.K J as Hs' → R J H') → wi σ H R)
    (ht : Turns2 X γ scope own vs1 tg tg1 iter1 elt as F) (hz : as.length ≤ 300) (s : Same Hs H) (E : SE X.K Hs σ γ)
    (k : ∀ l vs Hs' H', Gr Hs H Hs' H' → H l = none → Hs' l = none → H' l = some (.lst vs) → Reps X.K Hs' vs (as.flatMap F) → Q (.ref l) H') :
    tLc2 wi (cG X scope tg) (cT X scope []) (cI X scope tg1 iter1) (cG X scope tg1) (cT X scope []) (cE X scope elt) (own.map (·.2)) vs1 σ H Q := by
  refine hfe σ Hs H _ s E fun J Hs1 H1 g1 fe => fun Dl hD => ?_
  have gn : Gr Hs1 H1 Hs1 (upd H1 Dl (.lst [])) := ⟨Same.refl _, fun a u e => by rw [upd_ne (ne_of_none e hD)]; exact e, fun a u e => by rw [upd_ne (ne_of_none (g1.sub a u e) hD)]; exact g1.sub a u e, fun _ _ h => h⟩
  refine ⟨fun i m H' => m = as.length - i ∧ i ≤ as.length ∧ ∃ Hs' acc, Gr Hs1 H1 Hs' H' ∧ H' Dl = some (.lst acc) ∧ Hs' Dl = none ∧ Reps X.K Hs' acc ((as.take i).flatMap F), ⟨as.length, by simp, Nat.zero_le _, Hs1, [], gn, upd_same, g1.sub.free hD, .nil⟩, ?_⟩
  rintro i m H' ⟨rfl, hle, Hs', acc, g2, h1, h2, r⟩
  obtain ⟨f1, f2⟩ := fe Hs' H' g2.sh g2.sub
  by_cases hlt : i < as.length
  · have ha : as[i]? = some as[i] := by simp [hlt]
    obtain ⟨go, yld⟩ := f1 i _ ha
    obtain ⟨γ2, js, bs, f, hjs, hF, hb3, hall, hin⟩ := ht as[i] (List.getElem_mem hlt)
    have hacc : acc.length ≤ 300 * i := by
      rw [r.length]
      refine Nat.le_trans (flat_len fun a ha => ?_) (by rw [List.length_take]; exact Nat.mul_le_mul_left _ (Nat.min_le_left _ _))
      obtain ⟨_, _, bs', f', _, e', l', _⟩ := ht a (List.mem_of_mem_take ha)
      rw [e', List.length_map]
      exact l'
    refine .inr ⟨go, fun H2 => ∃ Hs2 acc2, Gr Hs1 H1 Hs2 H2 ∧ H2 Dl = some (.lst acc2) ∧ Hs2 Dl = none ∧ Reps X.K Hs2 acc2 ((as.take (i + 1)).flatMap F), fun H2 ⟨Hs2, acc2, q1, q2, q3, q4⟩ => ⟨as.length - (i + 1), by omega, rfl, hlt, Hs2, acc2, q1, q2, q3, q4⟩, fun x H2 yy => ?_⟩
    obtain ⟨Hs2, g3, r2⟩ := yld x H2 yy
    have g23 := g2.trans g3
    have E2 : SE X.K Hs2 σ γ := E.mono (g1.sh.trans g23.sh)
    intro s5 H5 C5 cl5 fp5
    refine (hall s5 H5 C5 cl5 fp5).1 Hs2 H2 Hs2 Hs2 H2 (wipe σ (own.map (·.2))) x _ (blkS_st g3.sub E2) r2 fun σ3 Hs3 H3 t3 g4 hlen hout => ?_
    refine ⟨wipe_same hlen hout hjs, ?_⟩
    have g24 := g23.trans g4
    intro s6 H6 C6 cl6 fp6
    refine ts_go (b := true) rfl g4.sub t3.se fun Hs4 H4 g5 => ?_
    have g25 := g24.trans g5
    rw [if_pos rfl]
    intro s7 H7 C7 cl7 fp7
    obtain ⟨wi1, hpi1, hfe1⟩ := (hall s7 H7 C7 cl7 fp7).2.ex
    refine ⟨wi1, hpi1, hfe1 σ3 Hs4 H4 _ g5.sub (t3.se.mono g5.sh) fun J1 Hs5 H5' g6 fe1 => ?_⟩
    have g26 := g25.trans g6
    have hDl : ∀ {Hs9 H9 : Hp}, Gr Hs' H' Hs9 H9 → Hs9 Dl = none ∧ H9 Dl = some (.lst acc) := fun {Hs9 H9} g => ⟨g.loc Dl (by rw [h1]; intro z; cases z) h2, g.ext _ _ h1⟩
    have g35 := ((g3.trans g4).trans g5).trans g6
    obtain ⟨d1, d2⟩ := hDl g35
    refine ⟨fun j k H' => k = bs.length - j ∧ j ≤ bs.length ∧ ∃ Hs' acc', Gr Hs1 H1 Hs' H' ∧ H' Dl = some (.lst acc') ∧ Hs' Dl = none ∧ Same Hs5 Hs' ∧ Reps X.K Hs' acc' ((as.take i).flatMap F ++ (bs.take j).map f), ⟨bs.length, by simp, Nat.zero_le _, Hs5, acc, g26, d2, d1, Same.refl _, ?_⟩, ?_⟩
    · rw [List.take_zero, List.map_nil, List.append_nil]
      exact r.mono g35.sh
    · rintro j m2 H6' ⟨rfl, hle2, Hs6, acc', g7, e1, e2, sh7, r7⟩
      obtain ⟨u1, u2⟩ := fe1 Hs6 H6' sh7 g7.sub
      by_cases hlt2 : j < bs.length
      · have hb : bs[j]? = some bs[j] := by simp [hlt2]
        obtain ⟨go1, yld1⟩ := u1 j _ hb
        obtain ⟨γ3, js2, hjs2, hall2⟩ := hin bs[j] (List.getElem_mem hlt2)
        have hacc' : acc'.length ≤ 300 * i + j := by
          have z1 := r7.length
          rw [List.length_append, List.length_map, List.length_take, ← r.length] at z1
          omega
        refine .inr ⟨go1, fun H' => ∃ Hs' acc2, Gr Hs1 H1 Hs' H' ∧ H' Dl = some (.lst acc2) ∧ Hs' Dl = none ∧ Same Hs5 Hs' ∧ Reps X.K Hs' acc2 ((as.take i).flatMap F ++ (bs.take (j + 1)).map f), fun H' ⟨Hs', acc2, w1, w3, w4, w5, w6⟩ => ⟨bs.length - (j + 1), by omega, rfl, hlt2, Hs', acc2, w1, w3, w4, w5, w6⟩, fun x1 H7' yy1 => ?_⟩
        obtain ⟨Hs7, g8, r8⟩ := yld1 x1 H7' yy1
        have E7 : SE X.K Hs7 σ3 γ2 := t3.se.mono ((g5.sh.trans g6.sh).trans (sh7.trans g8.sh))
        intro s8 H8 C8 cl8 fp8
        refine (hall2 s8 H8 C8 cl8 fp8).1 Hs7 H7' Hs7 Hs7 H7' (wipe σ3 vs1) x1 _ (blkS_st g8.sub E7) r8 fun σ4 Hs8 H8' t4 g9 hlen2 hout2 => ?_
        refine ⟨wipe_same hlen2 hout2 hjs2, ?_⟩
        intro s9 H9 C9 cl9 fp9
        refine ts_go (b := true) rfl g9.sub t4.se fun Hs9 H9' g10 => ?_
        rw [if_pos rfl]
        intro s10 H10 C10 cl10 fp10
        refine (hall2 s10 H10 C10 cl10 fp10).2 σ4 Hs9 H9' _ g10.sub (t4.se.mono g10.sh) fun v Hs10 H10' g11 r11 => ?_
        have gg := ((g8.trans g9).trans g10).trans g11
        have dd1 : Hs10 Dl = none := gg.loc Dl (by rw [e1]; intro z; cases z) e2
        have dd2 : H10' Dl = some (.lst acc') := gg.ext _ _ e1
        have g7' := g7.trans gg
        refine ⟨acc', dd2, sz_lt (by omega), Hs10, acc' ++ [v], ⟨g7'.sh, fun a u e => ?_, fun a u e => ?_, g7'.loc⟩, upd_same, dd1, sh7.trans gg.sh, ?_⟩
        · rw [upd_ne (ne_of_none e hD)]; exact g7'.ext a u e
        · rw [upd_ne (ne_of_none e dd1)]; exact g7'.sub a u e
        · rw [List.take_add_one, hb]
          simp only [Option.toList, List.map_append, List.map_cons, List.map_nil]
          rw [← List.append_assoc]
          exact (r7.mono gg.sh).append (.cons r11 .nil)
      · have e : j = bs.length := by omega
        subst e
        refine .inl ⟨u2, Hs6, acc', g7, e1, e2, ?_⟩
        rw [List.take_length] at r7
        rw [flat_take_succ ha, hF]
        exact r7
  · have e : i = as.length := by omega
    subst e
    refine .inl ⟨f2, k Dl acc Hs' H' (g1.trans g2) (g1.ext.free hD) h2 h1 ?_⟩
    rw [List.take_length] at r
    exact r
theorem pn_lc2 {as : List D} {F : D → List D} (hi : PDIt X γ tg iter as) (ht : Turns2 X γ scope own vs1 tg tg1 iter1 elt as F) (hN : X.N.Nodup) (ok : BlkOk X.N X.env.scope scope own) (hv : ∀ i ∈ vs1, i ∈ own.map (·.2)) (hz : as.length ≤ 300) (hc : X.calm = true)
    (hs : ∀ x, foldedSetIterable iter X.env x = pure x) (hs1 : ∀ env x, foldedSetIterable iter1 env x = pure x) : PN X γ (.ListComp elt [⟨tg, iter, [], 0⟩, ⟨tg1, iter1, [], 0⟩] scope pos) (as.flatMap F) := fun σ Hs H Q s E k => by
  obtain ⟨wi, hpi, hfe⟩ := hi.ex
  exact wE_of (pe_lc2 hc hN hpi ok hv (fun s5 H5 C5 cl5 fp5 => ⟨fun pins s σ H v u Q I r h => h s5 H5 C5 cl5 fp5 pins s u I r⟩) (fun s5 H5 C5 cl5 fp5 => ⟨fun pins s σ H Q I h => (tTs_ok (Nat.zero_le _)).run pins s σ H Q I (h s5 H5 C5 cl5 fp5)⟩)
    (fun s5 H5 C5 cl5 fp5 => ⟨fun pins s σ H R I h => by obtain ⟨wi, hw, hq⟩ := h s5 H5 C5 cl5 fp5; exact hw.run pins s σ H R I hq⟩)
    (fun s5 H5 C5 cl5 fp5 => ⟨fun pins s σ H v u Q I r h => h s5 H5 C5 cl5 fp5 pins s u I r⟩) (fun s5 H5 C5 cl5 fp5 => ⟨fun pins s σ H Q I h => (tTs_ok (Nat.zero_le _)).run pins s σ H Q I (h s5 H5 C5 cl5 fp5)⟩)
    (fun s5 H5 C5 cl5 fp5 => ⟨fun pins s σ H Q I h => h s5 H5 C5 cl5 fp5 pins s I⟩) hs hs1)
    (lc2_go hfe ht hz s E k)
end
end Pd
end

section
set_option autoImplicit false
set_option Elab.async false
set_option linter.all false
set_option maxRecDepth 100000
set_option maxHeartbeats 4000000
namespace Ev
open PySem PySem.Spec PyProof.Rows L2 Pd
section
variable {Φ : Phi} {S : Sta} {k n : Nat} {M : Md} {X : Cx} {γ : List S2} {π : Pt}
theorem map_set (γ : List S2) (i : Nat) (s : S2) : (γ.set i s).map (S2.sl π) = (γ.map (S2.sl π)).set i (s.sl π) := by rw [List.map_set]
theorem hd_sl (s : S2) : (S2.hd s).sl π = (s.sl π).hd := by cases s <;> rfl
theorem wip_sl (γ : List S2) : ∀ vs : List Nat, (wip γ vs).map (S2.sl π) = wipeS (γ.map (S2.sl π)) vs
  | [] => rfl
  | v :: vs => by
    unfold wip wipeS
    rw [map_set, wip_sl γ vs]
    rfl
theorem blk_sl (γ : List S2) (tg : List Nat) : (blk γ tg).map (S2.sl π) = blkS (γ.map (S2.sl π)) tg := by
  unfold blk blkS
  rw [wip_sl, List.map_map, List.map_map]
  congr 1
  apply List.map_congr_left
  intro s _
  exact hd_sl s
theorem loc_ok {nm : Str} (x : XO Φ S k M X) (h : (match M.sc.names.lookup nm with
    | some .local => true
    | _ => false) = true) : X.env.scope.names.lookup nm = some .local := by
  rw [x.sc]
  split at h
  · assumption
  · cases h
theorem put_ok (hcm : M.calm = true) (x : XO Φ S k M X) {tg : List Nat} {t : Expr} {d : D} {γ2 : List S2} (ho : okG M tg t = true) (hp : put tg d γ = some γ2) : PDG X (γ.map (S2.sl π)) t d (γ2.map (S2.sl π)) tg := by
  unfold okG at ho
  split at ho
  · next i nm p =>
    obtain ⟨h1, h2⟩ := ba ho
    have h1 := of_decide_eq_true h1
    have h2 := loc_ok x h2
    have e : some (γ.set i (.sh d)) = some γ2 := hp
    cases e
    rw [map_set]
    exact pg_n i x.nd (by rw [x.N]; exact h1) (.inl h2) (.inr h2)
  · next i j nm p1 nm2 p2 kk p3 =>
    obtain ⟨h1, h2⟩ := ba ho
    obtain ⟨h3, h4⟩ := ba h1
    obtain ⟨h5, h6⟩ := ba h2
    have h3 := of_decide_eq_true h3
    have h4 := loc_ok x h4
    have h5 := of_decide_eq_true h5
    have h6 := loc_ok x h6
    have non : ∀ d, (∀ u v, d ≠ .tup [u, v]) → put [i, j] d γ = none := fun d hd => by
      unfold put
      split
      · rename_i q; cases q
      · rename_i q; exact absurd rfl (hd _ _)
      · rfl
    by_cases hd : ∃ u v, d = .tup [u, v]
    · obtain ⟨u, v, rfl⟩ := hd
      have e : some ((γ.set i (.sh u)).set j (.sh v)) = some γ2 := hp
      cases e
      rw [map_set, map_set]
      exact pg_tup2 (pg_n i x.nd (by rw [x.N]; exact h3) (.inl h4) (.inr h4)) (pg_n j x.nd (by rw [x.N]; exact h5) (.inl h6) (.inr h6)) (x.calm hcm)
    · rw [non d fun u v e => hd ⟨u, v, e⟩] at hp
      cases hp
  · cases ho
theorem locS_ok {nm : Str} (x : XO Φ S k M X) (h : locB M nm = true) : L2.Loc X.env.scope nm := by
  unfold locB at h
  unfold L2.Loc
  rw [x.sc]
  split at h
  · exact .inl (by assumption)
  · exact .inr (by assumption)
  · cases h
theorem put_okS (hcm : M.calm = true) (x : XO Φ S k M X) (hfn : ∀ n, X.fn n = true) {tg : List Nat} {t : Expr} {d : D} {γ2 : List S2} (ho : okGs M tg t = true) (hp : put tg d γ = some γ2) : PDG X (γ.map (S2.sl π)) t d (γ2.map (S2.sl π)) tg := by
  unfold okGs at ho
  split at ho
  · next i nm p =>
    obtain ⟨h1, h2⟩ := ba ho
    have h1 := of_decide_eq_true h1
    have h2 := locS_ok x h2
    have e : some (γ.set i (.sh d)) = some γ2 := hp
    cases e
    rw [map_set]
    exact pg_n i x.nd (by rw [x.N]; exact h1) h2 (.inl (hfn _))
  · next i j nm p1 nm2 p2 kk p3 =>
    obtain ⟨h1, h2⟩ := ba ho
    obtain ⟨h3, h4⟩ := ba h1
    obtain ⟨h5, h6⟩ := ba h2
    have h3 := of_decide_eq_true h3
    have h4 := locS_ok x h4
    have h5 := of_decide_eq_true h5
    have h6 := locS_ok x h6
    have non : ∀ d, (∀ u v, d ≠ .tup [u, v]) → put [i, j] d γ = none := fun d hd => by
      unfold put
      split
      · rename_i q; cases q
      · rename_i q; exact absurd rfl (hd _ _)
      · rfl
    by_cases hd : ∃ u v, d = .tup [u, v]
    · obtain ⟨u, v, rfl⟩ := hd
      have e : some ((γ.set i (.sh u)).set j (.sh v)) = some γ2 := hp
      cases e
      rw [map_set, map_set]
      exact pg_tup2 (pg_n i x.nd (by rw [x.N]; exact h3) h4 (.inl (hfn _))) (pg_n j x.nd (by rw [x.N]; exact h5) h6 (.inl (hfn _))) (x.calm hcm)
    · rw [non d fun u v e => hd ⟨u, v, e⟩] at hp
      cases hp
  · cases ho
theorem okO_ok (x : XO Φ S k M X) {scope : Scope} {own : List (Str × Nat)} (h : okO M.N own M.sc scope = true) : BlkOk X.N X.env.scope scope own := by
  obtain ⟨h1, h⟩ := ba h
  obtain ⟨h2, h⟩ := ba h
  obtain ⟨h3, h⟩ := ba h
  obtain ⟨h4, h5⟩ := ba h
  rw [x.N, x.sc]
  refine ⟨of_decide_eq_true h1, fun y hy => of_decide_eq_true (List.all_eq_true.mp h2 y hy), fun q hq => of_decide_eq_true (List.all_eq_true.mp h3 q hq), fun y hy e => ?_, fun y hy e => ?_⟩
  · have z := List.all_eq_true.mp h4 y hy
    rcases Bool.or_eq_true_iff.mp z with z | z
    · rw [decide_eq_true e] at z; cases z
    · rcases Bool.or_eq_true_iff.mp z with z | z
      · exact .inl (of_decide_eq_true z)
      · exact .inr (of_decide_eq_true z)
  · have z := List.all_eq_true.mp h5 y hy
    rcases Bool.or_eq_true_iff.mp z with z | z
    · have : (decide (y.2 = NameKind.local) || decide (y.2 = NameKind.cell)) = true := by
        rcases e with e | e
        · rw [decide_eq_true e]; rfl
        · rw [decide_eq_true e, Bool.or_true]
      rw [this] at z; cases z
    · rcases Bool.or_eq_true_iff.mp z with z | z
      · exact .inl (List.contains_iff_mem.mp z)
      · refine .inr fun q => ?_
        rw [List.contains_iff_mem.mpr q] at z
        cases z
theorem lcGo_ok {F : D → Option (Option D)} : ∀ {items l : List D}, lcGo F items = some l → l = items.filterMap (fun d => match F d with
    | some o => o
    | none => none) ∧ ∀ d ∈ items, ∃ o, F d = some o
  | [], l, h => by cases h; exact ⟨rfl, fun d hd => by cases hd⟩
  | d :: r, l, h => by
    unfold lcGo at h
    cases q : F d with
    | none => rw [q] at h; cases h
    | some o =>
      rw [q] at h
      dsimp only at h
      cases q2 : lcGo F r with
      | none => rw [q2] at h; cases h
      | some l2 =>
        rw [q2] at h
        obtain ⟨e1, e2⟩ := lcGo_ok q2
        refine ⟨?_, fun d' hd => ?_⟩
        · rw [List.filterMap_cons, q]
          cases h
          cases o with
          | none => exact e1
          | some y => exact congrArg (y :: ·) e1
        · rcases List.mem_cons.mp hd with rfl | hd
          · exact ⟨o, q⟩
          · exact e2 d' hd
theorem zip_snd : ∀ {as : List Str} {bs : List Nat}, bs.length = as.length → (as.zip bs).map (·.2) = bs
  | [], [], _ => rfl
  | a :: as, b :: bs, h => congrArg (b :: ·) (zip_snd (Nat.succ.inj h))
  | [], _ :: _, h => by cases h
  | _ :: _, [], h => by cases h
theorem XO.blk (x : XO Φ S k M X) (scope : Scope) (s : Shared) (H : Hp) (C : Addr) (cl : List (Str × Addr)) (fp : List Addr) : XO Φ S k { M with sc := relS scope M.sc } (KX X scope s H C cl fp) where
  sc := by rw [← x.sc]; rfl
  N := x.N
  nd := x.nd
  hr := x.hr
  calm := x.calm
  pa := fun _ => PassesOwn.never
  g := x.g
def noX (γ : List S2) : Prop := ∀ (i : Nat) C fs, γ[i]? ≠ some (S2.ex C fs)
theorem noX_of (hc : X.calm = true) (gx : XG X π γ) : noX γ := fun i C fs h => by
  obtain ⟨X0, oe, pn, e, _⟩ := gx i C fs h
  subst e
  cases hc
theorem noX_set {s : S2} {j : Nat} (h : noX γ) (hs : ∀ C fs, s ≠ S2.ex C fs) : noX (γ.set j s) := fun i C fs e => by
  by_cases q : j = i
  · subst q
    exact hs C fs (set_self_of e)
  · rw [List.getElem?_set_ne q] at e
    exact h i C fs e
theorem noX_wip (h : noX γ) : ∀ vs, noX (wip γ vs)
  | [] => h
  | v :: vs => noX_set (noX_wip h vs) fun _ _ z => by cases z
theorem noX_blk {tg : List Nat} (h : noX γ) : noX (Ev.blk γ tg) := noX_wip (fun i C fs e => by
  rw [List.getElem?_map] at e
  cases q : γ[i]? with
  | none => rw [q] at e; cases e
  | some s =>
    rw [q] at e
    cases s with
    | ex C' fs' => exact h i C' fs' q
    | _ => cases e) tg
theorem noX_put {tg : List Nat} {d : D} {γ2 : List S2} (h : noX γ) (hp : put tg d γ = some γ2) : ∀ X' : Cx, XG X' π γ2 := fun X' i C fs e => by
  exfalso
  unfold put at hp
  split at hp
  · cases hp
    exact noX_set h (fun _ _ z => by cases z) i C fs e
  · cases hp
    exact noX_set (noX_set h fun _ _ z => by cases z) (fun _ _ z => by cases z) i C fs e
  · cases hp
theorem lc_parts (ih : IHt Φ S k n) (x : XO Φ S k M X) (gx : XG X π γ) (hcm : M.calm = true) {elt : IE} {tg : List Nat} {kk : IK} {its cond : List IE} {y t it : Expr} {ifs : List Expr} {scope : Scope} {r : RR} (h1 : okG { M with sc := relS scope M.sc } tg t = true) (h2 : okO M.N ((tgN t).zip tg) M.sc scope = true) (h3 : tg.length = (tgN t).length) (h7 : (decide (kk ≠ .en) || decide (tg.length = 2)) = true)
    (h4 : okIt (okE S n M) S M kk its it = true) (h5 : (match cond, ifs with
      | [], [] => true
      | [c], [z] => okE S n { M with sc := relS scope M.sc } c z
      | _, _ => false) = true) (h6 : okE S n { M with sc := relS scope M.sc } elt y = true) (h : ev Φ γ false (.lc elt tg kk its cond) = some r) :
    ∃ (items : List D) (f : D → Option D), r = .new (items.filterMap f) ∧ PDIt X (γ.map (S2.sl π)) t it (items.map id) ∧ Turns X (γ.map (S2.sl π)) scope ((tgN t).zip tg) t y ifs id items f ∧ items.length ≤ 50000 ∧ BlkOk X.N X.env.scope scope ((tgN t).zip tg) ∧ ifs.length ≤ 1 ∧ ∀ x, foldedSetIterable it X.env x = pure x := by
  have h' : (match (evD Φ γ its).bind (itms kk) with
    | none => none
    | some items => if items.length ≤ 50000 then (lcGo (fun d => match put tg d (blk γ tg) with
      | none => none
      | some γ2 => match evC Φ γ2 cond with
        | some true => (RR.d? (ev Φ γ2 false elt)).map some
        | some false => some none
        | none => none) items).map RR.new else none) = some r := h
  cases qi : (evD Φ γ its).bind (itms kk) with
  | none => rw [qi] at h'; cases h'
  | some items =>
    rw [qi] at h'
    dsimp only at h'
    split at h'
    next hz =>
      cases ql : lcGo (fun d => match put tg d (blk γ tg) with
        | none => none
        | some γ2 => match evC Φ γ2 cond with
          | some true => (RR.d? (ev Φ γ2 false elt)).map some
          | some false => some none
          | none => none) items with
      | none => rw [ql] at h'; cases h'
      | some l =>
        rw [ql] at h'
        cases h'
        obtain ⟨e1, e2⟩ := lcGo_ok ql
        have hten : kk = .en → ∃ elts j tp, t = .Tuple elts j tp := fun z => by
          subst z
          rcases Bool.or_eq_true_iff.mp h7 with z | z
          · exact absurd rfl (of_decide_eq_true z)
          · have z := of_decide_eq_true z
            unfold okG at h1
            split at h1
            · cases z
            · exact ⟨_, _, _, rfl⟩
            · cases h1
        obtain ⟨hit, hset⟩ := it_ok (π := π) (tg := t) ih x gx h4 qi hten
        have hown := zip_snd h3
        rw [e1]
        refine ⟨items, _, rfl, hit.is (by rw [List.map_id]), fun d hd => ?_, hz, okO_ok x h2, ?_, hset⟩
        · obtain ⟨o, ho⟩ := e2 d hd
          dsimp only
          rw [ho]
          dsimp only at ho ⊢
          cases qp : put tg d (blk γ tg) with
          | none => rw [qp] at ho; cases ho
          | some γ2 =>
            rw [qp] at ho
            dsimp only at ho
            cases qc : evC Φ γ2 cond with
            | none => rw [qc] at ho; cases ho
            | some q =>
              rw [qc] at ho
              have g2 : ∀ X', XG X' π γ2 := noX_put (noX_blk (noX_of (x.calm hcm) gx)) qp
              have pdg : ∀ X', XO Φ S k { M with sc := relS scope M.sc } X' → PDG X' (blkS (γ.map (S2.sl π)) tg) t d (γ2.map (S2.sl π)) tg := fun X' x' => by
                have z := put_ok (π := π) (M := { M with sc := relS scope M.sc }) hcm x' h1 qp
                rw [blk_sl] at z
                exact z
              have pts : ∀ X', XO Φ S k { M with sc := relS scope M.sc } X' → PDTs X' (γ2.map (S2.sl π)) ifs q := fun X' x' => by
                split at h5
                · cases qc; exact rfl
                · next cc z =>
                  have qc' : bl? (ev Φ γ2 true cc) = some q := qc
                  exact ((ih _ X' x' γ2 π (g2 X') cc z h5).2 _ (bl?_ok qc') q rfl).1
                · cases h5
              cases q with
              | false =>
                cases ho
                exact ⟨γ2.map (S2.sl π), tg, false, fun j hj => by rw [hown]; exact hj, fun _ => rfl, .non, fun z => (by cases z), fun s2 H2 C2 cl fp => ⟨by rw [hown]; exact pdg _ (x.blk scope s2 H2 C2 cl fp), pts _ (x.blk scope s2 H2 C2 cl fp), fun z => (by cases z)⟩⟩
              | true =>
                cases qv : RR.d? (ev Φ γ2 false elt) with
                | none => rw [qv] at ho; cases ho
                | some dv =>
                  rw [qv] at ho
                  cases ho
                  exact ⟨γ2.map (S2.sl π), tg, true, fun j hj => by rw [hown]; exact hj, fun z => (by cases z), dv, fun _ => rfl, fun s2 H2 C2 cl fp => ⟨by rw [hown]; exact pdg _ (x.blk scope s2 H2 C2 cl fp), pts _ (x.blk scope s2 H2 C2 cl fp),
                    fun _ => d_of qv ((ih _ _ (x.blk scope s2 H2 C2 cl fp) γ2 π (g2 _) elt y h6).1)⟩⟩
        · split at h5
          · exact Nat.zero_le _
          · exact Nat.le_refl _
          · cases h5
    next => cases h'
theorem s_lc (ih : IHt Φ S k n) (x : XO Φ S k M X) (gx : XG X π γ) (hcm : M.calm = true) {elt : IE} {tg : List Nat} {kk : IK} {its cond : List IE} {y t it : Expr} {ifs : List Expr} {scope : Scope} {p : Pos} {r : RR} (h1 : okG { M with sc := relS scope M.sc } tg t = true) (h2 : okO M.N ((tgN t).zip tg) M.sc scope = true) (h3 : tg.length = (tgN t).length) (h7 : (decide (kk ≠ .en) || decide (tg.length = 2)) = true)
    (h4 : okIt (okE S n M) S M kk its it = true) (h5 : (match cond, ifs with
      | [], [] => true
      | [c], [z] => okE S n { M with sc := relS scope M.sc } c z
      | _, _ => false) = true) (h6 : okE S n { M with sc := relS scope M.sc } elt y = true) (h : ev Φ γ false (.lc elt tg kk its cond) = some r) : PG X (γ.map (S2.sl π)) (.ListComp y [⟨t, it, ifs, 0⟩] scope p) r := by
  obtain ⟨items, f, rfl, a, b, c, d, e, g⟩ := lc_parts ih x gx hcm h1 h2 h3 h7 h4 h5 h6 h
  exact PG.of_pn (pn_lcT (own := (tgN t).zip tg) (emb := id) items f a b x.nd d c e (x.calm hcm) g)
theorem noX_put2 {tg : List Nat} {d : D} {γ2 : List S2} (h : noX γ) (hp : put tg d γ = some γ2) : noX γ2 := fun i C fs e => by
  unfold put at hp
  split at hp
  · cases hp
    exact noX_set h (fun _ _ z => by cases z) i C fs e
  · cases hp
    exact noX_set (noX_set h fun _ _ z => by cases z) (fun _ _ z => by cases z) i C fs e
  · cases hp
theorem lcGo2_ok {F : D → Option (List D)} : ∀ {items l : List D}, lcGo2 F items = some l → l = items.flatMap (fun d => (F d).getD []) ∧ ∀ d ∈ items, ∃ o, F d = some o
  | [], l, h => by cases h; exact ⟨rfl, fun d hd => by cases hd⟩
  | d :: r, l, h => by
    unfold lcGo2 at h
    cases q : F d with
    | none => rw [q] at h; cases h
    | some o =>
      rw [q] at h
      dsimp only at h
      cases q2 : lcGo2 F r with
      | none => rw [q2] at h; cases h
      | some l2 =>
        rw [q2] at h
        obtain ⟨e1, e2⟩ := lcGo2_ok q2
        cases h
        refine ⟨?_, fun d' hd => ?_⟩
        · rw [List.flatMap_cons, q, ← e1]; rfl
        · rcases List.mem_cons.mp hd with rfl | hd
          · exact ⟨o, q⟩
          · exact e2 d' hd
theorem filterMap_all {F : D → Option (Option D)} {f : D → D} : ∀ {items : List D}, (∀ d ∈ items, F d = some (some (f d))) → (items.filterMap fun d => match F d with
    | some o => o
    | none => none) = items.map f
  | [], _ => rfl
  | d :: r, h => by
    rw [List.filterMap_cons, h d (List.mem_cons_self ..), List.map_cons, filterMap_all fun b hb => h b (List.mem_cons_of_mem _ hb)]
theorem s_lc2 (ih : IHt Φ S k n) (x : XO Φ S k M X) (gx : XG X π γ) (hcm : M.calm = true) {elt : IE} {t1 t2 : List Nat} {k1 k2 : IK} {its1 its2 : List IE} {y g1 i1 g2 i2 : Expr} {scope : Scope} {p : Pos} {r : RR} (h1 : okG { M with sc := relS scope M.sc } t1 g1 = true) (h2 : okG { M with sc := relS scope M.sc } t2 g2 = true)
    (h3 : okO M.N ((tgN g1 ++ tgN g2).zip (t1 ++ t2)) M.sc scope = true) (h4 : t1.length = (tgN g1).length) (h5 : t2.length = (tgN g2).length) (e1 : k1 ≠ .en) (e2 : k2 ≠ .en) (h6 : okIt (okE S n M) S M k1 its1 i1 = true) (h7 : okIt (okE S n { M with sc := relS scope M.sc }) S { M with sc := relS scope M.sc } k2 its2 i2 = true)
    (h8 : okE S n { M with sc := relS scope M.sc } elt y = true) (h : ev Φ γ false (.lc2 elt t1 k1 its1 t2 k2 its2) = some r) : PG X (γ.map (S2.sl π)) (.ListComp y [⟨g1, i1, [], 0⟩, ⟨g2, i2, [], 0⟩] scope p) r := by
  have h' : (match (evD Φ γ its1).bind (itms k1) with
    | none => none
    | some items => if items.length ≤ 300 then (lcGo2 (fun d => match put t1 d (Ev.blk γ (t1 ++ t2)) with
      | none => none
      | some γ2 => match (evD Φ γ2 its2).bind (itms k2) with
        | none => none
        | some items2 => if items2.length ≤ 300 then lcGo (fun d2 => match put t2 d2 (Ev.blk γ2 t2) with
          | none => none
          | some γ3 => (RR.d? (ev Φ γ3 false elt)).map some) items2 else none) items).map RR.new else none) = some r := h
  cases qi : (evD Φ γ its1).bind (itms k1) with
  | none => rw [qi] at h'; cases h'
  | some items =>
    rw [qi] at h'
    dsimp only at h'
    split at h'
    next hz =>
      generalize hF : (fun d => match put t1 d (Ev.blk γ (t1 ++ t2)) with
        | none => none
        | some γ2 => match (evD Φ γ2 its2).bind (itms k2) with
          | none => none
          | some items2 => if items2.length ≤ 300 then lcGo (fun d2 => match put t2 d2 (Ev.blk γ2 t2) with
            | none => none
            | some γ3 => (RR.d? (ev Φ γ3 false elt)).map some) items2 else none) = F at h'
      cases ql : lcGo2 F items with
      | none => rw [ql] at h'; cases h'
      | some l =>
        rw [ql] at h'
        cases h'
        obtain ⟨w1, w2⟩ := lcGo2_ok ql
        rw [w1]
        obtain ⟨hit, hset⟩ := it_ok (π := π) (tg := g1) ih x gx h6 qi (fun z => absurd z e1)
        have hown : ((tgN g1 ++ tgN g2).zip (t1 ++ t2)).map (·.2) = t1 ++ t2 := zip_snd (by rw [List.length_append, List.length_append, h4, h5])
        refine PG.of_pn (pn_lc2 (own := (tgN g1 ++ tgN g2).zip (t1 ++ t2)) (vs1 := t2) hit ?_ x.nd (okO_ok x h3) (fun i hi => by rw [hown]; exact List.mem_append_right _ hi) hz (x.calm hcm) hset fun env => noset_it (nb (ba h7).1))
        intro d hd
        obtain ⟨o, ho⟩ := w2 d hd
        have ho' := ho
        rw [← hF] at ho'
        dsimp only at ho'
        cases qp : put t1 d (Ev.blk γ (t1 ++ t2)) with
        | none => rw [qp] at ho'; cases ho'
        | some γ2 =>
          rw [qp] at ho'
          dsimp only at ho'
          cases q2 : (evD Φ γ2 its2).bind (itms k2) with
          | none => rw [q2] at ho'; cases ho'
          | some items2 =>
            rw [q2] at ho'
            dsimp only at ho'
            split at ho'
            next hz2 =>
              have n2 : noX γ2 := noX_put2 (noX_blk (noX_of (x.calm hcm) gx)) qp
              have g2' : ∀ X', XG X' π γ2 := noX_put (noX_blk (noX_of (x.calm hcm) gx)) qp
              obtain ⟨w3, w4⟩ := lcGo_ok ho'
              have key : ∀ b, b ∈ items2 → ∃ γ3 dv, put t2 b (Ev.blk γ2 t2) = some γ3 ∧ RR.d? (ev Φ γ3 false elt) = some dv := fun b hb => by
                obtain ⟨ob, hob⟩ := w4 b hb
                cases qq : put t2 b (Ev.blk γ2 t2) with
                | none => rw [qq] at hob; cases hob
                | some γ3 =>
                  rw [qq] at hob
                  cases qv : RR.d? (ev Φ γ3 false elt) with
                  | none => simp only [qv] at hob; cases hob
                  | some dv => exact ⟨γ3, dv, rfl, qv⟩
              refine ⟨γ2.map (S2.sl π), t1, items2, fun b => ((put t2 b (Ev.blk γ2 t2)).bind fun γ3 => RR.d? (ev Φ γ3 false elt)).getD .non, fun j hj => by rw [hown]; exact List.mem_append_left _ hj, ?_, hz2, fun s2 H2 C2 cl fp => ⟨?_, ?_⟩, fun b hb => ?_⟩
              · show (F d).getD [] = _
                rw [ho]
                show o = _
                rw [w3]
                refine filterMap_all fun b hb => ?_
                obtain ⟨γ3, dv, k1, k2⟩ := key b hb
                simp only [k1, k2, Option.bind_some, Option.map_some, Option.getD_some]
              · rw [hown]
                have z := put_ok (π := π) (M := { M with sc := relS scope M.sc }) hcm (x.blk scope s2 H2 C2 cl fp) h1 qp
                rw [blk_sl] at z
                exact z
              · exact (it_ok (π := π) (tg := g2) ih (x.blk scope s2 H2 C2 cl fp) (g2' _) h7 q2 (fun z => absurd z e2)).1
              · obtain ⟨γ3, dv, k1, k2⟩ := key b hb
                refine ⟨γ3.map (S2.sl π), t2, fun j hj => hj, fun s2 H2 C2 cl fp => ⟨?_, ?_⟩⟩
                · have z := put_ok (π := π) (M := { M with sc := relS scope M.sc }) hcm (x.blk scope s2 H2 C2 cl fp) h2 k1
                  rw [blk_sl] at z
                  exact z
                · simp only [k1, k2, Option.bind_some, Option.getD_some]
                  exact d_of k2 ((ih _ _ (x.blk scope s2 H2 C2 cl fp) γ3 π (noX_put (noX_blk n2) k1 _) elt y h8).1)
            next => cases ho'
    next => cases h'
theorem stepA (ih : IHt Φ S k n) (x : XO Φ S k M X) (gx : XG X π γ) {ir : IE} {e : Expr} (ok : okA (okE S n) S M ir e = true) : (∀ r, ev Φ γ false ir = some r → PG X (γ.map (S2.sl π)) e r) ∧ ∀ r, ev Φ γ true ir = some r → PGW X (γ.map (S2.sl π)) e r := by
  unfold okA at ok
  split at ok
  · -- cst
    next d c j p => 
    have hp : ∀ r, ev Φ γ false (.cst d) = some r → PG X (γ.map (S2.sl π)) (.Constant c j p) r := fun r h => by
      have h' : some (RR.val d) = some r := h
      cases h'
      exact PG.of_pd (okC_ok ok)
    exact ⟨hp, tst_ok _ rfl hp⟩
  · next i nm p => exact ⟨fun r h => s_loc x ok h, tst_ok _ rfl fun r h => s_loc x ok h⟩
  · next i nm p =>
    obtain ⟨h1, h2⟩ := ba ok
    exact ⟨fun r h => s_glo x (of_decide_eq_true h1) h2 h, tst_ok _ rfl fun r h => s_glo x (of_decide_eq_true h1) h2 h⟩
  · next i nm p =>
    obtain ⟨h1, h2⟩ := ba ok
    exact ⟨fun r h => s_kls x (of_decide_eq_true h1) h2 h, tst_ok _ rfl fun r h => s_kls x (of_decide_eq_true h1) h2 h⟩
  · next op a b y op' z p =>
    obtain ⟨h1, h2⟩ := ba ok
    obtain ⟨h2, h3⟩ := ba h2
    have h1 := of_decide_eq_true h1
    subst h1
    exact ⟨fun r h => s_bin ih x gx h2 h3 h, tst_ok _ rfl fun r h => s_bin ih x gx h2 h3 h⟩
  · exact ⟨fun r h => s_neg ih x gx ok h, tst_ok _ rfl fun r h => s_neg ih x gx ok h⟩
  · exact ⟨fun r h => s_not ih x gx ok h, fun r h => s_notT ih x gx ok h⟩
  · next a b y z p =>
    obtain ⟨h1, h2⟩ := ba ok
    exact ⟨fun r h => and_go (ih M X x γ π gx a _ h1).1 (fun rb hb => ((ih M X x γ π gx b _ h2).1 rb hb).one) h, fun r h => and_goT (ih M X x γ π gx a _ h1).2 (fun q hb => pw_and1 ((ih M X x γ π gx b _ h2).2 _ hb q rfl).1) h⟩
  · next a b y z z2 rr p =>
    obtain ⟨h1, h2⟩ := ba ok
    exact ⟨fun r h => and_go (ih M X x γ π gx a _ h1).1 (ih M X x γ π gx b _ h2).1 h, fun r h => and_goT (ih M X x γ π gx a _ h1).2 (fun q hb => ((ih M X x γ π gx b _ h2).2 _ hb q rfl).2 rfl) h⟩
  · next a b y z p =>
    obtain ⟨h1, h2⟩ := ba ok
    exact ⟨fun r h => or_go (ih M X x γ π gx a _ h1).1 (fun rb hb => ((ih M X x γ π gx b _ h2).1 rb hb).one) h, fun r h => or_goT (ih M X x γ π gx a _ h1).2 (fun q hb => pw_or1 ((ih M X x γ π gx b _ h2).2 _ hb q rfl).1) h⟩
  · next a b y z z2 rr p =>
    obtain ⟨h1, h2⟩ := ba ok
    exact ⟨fun r h => or_go (ih M X x γ π gx a _ h1).1 (ih M X x γ π gx b _ h2).1 h, fun r h => or_goT (ih M X x γ π gx a _ h1).2 (fun q hb => ((ih M X x γ π gx b _ h2).2 _ hb q rfl).2 rfl) h⟩
  · next c a b y z z2 p =>
    obtain ⟨h1, h2⟩ := ba ok
    obtain ⟨h2, h3⟩ := ba h2
    exact ⟨fun r h => s_ife ih x gx h1 h2 h3 h, fun r h => by cases h⟩
  · next op a b y op' z p =>
    obtain ⟨h1, h2⟩ := ba ok
    obtain ⟨h2, h3⟩ := ba h2
    obtain ⟨h3, h4⟩ := ba h3
    have h1 := of_decide_eq_true h1
    subst h1
    exact ⟨fun r h => s_cmp ih x gx (nb h2) h3 h4 h, fun r h => s_cmpT ih x gx (nb h2) h3 h4 h⟩
  · next o1 o2 a b c y q1 q2 z z2 p =>
    obtain ⟨h1, h2⟩ := ba ok
    obtain ⟨h2, h3⟩ := ba h2
    obtain ⟨h3, h4⟩ := ba h3
    obtain ⟨h4, h5⟩ := ba h4
    obtain ⟨h5, h6⟩ := ba h5
    have h1 := of_decide_eq_true h1
    have h2 := of_decide_eq_true h2
    subst h1 h2
    exact ⟨fun r h => s_chn ih x gx (nb h3) h4 h5 h6 h, fun r h => s_chnT ih x gx (nb h3) h4 h5 h6 h⟩
  · obtain ⟨h1, h2⟩ := ba ok
    exact ⟨fun r h => (s_isc x ih gx h1 h2 h).1, fun r h => (s_isc x ih gx h1 h2 (show ev Φ γ false _ = _ from h)).2⟩
  · exact ⟨fun r h => (s_isn x ih gx ok h).1, fun r h => (s_isn x ih gx ok (show ev Φ γ false _ = _ from h)).2⟩
  · next f as nm p1 xs p2 =>
    obtain ⟨h1, h2⟩ := ba ok
    obtain ⟨h2, h3⟩ := ba h2
    obtain ⟨h3, h4⟩ := ba h3
    obtain ⟨h4, h5⟩ := ba h4
    have hg : (glB M nm && plainN nm) = true := by rw [h2, h3]; rfl
    cases xs with
    | nil => cases h4
    | cons e es => exact ⟨fun r h => s_fn ih x gx (of_decide_eq_true h1) hg h5 h, tst_ok _ rfl fun r h => s_fn ih x gx (of_decide_eq_true h1) hg h5 h⟩
  · next a y p1 z p2 w p3 p4 =>
    obtain ⟨hcm, ok⟩ := ba ok
    obtain ⟨k1, k2⟩ := ba ok
    obtain ⟨k3, k4⟩ := ba k2
    obtain ⟨k5, k6⟩ := ba k4
    obtain ⟨k7, k8⟩ := ba k6
    have e1 := of_decide_eq_true k1
    have e2 := of_decide_eq_true k5
    subst e1 e2
    exact ⟨fun r h => s_trg ih x gx hcm k3 k7 k8 h, tst_ok _ rfl fun r h => s_trg ih x gx hcm k3 k7 k8 h⟩
  · next a y p1 z p2 w p3 p4 =>
    obtain ⟨hcm, ok⟩ := ba ok
    obtain ⟨k1, k2⟩ := ba ok
    obtain ⟨k3, k4⟩ := ba k2
    obtain ⟨k5, k6⟩ := ba k4
    obtain ⟨k7, k8⟩ := ba k6
    have e1 := of_decide_eq_true k1
    have e2 := of_decide_eq_true k5
    subst e1 e2
    exact ⟨fun r h => s_lset ih x gx hcm k3 k7 k8 h, tst_ok _ rfl fun r h => s_lset ih x gx hcm k3 k7 k8 h⟩
  · next bb as nm p1 xs p2 _ _ =>
    obtain ⟨k0, w1⟩ := ba ok
    obtain ⟨k1, w2⟩ := ba w1
    obtain ⟨k2, w3⟩ := ba w2
    obtain ⟨k3, w4⟩ := ba w3
    obtain ⟨k4, w5⟩ := ba w4
    obtain ⟨k5, k6⟩ := ba w5
    cases xs with
    | nil => cases k5
    | cons e es => exact ⟨fun r h => s_bi ih x gx k0 (of_decide_eq_true k3) k4 k6 (of_decide_eq_true k1) (of_decide_eq_true k2) h, tst_ok _ rfl fun r h => s_bi ih x gx k0 (of_decide_eq_true k3) k4 k6 (of_decide_eq_true k1) (of_decide_eq_true k2) h⟩
  · next a t nm p1 y z p2 p3 =>
    obtain ⟨h1, h2⟩ := ba ok
    obtain ⟨h2, h3⟩ := ba h2
    obtain ⟨h3, h4⟩ := ba h3
    obtain ⟨h4, h5⟩ := ba h4
    have h1 := of_decide_eq_true h1
    subst h1
    exact ⟨fun r h => s_inb ih x gx h2 h3 (of_decide_eq_true h4) h5 h, bl_ok _ rfl fun r h => s_inb ih x gx h2 h3 (of_decide_eq_true h4) h5 h⟩
  · next o f y g p =>
    obtain ⟨h1, h2⟩ := ba ok
    obtain ⟨h2, h3⟩ := ba h2
    have h1 := of_decide_eq_true h1
    subst h1
    exact ⟨fun r h => s_att ih x gx (nb h2) h3 h, tst_ok _ rfl fun r h => s_att ih x gx (nb h2) h3 h⟩
  · obtain ⟨h1, h2⟩ := ba ok
    obtain ⟨h2, h3⟩ := ba h2
    exact ⟨fun r h => s_sub ih x gx h1 h2 h3 h, tst_ok _ rfl fun r h => s_sub ih x gx h1 h2 h3 h⟩
  · exact ⟨fun r h => s_lst ih x gx ok h, tst_ok _ rfl fun r h => s_lst ih x gx ok h⟩
  · exact ⟨fun r h => s_tup ih x gx ok h, tst_ok _ rfl fun r h => s_tup ih x gx ok h⟩
  · obtain ⟨h1, h2⟩ := ba ok
    obtain ⟨h2, h3⟩ := ba h2
    exact ⟨fun r h => s_slc ih x gx h1 h2 h3 h, tst_ok _ rfl fun r h => s_slc ih x gx h1 h2 h3 h⟩
  · exact ⟨fun r h => s_rev ih x gx ok h, tst_ok _ rfl fun r h => s_rev ih x gx ok h⟩
  · obtain ⟨hcm, ok⟩ := ba ok
    obtain ⟨h1, h2⟩ := ba ok
    obtain ⟨h2, h3⟩ := ba h2
    obtain ⟨h3, h4⟩ := ba h3
    obtain ⟨h4, h5⟩ := ba h4
    obtain ⟨h5, h6⟩ := ba h5
    obtain ⟨h6, h7⟩ := ba h6
    exact ⟨fun r h => s_lc ih x gx hcm h1 h2 (of_decide_eq_true h3) h4 h5 h6 h7 h, tst_ok _ rfl fun r h => s_lc ih x gx hcm h1 h2 (of_decide_eq_true h3) h4 h5 h6 h7 h⟩
  · cases ok
theorem stepY (ih : IHt Φ S k n) (x : XO Φ S k M X) (gx : XG X π γ) {ir : IE} {e : Expr} (ok : okY (okE S n) S M ir e = true) : (∀ r, ev Φ γ false ir = some r → PG X (γ.map (S2.sl π)) e r) ∧ ∀ r, ev Φ γ true ir = some r → PGW X (γ.map (S2.sl π)) e r := by
  unfold okY at ok
  split at ok
  · next f p as kvs nm p1 xs kws p2 =>
    obtain ⟨h1, h2⟩ := ba ok
    obtain ⟨h2, h3⟩ := ba h2
    obtain ⟨h3, h4⟩ := ba h3
    obtain ⟨h4, h5⟩ := ba h4
    have hg : (glB M nm && plainN nm) = true := by rw [h2, h3]; rfl
    exact ⟨fun r h => s_fnk ih x gx (of_decide_eq_true h1) hg h4 h5 h, tst_ok _ rfl fun r h => s_fnk ih x gx (of_decide_eq_true h1) hg h4 h5 h⟩
  · next f p as kvs nm p1 xs kws p2 =>
    obtain ⟨h1, h2⟩ := ba ok
    obtain ⟨h2, h3⟩ := ba h2
    obtain ⟨h3, h4⟩ := ba h3
    obtain ⟨h4, h5⟩ := ba h4
    have hg : (glB M nm && plainN nm) = true := by rw [h2, h3]; rfl
    exact ⟨fun r h => s_mk ih x gx (of_decide_eq_true h1) hg h4 h5 h, tst_ok _ rfl fun r h => s_mk ih x gx (of_decide_eq_true h1) hg h4 h5 h⟩
  · next c g nm p1 h p2 =>
    obtain ⟨h1, h2⟩ := ba ok
    obtain ⟨h2, h3⟩ := ba h2
    obtain ⟨h3, h4⟩ := ba h3
    have hg : (glB M nm && plainN nm) = true := by rw [h2, h3]; rfl
    have e4 := of_decide_eq_true h4
    subst e4
    exact ⟨fun r h => s_con x (of_decide_eq_true h1) hg h, tst_ok _ rfl fun r h => s_con x (of_decide_eq_true h1) hg h⟩
  · next a b nm p1 y z p2 =>
    obtain ⟨h1, h2⟩ := ba ok
    obtain ⟨h2, h3⟩ := ba h2
    obtain ⟨h3, h4⟩ := ba h3
    obtain ⟨h4, h5⟩ := ba h4
    have e2 := of_decide_eq_true h2
    subst e2
    have ha : all2 (okE S n M) [a, b] [y, z] = true := by
      show (okE S n M a y && (okE S n M b z && true)) = true
      rw [h4, h5]; rfl
    exact ⟨fun r h => s_gcd ih x gx h1 h3 ha h, tst_ok _ rfl fun r h => s_gcd ih x gx h1 h3 ha h⟩
  · next b o a y nm ap z q =>
    obtain ⟨h1, h2⟩ := ba ok
    obtain ⟨h2, h3⟩ := ba h2
    obtain ⟨h3, h4⟩ := ba h3
    obtain ⟨h4, h5⟩ := ba h4
    obtain ⟨h5, h6⟩ := ba h5
    obtain ⟨h6, h7⟩ := ba h6
    exact ⟨fun r h => s_bm ih x gx (of_decide_eq_true h1) (of_decide_eq_true h2) (nb h3) (nb h4) h5 h6 h7 h, tst_ok _ rfl fun r h => s_bm ih x gx (of_decide_eq_true h1) (of_decide_eq_true h2) (nb h3) (nb h4) h5 h6 h7 h⟩
  · next as nm p1 nm2 p2 xs p3 p4 =>
    obtain ⟨h1, w2⟩ := ba ok
    obtain ⟨h2, w3⟩ := ba w2
    obtain ⟨h3, w4⟩ := ba w3
    obtain ⟨h4, w5⟩ := ba w4
    obtain ⟨h5, w6⟩ := ba w5
    obtain ⟨h6, h7⟩ := ba w6
    have e2 := of_decide_eq_true h2
    have e4 := of_decide_eq_true h4
    subst e2 e4
    exact ⟨fun r h => s_lrg ih x gx h1 h3 h5 h6 h7 h, tst_ok _ rfl fun r h => s_lrg ih x gx h1 h3 h5 h6 h7 h⟩
  · next elt t1 k1 its1 t2 k2 its2 y g1 i1 g2 i2 scope p =>
    obtain ⟨h1, ok⟩ := ba ok
    obtain ⟨h2, ok⟩ := ba ok
    obtain ⟨h3, ok⟩ := ba ok
    obtain ⟨h4, ok⟩ := ba ok
    obtain ⟨h5, ok⟩ := ba ok
    obtain ⟨h6, ok⟩ := ba ok
    obtain ⟨h7, ok⟩ := ba ok
    obtain ⟨h8, h9⟩ := ba h7
    obtain ⟨h10, ok⟩ := ba ok
    obtain ⟨h11, h12⟩ := ba ok
    have go : ∀ r, ev Φ γ false (.lc2 elt t1 k1 its1 t2 k2 its2) = some r → PG X (γ.map (S2.sl π)) (.ListComp y [⟨g1, i1, [], 0⟩, ⟨g2, i2, [], 0⟩] scope p) r := fun r h => s_lc2 ih x gx h1 h2 h3 h4 (of_decide_eq_true h5) (of_decide_eq_true h6) (of_decide_eq_true h8) (of_decide_eq_true h9) h10 h11 h12 h
    exact ⟨go, tst_ok _ rfl go⟩
  · cases ok
theorem snd_step (ih : IHt Φ S k n) : IHt Φ S k (n + 1) := by
  intro M X x γ π gx ir e ok
  rcases Bool.or_eq_true_iff.mp (show (okA (okE S n) S M ir e || okY (okE S n) S M ir e) = true from ok) with ok | ok
  · exact stepA ih x gx ok
  · exact stepY ih x gx ok
theorem snd : ∀ n, IHt Φ S k n
  | 0 => fun _ _ _ _ _ _ _ _ ok => by cases ok
  | n + 1 => snd_step (snd n)
end
end Ev
end

section
set_option autoImplicit false
set_option Elab.async false
set_option linter.all false
set_option maxRecDepth 100000
set_option maxHeartbeats 4000000
namespace Ev
open PySem PySem.Spec PyProof.Rows L2 Pd
/-! ### no list hangs on it -/
section
variable {K : PySem.W.Frag} {H H' : Hp}
def Keeps (H H' : Hp) : Prop := ∀ a u, H a = some u → (∀ vs, u ≠ .lst vs) → H' a = some u
theorem rd_keep {a : Addr} {u : HO} (e : Keeps H H') (hu : ∀ vs, u ≠ .lst vs) (h : Rd H a u) : Rd H' a u := by
  rcases h with h | ⟨o, h⟩
  · exact .inl (e a _ h hu)
  · exact .inr ⟨o, e a _ h fun vs z => by cases z⟩
theorem sqT_keep {a : Addr} {xs : List V} (e : Keeps H H') (h : SqT K H a xs) : SqT K H' a xs := by
  rcases h with h | h
  · exact .inl (rd_keep e (fun vs z => by cases z) h)
  · exact .inr h
mutual
theorem Rep.na (e : Keeps H H') : ∀ {v : V} {d : D}, Ev.na d = true → Rep K H v d → Rep K H' v d
  | _, _, _, .non => .non
  | _, _, _, .bl b => .bl b
  | _, _, _, .int i => .int i
  | _, _, _, .str x => .str x
  | _, _, _, .ty n => .ty n
  | _, _, _, .adr a => .adr a
  | _, _, n, .tup h r => .tup (sqT_keep e h) (Reps.na e (by unfold Ev.na at n; exact n) r)
  | _, _, n, .obj h r => .obj (e _ _ h fun vs z => by cases z) (RepF.na e (by unfold Ev.na at n; exact n) r)
  | _, _, n, .lst _ _ => by unfold Ev.na at n; cases n
  | _, _, n, .rol _ _ => by unfold Ev.na at n; cases n
  | _, _, n, .exc _ _ => by unfold Ev.na at n; cases n
  | _, _, n, .dK _ _ => by unfold Ev.na at n; cases n
  | _, _, n, .dT _ _ => by unfold Ev.na at n; cases n
  | _, _, n, .ev0 _ => by unfold Ev.na at n; cases n
  | _, _, n, .ev1 _ _ _ => by unfold Ev.na at n; cases n
theorem Reps.na (e : Keeps H H') : ∀ {v : List V} {d : List D}, Ev.nas d = true → Reps K H v d → Reps K H' v d
  | _, _, _, .nil => .nil
  | _, _, n, .cons r t => by
    unfold Ev.nas at n
    exact .cons (Rep.na e (ba n).1 r) (Reps.na e (ba n).2 t)
theorem RepF.na (e : Keeps H H') : ∀ {v : List (Str × V)} {d : List (Str × D)}, Ev.naf d = true → RepF K H v d → RepF K H' v d
  | _, _, _, .nil => .nil
  | _, _, n, .cons r t => by
    unfold Ev.naf at n
    exact .cons (Rep.na e (ba n).1 r) (RepF.na e (ba n).2 t)
end
end
/-! ### an expression from a body's state -/
def TGr (X : Cx) (γ : List Sl) (t : TE) (r : RR) : Prop := ∀ (W : WX), Takes X W → ∀ (σ : L2.St) (Hs H : Hp) (Q : VK), Same Hs H → SE X.K Hs σ γ →
  KR X.K r Q (fun C dd H' => W (.ref C) (some dd) σ H') Hs H → t σ H Q
section
variable {Φ : Phi} {S : Sta} {k n : Nat} {M : Md} {X : Cx} {γ γ1 : List S2} {π : Pt} {Hs0 H0 Hr Hs H : Hp} {σ : L2.St} {r : RR} {ir : IE} {t : TE}
open Classical in
/-- the shared heap and one's own lists -/
noncomputable def viewH (γ : List Sl) (σ : L2.St) (Hs H : Hp) : Hp := fun a => if (∃ (i : Nat) (ds : List D), γ[i]? = some (Sl.ow ds) ∧ σ[i]? = some (some (V.ref a))) then H a else Hs a
open Classical in
noncomputable def unviewH (γ : List Sl) (σ : L2.St) (Hs : Hp) : Hp := fun a => if (∃ (i : Nat) (ds : List D), γ[i]? = some (Sl.ow ds) ∧ σ[i]? = some (some (V.ref a))) then none else Hs a
theorem own_at {g : List Sl} (tS : ST X.K Hs0 H0 Hr Hs H σ g) {a : Addr} (h : ∃ (i : Nat) (ds : List D), g[i]? = some (Sl.ow ds) ∧ σ[i]? = some (some (V.ref a))) : Hs a = none ∧ ∃ vs, H a = some (.lst vs) := by
  obtain ⟨i, ds, h1, h2⟩ := h
  obtain ⟨l, o, e1, e2, e3, _, vs, rfl, _⟩ := tS.own i _ h1 rfl
  rw [h2] at e1
  cases e1
  exact ⟨e3, vs, e2⟩
theorem view_same {g : List Sl} (tS : ST X.K Hs0 H0 Hr Hs H σ g) : Same Hs (viewH g σ Hs H) ∧ Same (viewH g σ Hs H) H := by
  refine ⟨fun a u e => ?_, fun a u e => ?_⟩
  · unfold viewH
    split
    next h => rw [(own_at tS h).1] at e; cases e
    next => exact e
  · unfold viewH at e
    split at e
    · exact e
    · exact tS.sub a u e
theorem view_SE (tS : ST X.K Hs0 H0 Hr Hs H σ (γ.map (S2.sl π))) : SE X.K (viewH (γ.map (S2.sl π)) σ Hs H) σ ((γ.map S2.vwL).map (S2.sl π)) := by
  obtain ⟨s1, s2⟩ := view_same tS
  refine ⟨by rw [tS.len]; simp, fun i d q => ?_⟩
  rw [List.getElem?_map, List.getElem?_map] at q
  cases e : γ[i]? with
  | none => rw [e] at q; cases q
  | some s =>
    rw [e] at q
    have q : S2.sl π s.vwL = Sl.sh d := Option.some.inj q
    cases s with
    | no => cases q
    | sh d' =>
      cases q
      obtain ⟨v, h1, h2⟩ := tS.shd i _ (map_at e)
      exact ⟨v, h1, h2.mono s1⟩
    | ex C fs =>
      cases q
      obtain ⟨v, h1, h2⟩ := tS.shd i _ (map_at (π := π) e)
      exact ⟨v, h1, h2.mono s1⟩
    | ob C fs => cases q
    | ow ds =>
      cases q
      obtain ⟨l, o, e1, e2, e3, _, vs, rfl, rr⟩ := tS.own i _ (map_at (π := π) e) rfl
      refine ⟨_, e1, .lst ?_ (rr.mono s1)⟩
      unfold viewH
      rw [if_pos ⟨i, ds, map_at (π := π) e, e1⟩]
      exact e2
theorem unview {g : List Sl} (tS : ST X.K Hs0 H0 Hr Hs H σ g) {Hs' H' : Hp} (gr : Gr (viewH g σ Hs H) H Hs' H') : Gr Hs H (unviewH g σ Hs') H' ∧ Keeps Hs' (unviewH g σ Hs') := by
  obtain ⟨s1, s2⟩ := view_same tS
  have own : ∀ a, (∃ (i : Nat) (ds : List D), g[i]? = some (Sl.ow ds) ∧ σ[i]? = some (some (V.ref a))) → ∃ vs, Hs' a = some (.lst vs) := fun a h => by
    obtain ⟨h1, vs, h2⟩ := own_at tS h
    refine ⟨vs, gr.sh a _ ?_⟩
    unfold viewH
    rw [if_pos h]
    exact h2
  refine ⟨⟨fun a u e => ?_, gr.ext, fun a u e => ?_, fun a h1 h2 => ?_⟩, fun a u e hu => ?_⟩
  · unfold unviewH
    split
    next h => rw [(own_at tS h).1] at e; cases e
    next => exact gr.sh a u (s1 a u e)
  · unfold unviewH at e
    split at e
    · cases e
    · exact gr.sub a u e
  · unfold unviewH
    split
    · rfl
    next h =>
      refine gr.loc a h1 ?_
      unfold viewH
      rw [if_neg h]
      exact h2
  · unfold unviewH
    split
    next h =>
      obtain ⟨vs, q⟩ := own a h
      rw [q] at e
      cases e
      exact absurd rfl (hu vs)
    next => exact e
theorem KR.view {g : List Sl} {Q : VK} {W : Addr → Addr → Hp → Prop} (tS : ST X.K Hs0 H0 Hr Hs H σ g) (hn : r.na = true) (kk : KR X.K r Q W Hs H) : KR X.K r Q W (viewH g σ Hs H) H := by
  cases r with
  | val d =>
    intro v Hs' H' gr rr
    obtain ⟨g2, kp⟩ := unview tS gr
    exact kk v _ H' g2 (Rep.na kp hn rr)
  | new ds =>
    intro l vs Hs' H' gr h1 h2 h3 rr
    obtain ⟨g2, kp⟩ := unview tS gr
    refine kk l vs _ H' g2 h1 ?_ h3 (Reps.na kp hn rr)
    unfold unviewH
    split
    · rfl
    · exact h2
  | exc C fs =>
    intro dd us Hs' H' gr h1 h2
    obtain ⟨g2, kp⟩ := unview tS gr
    exact kk dd us _ H' g2 (kp _ _ h1 fun vs z => by cases z) (RepF.na kp hn h2)
theorem XG.map {f : S2 → S2} (hf : ∀ s C fs, f s = .ex C fs → s = .ex C fs) (gx : XG X π γ) : XG X π (γ.map f) := fun i C fs h => by
  rw [List.getElem?_map] at h
  cases e : γ[i]? with
  | none => rw [e] at h; cases h
  | some s =>
    rw [e] at h
    have h := hf s C fs (Option.some.inj h)
    subst h
    exact gx i C fs e
theorem XG.set {s : S2} {j : Nat} (gx : XG X π γ) (hs : ∀ C fs, s ≠ .ex C fs) : XG X π (γ.set j s) := fun i C fs e => by
  by_cases q : j = i
  · subst q
    exact absurd (set_self_of e) (hs C fs)
  · rw [List.getElem?_set_ne q] at e
    exact gx i C fs e
theorem XG.frz : ∀ {us : List Nat} {γ : List S2}, XG X π γ → XG X π (Ev.frz γ us)
  | [], _, gx => gx
  | u :: us, γ, gx => by
    unfold Ev.frz
    split
    · exact XG.frz (gx.set fun _ _ z => by cases z)
    · exact XG.frz gx
/-- given away -/
theorem frz_ST : ∀ {us : List Nat} {γ : List S2} {Hs : Hp}, ST X.K Hs0 H0 Hr Hs H σ (γ.map (S2.sl π)) → ∃ Hs', Same Hs Hs' ∧ ST X.K Hs0 H0 Hr Hs' H σ ((Ev.frz γ us).map (S2.sl π))
  | [], _, Hs, tS => ⟨Hs, Same.refl _, tS⟩
  | u :: us, γ, Hs, tS => by
    unfold Ev.frz
    split
    next ds e =>
      obtain ⟨Hs1, s1, t1⟩ := tS.freeze (map_at (π := π) e) rfl
      rw [show (γ.map (S2.sl π)).set u (Sl.vw (S2.sl π (.ow ds))) = (γ.set u (.sh (.lst ds))).map (S2.sl π) by rw [map_set]; rfl] at t1
      obtain ⟨Hs2, s2, t2⟩ := frz_ST (us := us) t1
      exact ⟨Hs2, s1.trans s2, t2⟩
    next => exact frz_ST tS
theorem vwO_sl (s : S2) : (S2.vwO s).sl π = (s.sl π).vw := by cases s <;> rfl
theorem evP_ok {v : Vw} {W : WX} {Q : VK} (hT : ∀ γ' r, XG X π γ' → ev Φ γ' false ir = some r → TGr X (γ'.map (S2.sl π)) t r) (gx : XG X π γ) (hv : evP Φ γ v ir = some (γ1, r)) (tS : ST X.K Hs0 H0 Hr Hs H σ (γ.map (S2.sl π))) (tk : Takes X W)
    (kk : ∀ Hs1, ST X.K Hs0 H0 Hr Hs1 H σ (γ1.map (S2.sl π)) → KR X.K r Q (fun C dd H' => W (.ref C) (some dd) σ H') Hs1 H) : t σ H Q := by
  cases v with
  | pl =>
    have hv : (ev Φ γ false ir).map (fun r => (γ, r)) = some (γ1, r) := hv
    cases e : ev Φ γ false ir with
    | none => rw [e] at hv; cases hv
    | some r' =>
      rw [e] at hv
      cases hv
      exact hT γ r gx e W tk σ Hs H Q tS.sub tS.se (kk Hs tS)
  | vw =>
    have hv : (ev Φ (γ.map S2.vwL) false ir).bind (fun r => if r.na then some (γ, r) else none) = some (γ1, r) := hv
    cases e : ev Φ (γ.map S2.vwL) false ir with
    | none => rw [e] at hv; cases hv
    | some r' =>
      rw [e] at hv
      have hv : (if r'.na then some (γ, r') else none) = some (γ1, r) := hv
      split at hv
      next hn =>
        cases hv
        exact hT _ r (gx.map fun s C fs h => by cases s <;> first | exact h | cases h) e W tk σ _ H Q (view_same tS).2 (view_SE tS) (KR.view tS hn (kk Hs tS))
      next => cases hv
  | vo =>
    have hv : (ev Φ (γ.map S2.vwO) false ir).bind (fun r => if r.sc then some (γ, r) else none) = some (γ1, r) := hv
    cases e : ev Φ (γ.map S2.vwO) false ir with
    | none => rw [e] at hv; cases hv
    | some r' =>
      rw [e] at hv
      have hv : (if r'.sc then some (γ, r') else none) = some (γ1, r) := hv
      split at hv
      next hn =>
        cases hv
        have se := tS.view
        rw [List.map_map, show (Sl.vw ∘ S2.sl π) = (S2.sl π ∘ S2.vwO) from funext fun s => (vwO_sl s).symm, ← List.map_map] at se
        refine hT _ r (gx.map fun s C fs h => by cases s <;> first | exact h | cases h) e W tk σ H H Q (Same.refl _) se ?_
        cases r with
        | val d => exact fun v Hs' H' gr rr => kk Hs tS v Hs H' ⟨Same.refl _, gr.ext, tS.sub.trans gr.ext, fun _ _ h => h⟩ (rr.sc hn)
        | new ds => cases hn
        | exc C fs => cases hn
      next => cases hv
  | fz us =>
    have hv : (ev Φ (frz γ us) false ir).map (fun r => (frz γ us, r)) = some (γ1, r) := hv
    cases e : ev Φ (frz γ us) false ir with
    | none => rw [e] at hv; cases hv
    | some r' =>
      rw [e] at hv
      cases hv
      obtain ⟨Hs1, s1, t1⟩ := frz_ST (us := us) tS
      exact hT _ r gx.frz e W tk σ Hs1 H Q t1.sub t1.se (kk Hs1 t1)
/-- a test from a body's state -/
theorem evT_ok {c : IE} {ec : Expr} {b : Bool} {Q : Bool → Hp → Prop} (x : XO Φ S k M X) (gx : XG X π γ) (ok : okE S n M c ec = true) (h : ev Φ (γ.map S2.vwO) true c = some (.val (.bl b))) (tS : ST X.K Hs0 H0 Hr Hs H σ (γ.map (S2.sl π)))
    (kk : ∀ H', ST X.K Hs0 H0 Hr Hs H' σ (γ.map (S2.sl π)) → Q b H') : wT X ec σ H Q := by
  have se := tS.view
  rw [List.map_map, show (Sl.vw ∘ S2.sl π) = (S2.sl π ∘ S2.vwO) from funext fun s => (vwO_sl s).symm, ← List.map_map] at se
  have gx2 : XG X π (γ.map S2.vwO) := gx.map fun s C fs h => by cases s <;> first | exact h | cases h
  exact ((snd n M X x _ π gx2 c ec ok).2 _ h b rfl).1 σ H H Q (Same.refl _) se fun Hs' H' gr => kk H' (tS.scal gr)
end
end Ev
end

section
set_option autoImplicit false
set_option Elab.async false
set_option linter.all false
set_option maxRecDepth 100000
set_option maxHeartbeats 4000000
namespace Ev
open PySem PySem.Spec PyProof.Rows L2 Pd
/-! ### statements: the checks -/
def isL (M : Md) (i : Nat) (x : Str) : Bool := decide (M.N[i]? = some x) && (match M.sc.names.lookup x with
  | some .local => true
  | _ => false)
def isLc (M : Md) (i : Nat) (x : Str) : Bool := decide (M.N[i]? = some x) && locB M x
def isTup : Expr → Bool
  | .Tuple _ _ _ => true
  | .List _ _ => true
  | _ => false
def okS (S : Sta) : Nat → Md → IS → Stmt → Bool
  | 0, _, _, _ => false
  | n + 1, M, ir, st => match ir, st with
    | .asg v i (.lc elt tg k its cond), .Assign [.Name x px] (.ListComp y [⟨t, it, ifs, 0⟩] scope p) q => (isL M i x && (decide (M.sc.kind = .function) && ((px.line == p.line) && (!(scope.names.any fun (n, k) => n == x && (k == .local || k == .cell)) &&
      okE S (n + 1) M (.lc elt tg k its cond) (.ListComp y [⟨t, it, ifs, 0⟩] scope p))))) || (isLc M i x && (decide (M.sc.names.lookup x = some .cell) && okE S (n + 1) M (.lc elt tg k its cond) (.ListComp y [⟨t, it, ifs, 0⟩] scope p)))
    | .asg v i e, .Assign [.Name x px] y q => isLc M i x && (!isComp y && okE S n M e y)
    | .asgs v tg e, .Assign [t] y q => M.calm && (okGs M tg t && (isTup t && (!isTup y && (!isComp y && okE S n M e y))))
    | .seti v i ix e, .Assign [.Subscript (.Name x px) b pb] y q => isN M i x && (plainIx b && (okE S n M ix b && okE S n M e y))
    | .app v i e, .Expr (.Call (.Attribute (.Name x px) m ap) [y] [] p) q => isN M i x && (decide (m = ("append" : Str)) && (decide (p = q) && ((ap.endLine == p.line) && okE S n M e y)))
    | .fld v f e, .Assign [.Attribute (.Name x px) g pa] y q => isN M 0 x && (decide (f = g) && (!isComp y && okE S n M e y))
    | .ret v e, .Return (some y) q => okE S n M e y
    | .reto i, .Return (some (.Name x px)) q => isN M i x
    | .retN, .Return none q => true
    | .ite c a b, .If y s t q => okE S n M c y && (all2 (okS S n M) a s && all2 (okS S n M) b t)
    | .for us tg k its body, .For t it s [] q => M.calm && (okGs M tg t && (okIt (okE S n M) S M k its it && ((decide (k ≠ .en) || decide (tg.length = 2)) && all2 (okS S n M) body s)))
    | .raise v C e, .Raise (some (.Call (.Name x px) [y] [] p)) none q => M.calm && (decide (S.ename C = some x) && (glB M x && (plainN x && okE S n M e y)))
    | .exp v e, .Expr y q => !isComp y && okE S n M e y
    | .pass, .Pass _ => true
    | .brk, .Break _ => true
    | .cont, .Continue _ => true
    | _, _ => false
/-! ### what is wanted of a statement -/
def RO (π : Pt) (o : Out) : Rs where
  nx := fun g => ∃ γ, o = .nx γ ∧ g = γ.map (S2.sl π)
  rt := fun d => o = .rt d
  rn := fun ds => o = .rn ds
  bk := fun g => ∃ γ, o = .bk γ ∧ g = γ.map (S2.sl π)
  ct := fun g => ∃ γ, o = .ct γ ∧ g = γ.map (S2.sl π)
  xs := fun C fs g => ∃ γ, o = .xc C fs γ ∧ g = γ.map (S2.sl π)
section
variable {Φ : Phi} {S : Sta} {k n : Nat} {M : Md} {X : Cx} {γ γ1 : List S2} {π : Pt} {e : IE} {y : Expr} {p q : Pos} {o : Out} {v : Vw}
theorem swaps_no {y : Expr} (h : isComp y = false) {t : Option Expr} {l : Nat} {env : Env} : swapsWith y t l env = pure false := by
  cases y <;> first | rfl | cases h
theorem swaps_sub {y : Expr} {a b : Expr} {pb : Pos} {l : Nat} {env : Env} : swapsWith y (some (.Subscript a b pb)) l env = pure false := by
  cases y <;> rfl
theorem isL_ok (x : XO Φ S k M X) {i : Nat} {nm : Str} (h : isL M i nm = true) : X.N[i]? = some nm ∧ X.env.scope.names.lookup nm = some .local := by
  obtain ⟨h1, h2⟩ := ba h
  exact ⟨by rw [x.N]; exact of_decide_eq_true h1, loc_ok x h2⟩
def HR (X : Cx) : Prop := Room 2 X.A ∧ ∀ n, X.fn n = true
theorem isLc_ok (x : XO Φ S k M X) {i : Nat} {nm : Str} (h : isLc M i nm = true) : X.N[i]? = some nm ∧ L2.Loc X.env.scope nm := by
  obtain ⟨h1, h2⟩ := ba h
  exact ⟨by rw [x.N]; exact of_decide_eq_true h1, locS_ok x h2⟩
theorem frz_own {i : Nat} {ds : List D} : ∀ {us : List Nat} {γ : List S2}, (frz γ us)[i]? = some (.ow ds) → γ[i]? = some (.ow ds)
  | [], _, h => h
  | u :: us, γ, h => by
    unfold frz at h
    split at h
    next ds' e =>
      have z := frz_own h
      by_cases q : u = i
      · subst q
        have y := set_self_of z
        cases y
      · rwa [List.getElem?_set_ne q] at z
    next => exact frz_own h
theorem evP_cases {r : RR} (hv : evP Φ γ v e = some (γ1, r)) : γ1 = γ ∨ ∃ us, γ1 = frz γ us := by
  cases v with
  | pl =>
    have hv : (ev Φ γ false e).map (fun r => (γ, r)) = some (γ1, r) := hv
    cases q : ev Φ γ false e <;> rw [q] at hv <;> cases hv
    exact .inl rfl
  | vw =>
    have hv : (ev Φ (γ.map S2.vwL) false e).bind (fun r => if r.na then some (γ, r) else none) = some (γ1, r) := hv
    cases q : ev Φ (γ.map S2.vwL) false e with
    | none => rw [q] at hv; cases hv
    | some r' =>
      rw [q] at hv
      have hv : (if r'.na then some (γ, r') else none) = some (γ1, r) := hv
      split at hv <;> cases hv
      exact .inl rfl
  | vo =>
    have hv : (ev Φ (γ.map S2.vwO) false e).bind (fun r => if r.sc then some (γ, r) else none) = some (γ1, r) := hv
    cases q : ev Φ (γ.map S2.vwO) false e with
    | none => rw [q] at hv; cases hv
    | some r' =>
      rw [q] at hv
      have hv : (if r'.sc then some (γ, r') else none) = some (γ1, r) := hv
      split at hv <;> cases hv
      exact .inl rfl
  | fz us =>
    have hv : (ev Φ (frz γ us) false e).map (fun r => (frz γ us, r)) = some (γ1, r) := hv
    cases q : ev Φ (frz γ us) false e <;> rw [q] at hv <;> cases hv
    exact .inr ⟨us, rfl⟩
theorem own_evP {r : RR} {i : Nat} {ds : List D} (hv : evP Φ γ v e = some (γ1, r)) (h : γ1[i]? = some (.ow ds)) : γ[i]? = some (.ow ds) := by
  rcases evP_cases hv with rfl | ⟨us, rfl⟩
  · exact h
  · exact frz_own h
theorem gx_evP {r : RR} (gx : XG X π γ) (hv : evP Φ γ v e = some (γ1, r)) : XG X π γ1 := by
  rcases evP_cases hv with rfl | ⟨us, rfl⟩
  · exact gx
  · exact gx.frz
/-- e's reading, for evP_ok -/
theorem hT_of (x : XO Φ S k M X) (ok : okE S n M e y = true) : ∀ γ' r, XG X π γ' → ev Φ γ' false e = some r → TGr X (γ'.map (S2.sl π)) (wE X y) r := fun γ' r gx h => (snd n M X x γ' π gx e y ok).1 r h
/-- the shape of the proofs: an expression, then what follows -/
theorem go {t : TE} {R : Rs} {Hs0 H0 Hr : Hp} {E : Ends} (F : Fit X Hs0 H0 Hr R E) {σ : L2.St} {Hs H : Hp} (tS : ST X.K Hs0 H0 Hr Hs H σ (γ.map (S2.sl π))) {Q : VK} {r : RR}
    (hT : ∀ γ' r, XG X π γ' → ev Φ γ' false e = some r → TGr X (γ'.map (S2.sl π)) t r) (gx : XG X π γ) (hv : evP Φ γ v e = some (γ1, r)) (hx : ∀ C fs, r = .exc C fs → R.xs C fs (γ1.map (S2.sl π)))
    (kv : ∀ d v Hs' H', r = .val d → ST X.K Hs0 H0 Hr Hs' H' σ (γ1.map (S2.sl π)) → Rep X.K Hs' v d → Q v H')
    (kn : ∀ ds Hs1 l vs Hs' H', r = .new ds → ST X.K Hs0 H0 Hr Hs1 H σ (γ1.map (S2.sl π)) → Gr Hs1 H Hs' H' → H l = none → Hs' l = none → H' l = some (.lst vs) → Reps X.K Hs' vs ds → Q (.ref l) H') : t σ H Q := by
  cases r with
  | val d => exact evP_ok hT gx hv tS takes0 fun Hs1 t1 => fun v Hs' H' gr rr => kv d v Hs' H' rfl (t1.go gr) rr
  | new ds => exact evP_ok hT gx hv tS takes0 fun Hs1 t1 => fun l vs Hs' H' gr h1 h2 h3 rr => kn ds Hs1 l vs Hs' H' rfl t1 gr h1 h2 h3 rr
  | exc C fs =>
    rcases F.xs with no | ⟨W, tk, hW⟩
    · exact absurd (hx C fs rfl) (no _ _ _)
    · exact evP_ok hT gx hv tS tk fun Hs1 t1 => fun dd us Hs' H' gr h1 h2 => hW C fs dd us _ σ Hs' H' (t1.go gr) h1 h2 (hx C fs rfl)
/-- a slot set by an assignment's reading -/
theorem asg_go {t : TE} {i : Nat} {Hs0 H0 Hr : Hp} {E : Ends} {r : RR} (F : Fit X Hs0 H0 Hr (RO π o) E) {σ : L2.St} {Hs H : Hp} (tS : ST X.K Hs0 H0 Hr Hs H σ (γ.map (S2.sl π)))
    (hT : ∀ γ' r, XG X π γ' → ev Φ γ' false e = some r → TGr X (γ'.map (S2.sl π)) t r) (gx : XG X π γ) (hv : evP Φ γ v e = some (γ1, r)) (ho : setS i γ1 r = some o) : t σ H fun w H1 => E.nx (σ.set i (some w)) H1 := by
  refine go F tS hT gx hv (fun C fs e => ?_) (fun d w Hs' H' e t1 rr => ?_) fun ds Hs1 l vs Hs' H' e t1 gr h1 h2 h3 rr => ?_
  · subst e
    cases ho
    exact ⟨_, rfl, rfl⟩
  · subst e
    cases ho
    exact F.nx _ _ Hs' H' (t1.set rr) ⟨_, rfl, by rw [map_set]; rfl⟩
  · subst e
    cases ho
    exact F.nx _ _ Hs' H' (t1.setO gr h1 h2 h3 (repO_l rr)) ⟨_, rfl, by rw [map_set]; rfl⟩
theorem q_asgC (x : XO Φ S k M X) (hr : HR X) (gx : XG X π γ) {i : Nat} {nm : Str} (h1 : isLc M i nm = true) (h2 : swapsWith y (some (.Name nm p)) q.line X.env = pure false) (h3 : okE S n M e y = true) (h : evS Φ (.asg v i e) γ = some o) : S1 X (.Assign [.Name nm p] y q) (γ.map (S2.sl π)) (RO π o) := fun Hs0 H0 Hr E F σ Hs H tS => by
  obtain ⟨q1, q2⟩ := isLc_ok x h1
  have h' : (match evP Φ γ v e with
    | some (γ1, r) => setS i γ1 r
    | none => none) = some o := by rw [evS] at h; exact h
  cases hv : evP Φ γ v e with
  | none => rw [hv] at h'; cases h'
  | some w =>
    obtain ⟨γ1, r⟩ := w
    rw [hv] at h'
    exact wS_of (ps_set x.nd q1 q2 (wE_ok y) h2 (.inl (hr.2 _))) (asg_go F tS (hT_of x h3) gx hv h')
theorem q_asg (x : XO Φ S k M X) (hr : HR X) (gx : XG X π γ) {i : Nat} {nm : Str} (h1 : isLc M i nm = true) (h2 : isComp y = false) (h3 : okE S n M e y = true) (h : evS Φ (.asg v i e) γ = some o) : S1 X (.Assign [.Name nm p] y q) (γ.map (S2.sl π)) (RO π o) := fun Hs0 H0 Hr E F σ Hs H tS => by
  obtain ⟨q1, q2⟩ := isLc_ok x h1
  have h' : (match evP Φ γ v e with
    | some (γ1, r) => setS i γ1 r
    | none => none) = some o := by rw [evS] at h; exact h
  cases hv : evP Φ γ v e with
  | none => rw [hv] at h'; cases h'
  | some w =>
    obtain ⟨γ1, r⟩ := w
    rw [hv] at h'
    exact wS_of (ps_set x.nd q1 q2 (wE_ok y) (swaps_no h2) (.inl (hr.2 _))) (asg_go F tS (hT_of x h3) gx hv h')
theorem q_ret (x : XO Φ S k M X) (gx : XG X π γ) (h3 : okE S n M e y = true) (h : evS Φ (.ret v e) γ = some o) : S1 X (.Return (some y) q) (γ.map (S2.sl π)) (RO π o) := fun Hs0 H0 Hr E F σ Hs H tS => by
  have h' : (match evP Φ γ v e with
    | some (_, .val d) => some (.rt d)
    | some (_, .new ds) => some (.rn ds)
    | some (γ1, .exc C fs) => some (.xc C fs γ1)
    | none => none) = some o := by rw [evS] at h; exact h
  cases hv : evP Φ γ v e with
  | none => rw [hv] at h'; cases h'
  | some w =>
    obtain ⟨γ1, r⟩ := w
    rw [hv] at h'
    refine wS_of (ps_ret (wE_ok y)) (go F tS (hT_of x h3) gx hv (fun C fs e => ?_) (fun d w Hs' H' e t1 rr => ?_) fun ds Hs1 l vs Hs' H' e t1 gr h1 h2 h3 rr => ?_)
    · subst e; cases h'; exact ⟨_, rfl, rfl⟩
    · subst e; cases h'
      exact F.rt d w Hs' H' t1.gr rr rfl
    · subst e; cases h'
      exact F.rn ds l vs Hs' H' (t1.gr.trans gr) (t1.gr.ext.free h1) h2 h3 rr rfl
theorem q_exp (x : XO Φ S k M X) (gx : XG X π γ) (h2 : isComp y = false) (h3 : okE S n M e y = true) (h : evS Φ (.exp v e) γ = some o) : S1 X (.Expr y q) (γ.map (S2.sl π)) (RO π o) := fun Hs0 H0 Hr E F σ Hs H tS => by
  have h' : (match evP Φ γ v e with
    | some (γ1, .exc C fs) => some (.xc C fs γ1)
    | some (γ1, _) => some (.nx γ1)
    | none => none) = some o := by rw [evS] at h; exact h
  cases hv : evP Φ γ v e with
  | none => rw [hv] at h'; cases h'
  | some w =>
    obtain ⟨γ1, r⟩ := w
    rw [hv] at h'
    refine wS_of (ps_expr (wE_ok y) (swaps_no h2)) (go F tS (hT_of x h3) gx hv (fun C fs e => ?_) (fun d w Hs' H' e t1 rr => ?_) fun ds Hs1 l vs Hs' H' e t1 gr h1 h2 h3 rr => ?_)
    · subst e; cases h'; exact ⟨_, rfl, rfl⟩
    · subst e; cases h'
      exact F.nx _ _ Hs' H' t1 ⟨_, rfl, rfl⟩
    · subst e; cases h'
      exact F.nx _ _ Hs' H' (t1.go gr) ⟨_, rfl, rfl⟩
theorem q_reto (x : XO Φ S k M X) {i : Nat} {nm : Str} (hn : isN M i nm = true) (h : evS Φ (.reto i) γ = some o) : S1 X (.Return (some (.Name nm p)) q) (γ.map (S2.sl π)) (RO π o) := by
  obtain ⟨q1, q2, q3, q4⟩ := visB_ok x hn
  have h' : (match γ[i]? with
    | some (.ow ds) => some (Out.rn ds)
    | _ => none) = some o := by rw [evS] at h; exact h
  split at h'
  next ds e =>
    cases h'
    exact s1_retO i (map_at e) rfl q1 q2 q3 q4
  next => cases h'
theorem q_app (x : XO Φ S k M X) (gx : XG X π γ) {i : Nat} {nm : Str} {ap : Pos} (hn : isN M i nm = true) (hl : (ap.endLine == q.line) = true) (h3 : okE S n M e y = true) (h : evS Φ (.app v i e) γ = some o) :
    S1 X (.Expr (.Call (.Attribute (.Name nm p) "append" ap) [y] [] q) q) (γ.map (S2.sl π)) (RO π o) := fun Hs0 H0 Hr E F σ Hs H tS => by
  obtain ⟨q1, q2, q3, q4⟩ := visB_ok x hn
  have h' : (match evP Φ γ v e with
    | some (γ1, r) => (match RR.d? (some r), γ1[i]? with
      | some d, some (.ow ds) => if ds.length < 100000 then some (Out.nx (γ1.set i (.ow (ds ++ [d])))) else none
      | _, _ => none)
    | _ => none) = some o := by rw [evS] at h; exact h
  cases hv : evP Φ γ v e with
  | none => rw [hv] at h'; cases h'
  | some w =>
    obtain ⟨γ1, r⟩ := w
    rw [hv] at h'
    dsimp only at h'
    have hst : starEach [y] X.env = (false, eval y X.env) :: starEach [] X.env := star_cons (ok_nostar h3)
    have hfew : ((backTo q (starEach [y] X.env)).all (fun x => !x.1) && (backToKw q (keywordEach [] X.env)).all (fun x => x.1.isSome) && decide (([y] : List Expr).length + ([] : List Keyword).length + (if ([] : List Keyword).isEmpty then 0 else 1) < 30)) = true := by
      rw [hst]; rfl
    refine wS_of (ps_expr (pe_bm PySem.F.plainAttrs_list PySem.F.slot_list_append PySem.F.type_list_append mt_append (pe_var q1 q2 q3 q4) (L2.pa_cons (wE_ok y) L2.pa_nil hst) rfl hfew hl hst rfl) rfl) ?_
    -- the list's address stands in its slot all along
    have hi : ∃ ds, γ1[i]? = some (.ow ds) := by
      split at h'
      next d ds e1 e2 => exact ⟨ds, e2⟩
      next => cases h'
    obtain ⟨ds, e2⟩ := hi
    have e0 := own_evP hv e2
    obtain ⟨l, ob, a, b, c, dd, vs, rfl, rr0⟩ := tS.own i _ (map_at e0) rfl
    have fin : ∀ d w Hs' H', RR.d? (some r) = some d → ST X.K Hs0 H0 Hr Hs' H' σ (γ1.map (S2.sl π)) → Rep X.K Hs' w d → ∃ (l2 : Addr) (xs : List V) (w2 : V), (V.ref l = V.ref l2) ∧ [w] = [w2] ∧ H' l2 = some (.lst xs) ∧ xs.length < sizeLine ∧ E.nx σ (upd H' l2 (.lst (xs ++ [w2]))) := fun d w Hs' H' hd t1 rw' => by
      obtain ⟨l', ob', a', b', c', dd', vs', rfl, rr'⟩ := t1.own i _ (map_at e2) rfl
      rw [a] at a'
      cases a'
      rw [hd, e2] at h'
      dsimp only at h'
      split at h'
      next hz =>
        cases h'
        refine ⟨l, vs', w, rfl, rfl, b', sz_lt (by rw [rr'.length]; exact hz), ?_⟩
        exact F.nx _ _ Hs' _ (t1.upd (map_at e2) rfl a (repO_l (rr'.append (.cons rw' .nil)))) ⟨_, rfl, by rw [map_set]; rfl⟩
      next => cases h'
    refine ⟨.ref l, a, .inl ⟨rfl, _, SqL.of b⟩, ?_⟩
    refine go F tS (hT_of x h3) gx hv (fun C fs e => ?_) (fun d w Hs' H' e t1 rr => ?_) fun ds Hs1 l2 vs Hs' H' e t1 gr h1 h2 h3 rr => ?_
    · subst e; cases h'
    · subst e
      exact fin d w Hs' H' rfl t1 rr
    · subst e
      obtain ⟨g', r'⟩ := share t1.sub gr h1 h2 h3 rr
      exact fin _ _ _ H' rfl (t1.go g') r'
/-- x[j] = e -/
theorem q_seti (x : XO Φ S k M X) (gx : XG X π γ) {i : Nat} {nm : Str} {ix : IE} {b : Expr} {pb : Pos} (hn : isN M i nm = true) (hp : plainIx b = true) (hb : okE S n M ix b = true) (h3 : okE S n M e y = true) (h : evS Φ (.seti v i ix e) γ = some o) :
    S1 X (.Assign [.Subscript (.Name nm p) b pb] y q) (γ.map (S2.sl π)) (RO π o) := fun Hs0 H0 Hr E F σ Hs H tS => by
  obtain ⟨q1, q2, q3, q4⟩ := visB_ok x hn
  have h' : (match evP Φ γ v e with
    | some (γ1, r) => (match RR.d? (some r), RR.d? (ev Φ (γ1.map S2.vwO) false ix), γ1[i]? with
      | some d, some (.int j), some (.ow ds) => (ixN ds.length j).map fun n => Out.nx (γ1.set i (.ow (ds.set n d)))
      | _, _, _ => none)
    | _ => none) = some o := by rw [evS] at h; exact h
  cases hv : evP Φ γ v e with
  | none => rw [hv] at h'; cases h'
  | some w =>
    obtain ⟨γ1, r⟩ := w
    rw [hv] at h'
    dsimp only at h'
    have gx1 : XG X π γ1 := gx_evP gx hv
    have ha : ∀ v, assign (.Subscript (.Name nm p) b pb) X.env v = (do
      let ov ← holding [v] (eval (.Name nm p) X.env)
      let iv ← holding [v, ov] (eval b X.env)
      standAt pb
      holding [v, ov, iv] (setItem ov iv v)
      release [v, ov, iv] []) := by
      intro v
      cases b <;> first | rfl | cases hp
    refine wS_of (ps_asg (wE_ok y) (pg_sub (pe_var q1 q2 q3 q4) (wE_ok b) set_list ha) (show swapsWithSole [.Subscript (.Name nm p) b pb] y q.line X.env = pure false from (by cases y <;> rfl)) (show swappedStores [.Subscript (.Name nm p) b pb] y X.env = pure none from (by cases y <;> rfl)) rfl) ?_
    have fin : ∀ d w Hs' H', RR.d? (some r) = some d → ST X.K Hs0 H0 Hr Hs' H' σ (γ1.map (S2.sl π)) → Rep X.K Hs' w d → ∃ l : V, σ[i]? = some (some l) ∧ wE X b σ H' fun u H2 => ∃ (l2 : Addr) (xs : List V) (ii : Int) (j : Nat), l = .ref l2 ∧ u = .int ii ∧ H2 l2 = some (.lst xs) ∧ ixN xs.length ii = some j ∧ E.nx σ (upd H2 l2 (.lst (xs.set j w))) := fun d w Hs' H' hd t1 rw' => by
      rw [hd] at h'
      cases qi : RR.d? (ev Φ (γ1.map S2.vwO) false ix) with
      | none => rw [qi] at h'; cases h'
      | some di =>
        rw [qi] at h'
        cases qo : γ1[i]? with
        | none => rw [qo] at h'; cases di <;> cases h'
        | some so =>
          rw [qo] at h'
          split at h'
          next d2 j ds z1 z2 z3 =>
            cases z1
            cases z2
            cases z3
            obtain ⟨l', ob', a', b', c', dd', vs', rfl, rr'⟩ := t1.own i _ (map_at qo) rfl
            refine ⟨_, a', ?_⟩
            have se := t1.view
            rw [List.map_map, show (Sl.vw ∘ S2.sl π) = (S2.sl π ∘ S2.vwO) from funext fun s => (vwO_sl s).symm, ← List.map_map] at se
            have gx2 : XG X π (γ1.map S2.vwO) := gx1.map fun s C fs h => by cases s <;> first | exact h | cases h
            have pdx : PD X ((γ1.map S2.vwO).map (S2.sl π)) b (.int j) := d_of qi fun ra hra => (snd n M X x _ π gx2 ix b hb).1 ra hra
            refine pdx σ H' H' _ (Same.refl _) se fun u Hs2 H2 g2 r2 => ?_
            cases r2
            have t2 := t1.scal g2
            obtain ⟨l3, ob3, a3, b3, c3, dd3, vs3, rfl, rr3⟩ := t2.own i _ (map_at qo) rfl
            rw [a'] at a3
            cases a3
            cases qn : ixN ds.length j with
            | none => rw [qn] at h'; cases h'
            | some nn =>
              rw [qn] at h'
              cases h'
              refine ⟨l', vs3, j, nn, rfl, rfl, b3, by rw [rr3.length]; exact qn, ?_⟩
              exact F.nx _ _ Hs' _ (t2.upd (map_at qo) rfl a' (repO_l (rr3.set rw' nn))) ⟨_, rfl, by rw [map_set]; rfl⟩
          next => cases h'
    refine go F tS (hT_of x h3) gx hv (fun C fs e => ?_) (fun d w Hs' H' e t1 rr => ?_) fun ds Hs1 l2 vs Hs' H' e t1 gr h1 h2 h3 rr => ?_
    · subst e; cases h'
    · subst e
      exact fin d w Hs' H' rfl t1 rr
    · subst e
      obtain ⟨g', r'⟩ := share t1.sub gr h1 h2 h3 rr
      exact fin _ _ _ H' rfl (t1.go g') r'
theorem q_fld (x : XO Φ S k M X) (gx : XG X π γ) {nm : Str} {f : Str} {pa : Pos} (hn : isN M 0 nm = true) (hc : isComp y = false) (h3 : okE S n M e y = true) (h : evS Φ (.fld v f e) γ = some o) :
    S1 X (.Assign [.Attribute (.Name nm p) f pa] y q) (γ.map (S2.sl π)) (RO π o) := fun Hs0 H0 Hr E F σ Hs H tS => by
  obtain ⟨q1, q2, q3, q4⟩ := visB_ok x hn
  have h' : (match evP Φ γ v e with
    | some (γ1, r) => (match r, RR.d? (some r), (γ1[0]? : Option S2) with
      | .exc C fs, _, _ => some (Out.xc C fs γ1)
      | _, some d, some (.ob C fs) => if fs.length < 1000 ∧ Φ.fld C f = true then some (Out.nx (γ1.set 0 (.ob C (putFD f d fs)))) else none
      | _, _, _ => none)
    | _ => none) = some o := by rw [evS] at h; exact h
  cases hv : evP Φ γ v e with
  | none => rw [hv] at h'; cases h'
  | some w =>
    obtain ⟨γ1, r⟩ := w
    rw [hv] at h'
    dsimp only at h'
    refine wS_of (ps_fld (pe_var q1 q2 q3 q4) (wE_ok y) (swaps_no hc)) ?_
    have fin : ∀ d w Hs' H', RR.d? (some r) = some d → ST X.K Hs0 H0 Hr Hs' H' σ (γ1.map (S2.sl π)) → Rep X.K Hs' w d → ∃ v0 : V, σ[0]? = some (some v0) ∧ ∃ (a C dx : Addr) (fs : List (Str × V)), v0 = .ref a ∧ H' a = some (.ins C dx fs) ∧ Cls X.K C ∧ NoAttr X.K C f ∧ fs.length < 1000 ∧ E.nx σ (upd H' a (.ins C dx (putF f w fs))) := fun d w Hs' H' hd t1 rw' => by
      have h2 : (match RR.d? (some r), (γ1[0]? : Option S2) with
        | some d, some (.ob C fs) => if fs.length < 1000 ∧ Φ.fld C f = true then some (Out.nx (γ1.set 0 (.ob C (putFD f d fs)))) else none
        | _, _ => none) = some o := by
        cases r with
        | exc C fs => cases hd
        | val d' => rw [← h']; cases γ1[0]? with
          | none => rfl
          | some s => cases s <;> rfl
        | new d' => rw [← h']; cases γ1[0]? with
          | none => rfl
          | some s => cases s <;> rfl
      rw [hd] at h2
      cases qo : γ1[0]? with
      | none => rw [qo] at h2; cases h2
      | some so =>
        rw [qo] at h2
        cases so with
        | ob C fs =>
          have h2 : (if fs.length < 1000 ∧ Φ.fld C f = true then some (Out.nx (γ1.set 0 (.ob C (putFD f d fs)))) else none) = some o := h2
          split at h2
          next hz =>
            cases h2
            obtain ⟨l', ob', a', b', c', dd', hpl, dx, vs', rfl, rr'⟩ := t1.own 0 _ (map_at qo) rfl
            obtain ⟨c1, c2⟩ := x.g.at_ C f hz.2
            refine ⟨_, a', l', C, dx, vs', rfl, b', c1, c2, by rw [rr'.length]; exact hz.1, ?_⟩
            have r0 : RepO X.K Hs' l' (.ins C dx (putF f w vs')) (Sl.ob π.p C (putFD f d fs)) := ⟨hpl, dx, _, rfl, rr'.put rw'⟩
            exact F.nx _ _ Hs' _ (t1.upd (map_at qo) rfl a' r0) ⟨_, rfl, by rw [map_set]; rfl⟩
          next => cases h2
        | _ => cases h2
    refine go F tS (hT_of x h3) gx hv (fun C fs e => ?_) (fun d w Hs' H' e t1 rr => ?_) fun ds Hs1 l2 vs Hs' H' e t1 gr h1 h2 h3 rr => ?_
    · subst e; cases h'; exact ⟨_, rfl, rfl⟩
    · subst e
      exact fin d w Hs' H' rfl t1 rr
    · subst e
      obtain ⟨g', r'⟩ := share t1.sub gr h1 h2 h3 rr
      exact fin _ _ _ H' rfl (t1.go g') r'
end
end Ev
end

section
set_option autoImplicit false
set_option Elab.async false
set_option linter.all false
set_option maxRecDepth 100000
set_option maxHeartbeats 4000000
namespace Ev
open PySem PySem.Spec PyProof.Rows L2 Pd
/-! ### caught errors stay in their slots -/
def okSs (S : Sta) (n : Nat) (M : Md) (is : List IS) (sts : List Stmt) : Bool := all2 (okS S n M) is sts
def XS (γ γ' : List S2) : Prop := ∀ (i : Nat) C fs, γ'[i]? = some (S2.ex C fs) → γ[i]? = some (S2.ex C fs)
def XSo (γ : List S2) : Out → Prop
  | .nx γ' => XS γ γ'
  | .bk γ' => XS γ γ'
  | .ct γ' => XS γ γ'
  | .xc _ _ γ' => XS γ γ'
  | _ => True
theorem XS.refl (γ : List S2) : XS γ γ := fun _ _ _ h => h
theorem XS.trans {a b c : List S2} (h : XS a b) (h2 : XS b c) : XS a c := fun i C fs q => h i C fs (h2 i C fs q)
theorem XSo.trans {a b : List S2} (h : XS a b) : ∀ {o : Out}, XSo b o → XSo a o
  | .nx _, q => h.trans q
  | .bk _, q => h.trans q
  | .ct _, q => h.trans q
  | .xc _ _ _, q => h.trans q
  | .rt _, _ => trivial
  | .rn _, _ => trivial
theorem XS.set {γ γ' : List S2} (h : XS γ γ') {j : Nat} {s : S2} (hs : ∀ C fs, s ≠ .ex C fs) : XS γ (γ'.set j s) := fun i C fs e => by
  by_cases q : j = i
  · subst q
    exact absurd (set_self_of e) (hs C fs)
  · rw [List.getElem?_set_ne q] at e
    exact h i C fs e
theorem XS.frz {γ : List S2} : ∀ {us : List Nat} {γ' : List S2}, XS γ γ' → XS γ (Ev.frz γ' us)
  | [], _, h => h
  | u :: us, γ', h => by
    unfold Ev.frz
    split
    · exact XS.frz (h.set fun _ _ z => by cases z)
    · exact XS.frz h
theorem XS.put {γ γ' γ2 : List S2} {tg : List Nat} {d : D} (h : XS γ γ') (hp : put tg d γ' = some γ2) : XS γ γ2 := by
  unfold Ev.put at hp
  split at hp
  · cases hp; exact h.set fun _ _ z => by cases z
  · cases hp; exact (h.set fun _ _ z => by cases z).set fun _ _ z => by cases z
  · cases hp
theorem XS.gx {X : Cx} {π : Pt} {γ γ' : List S2} (h : XS γ γ') (g : XG X π γ) : XG X π γ' := fun i C fs e => g i C fs (h i C fs e)
section
variable {Φ : Phi} {S : Sta} {k n : Nat} {M : Md}
theorem XS.evP {γ γ1 : List S2} {v : Vw} {e : IE} {r : RR} (hv : evP Φ γ v e = some (γ1, r)) : XS γ γ1 := by
  rcases evP_cases hv with rfl | ⟨us, rfl⟩
  · exact XS.refl _
  · exact (XS.refl _).frz
def HX (Φ : Phi) (S : Sta) (n : Nat) : Prop := ∀ (M : Md) (ir : IS) (st : Stmt) (γ : List S2) (o : Out), okS S n M ir st = true → evS Φ ir γ = some o → XSo γ o
theorem xs_block (ih : HX Φ S n) : ∀ {is : List IS} {sts : List Stmt} {γ : List S2} {o : Out}, okSs S n M is sts = true → evSs Φ is γ = some o → XSo γ o
  | [], [], γ, o, _, h => by
    have h : some (Out.nx γ) = some o := by rw [evSs] at h; exact h
    cases h
    exact XS.refl _
  | i :: is, st :: sts, γ, o, ok, h => by
    obtain ⟨o1, o2⟩ := ba ok
    have h : Out.then (evS Φ i γ) (fun γ1 => evSs Φ is γ1) = some o := by rw [evSs] at h; exact h
    cases q : evS Φ i γ with
    | none => rw [q] at h; cases h
    | some o' =>
      rw [q] at h
      have z := ih M i st γ o' o1 q
      cases o' with
      | nx γ' => exact XSo.trans z (xs_block ih o2 h)
      | _ => cases h; exact z
  | [], _ :: _, _, _, ok, _ => by cases ok
  | _ :: _, [], _, _, ok, _ => by cases ok
theorem xs_for {put' : D → List S2 → Option (List S2)} {f : List S2 → Option Out} (hp : ∀ d γ γ2, put' d γ = some γ2 → XS γ γ2) (hf : ∀ γ o, f γ = some o → XSo γ o) : ∀ {items : List D} {γ : List S2} {o : Out}, forGo put' f items γ = some o → XSo γ o
  | [], γ, o, h => by cases h; exact XS.refl _
  | d :: r, γ, o, h => by
    have h : (match put' d γ with
      | none => none
      | some γ1 => match f γ1 with
        | some (.nx γ2) => forGo put' f r γ2
        | some (.ct γ2) => forGo put' f r γ2
        | some (.bk γ2) => some (.nx γ2)
        | o => o) = some o := h
    cases qp : put' d γ with
    | none => rw [qp] at h; cases h
    | some γ1 =>
      rw [qp] at h
      have z := hp d γ γ1 qp
      dsimp only at h
      cases qf : f γ1 with
      | none => rw [qf] at h; cases h
      | some o1 =>
        rw [qf] at h
        have z1 := hf γ1 o1 qf
        cases o1 with
        | nx γ2 => exact XSo.trans (z.trans z1) (xs_for hp hf h)
        | ct γ2 => exact XSo.trans (z.trans z1) (xs_for hp hf h)
        | bk γ2 => cases h; exact z.trans z1
        | rt d => cases h; trivial
        | rn d => cases h; trivial
        | xc C fs γ2 => cases h; exact z.trans z1
theorem xs_step (ih : HX Φ S n) : HX Φ S (n + 1) := by
  intro M ir st γ o ok h
  have asg : ∀ {v i e}, evS Φ (.asg v i e) γ = some o → XSo γ o := fun {v i e} h => by
    have h' : (match Ev.evP Φ γ v e with
      | some (γ1, r) => setS i γ1 r
      | none => none) = some o := by rw [evS] at h; exact h
    cases hv : Ev.evP Φ γ v e with
    | none => rw [hv] at h'; cases h'
    | some w =>
      obtain ⟨γ1, r⟩ := w
      rw [hv] at h'
      have z := XS.evP hv
      cases r with
      | val d => cases h'; exact z.set fun _ _ z => by cases z
      | new d => cases h'; exact z.set fun _ _ z => by cases z
      | exc C fs => cases h'; exact z
  unfold okS at ok
  split at ok
  · exact asg h
  · exact asg h
  · next v tg e t y q =>
    have h' : (match Ev.evP Φ γ v e with
      | some (γ1, .val d) => (Ev.put tg d γ1).map .nx
      | some (γ1, .exc C fs) => some (.xc C fs γ1)
      | _ => none) = some o := by rw [evS] at h; exact h
    cases hv : Ev.evP Φ γ v e with
    | none => rw [hv] at h'; cases h'
    | some w =>
      obtain ⟨γ1, r⟩ := w
      rw [hv] at h'
      have z := XS.evP hv
      cases r with
      | val d =>
        have h' : (Ev.put tg d γ1).map Out.nx = some o := h'
        cases qp : Ev.put tg d γ1 with
        | none => rw [qp] at h'; cases h'
        | some γ2 => rw [qp] at h'; cases h'; exact z.put qp
      | new d => cases h'
      | exc C fs => cases h'; exact z
  · next v i ix e _ _ _ _ _ _ =>
    have h' : (match Ev.evP Φ γ v e with
      | some (γ1, r) => (match RR.d? (some r), RR.d? (ev Φ (γ1.map S2.vwO) false ix), γ1[i]? with
        | some d, some (.int j), some (.ow ds) => (ixN ds.length j).map fun n => Out.nx (γ1.set i (.ow (ds.set n d)))
        | _, _, _ => none)
      | _ => none) = some o := by rw [evS] at h; exact h
    cases hv : Ev.evP Φ γ v e with
    | none => rw [hv] at h'; cases h'
    | some w =>
      obtain ⟨γ1, r⟩ := w
      rw [hv] at h'
      have z := XS.evP hv
      dsimp only at h'
      split at h'
      next d j ds _ _ _ =>
        cases qn : ixN ds.length j with
        | none => rw [qn] at h'; cases h'
        | some nn => rw [qn] at h'; cases h'; exact z.set fun _ _ z => by cases z
      next => cases h'
  · next v i e _ _ _ _ _ _ _ =>
    have h' : (match Ev.evP Φ γ v e with
      | some (γ1, r) => (match RR.d? (some r), γ1[i]? with
        | some d, some (.ow ds) => if ds.length < 100000 then some (Out.nx (γ1.set i (.ow (ds ++ [d])))) else none
        | _, _ => none)
      | _ => none) = some o := by rw [evS] at h; exact h
    cases hv : Ev.evP Φ γ v e with
    | none => rw [hv] at h'; cases h'
    | some w =>
      obtain ⟨γ1, r⟩ := w
      rw [hv] at h'
      have z := XS.evP hv
      dsimp only at h'
      split at h'
      · split at h'
        · cases h'; exact z.set fun _ _ z => by cases z
        · cases h'
      · cases h'
  · next v f e _ _ _ _ _ _ =>
    have h' : (match Ev.evP Φ γ v e with
      | some (γ1, r) => (match r, RR.d? (some r), (γ1[0]? : Option S2) with
        | .exc C fs, _, _ => some (Out.xc C fs γ1)
        | _, some d, some (.ob C fs) => if fs.length < 1000 ∧ Φ.fld C f = true then some (Out.nx (γ1.set 0 (.ob C (putFD f d fs)))) else none
        | _, _, _ => none)
      | _ => none) = some o := by rw [evS] at h; exact h
    cases hv : Ev.evP Φ γ v e with
    | none => rw [hv] at h'; cases h'
    | some w =>
      obtain ⟨γ1, r⟩ := w
      rw [hv] at h'
      have z := XS.evP hv
      dsimp only at h'
      split at h'
      · cases h'; exact z
      · split at h'
        · cases h'; exact z.set fun _ _ z => by cases z
        · cases h'
      · cases h'
  · next v e _ _ =>
    have h' : (match Ev.evP Φ γ v e with
      | some (_, .val d) => some (.rt d)
      | some (_, .new ds) => some (.rn ds)
      | some (γ1, .exc C fs) => some (.xc C fs γ1)
      | none => none) = some o := by rw [evS] at h; exact h
    cases hv : Ev.evP Φ γ v e with
    | none => rw [hv] at h'; cases h'
    | some w =>
      obtain ⟨γ1, r⟩ := w
      rw [hv] at h'
      have z := XS.evP hv
      cases r with
      | val d => cases h'; trivial
      | new d => cases h'; trivial
      | exc C fs => cases h'; exact z
  · next i _ _ _ =>
    have h' : (match γ[i]? with
      | some (.ow ds) => some (Out.rn ds)
      | _ => none) = some o := by rw [evS] at h; exact h
    split at h' <;> cases h'
    trivial
  · have h' : some (Out.rt .non) = some o := by rw [evS] at h; exact h
    cases h'
    trivial
  · next c a b y s t q =>
    obtain ⟨h1, h2⟩ := ba ok
    obtain ⟨h2, h3⟩ := ba h2
    have h' : (match ev Φ (γ.map S2.vwO) true c with
      | some (.val (.bl true)) => evSs Φ a γ
      | some (.val (.bl false)) => evSs Φ b γ
      | _ => none) = some o := by rw [evS] at h; exact h
    split at h'
    · exact xs_block ih h2 h'
    · exact xs_block ih h3 h'
    · cases h'
  · next us tg kk its body t it s q =>
    obtain ⟨_, h2⟩ := ba ok
    obtain ⟨_, h2⟩ := ba h2
    obtain ⟨_, h2⟩ := ba h2
    obtain ⟨_, h4⟩ := ba h2
    have h' : (match (evD Φ (Ev.frz γ us) its).bind (itms kk) with
      | some items => forGo (Ev.put tg) (fun γ1 => evSs Φ body γ1) items (Ev.frz γ us)
      | none => none) = some o := by rw [evS] at h; exact h
    split at h'
    · exact XSo.trans (XS.refl γ).frz (xs_for (fun d γ γ2 hp => (XS.refl γ).put hp) (fun γ o ho => xs_block ih h4 ho) h')
    · cases h'
  · next v C e x _ y _ _ =>
    have h' : (match Ev.evP Φ γ v e with
      | some (γ1, .val d) => (Φ.efld C).map fun f => Out.xc (Φ.ga C) [(f, d)] γ1
      | _ => none) = some o := by rw [evS] at h; exact h
    cases hv : Ev.evP Φ γ v e with
    | none => rw [hv] at h'; cases h'
    | some w =>
      obtain ⟨γ1, r⟩ := w
      rw [hv] at h'
      have z := XS.evP hv
      cases r with
      | val d =>
        have h' : (Φ.efld C).map (fun f => Out.xc (Φ.ga C) [(f, d)] γ1) = some o := h'
        cases qf : Φ.efld C with
        | none => rw [qf] at h'; cases h'
        | some f => rw [qf] at h'; cases h'; exact z
      | _ => cases h'
  · next v e _ _ =>
    have h' : (match Ev.evP Φ γ v e with
      | some (γ1, .exc C fs) => some (.xc C fs γ1)
      | some (γ1, _) => some (.nx γ1)
      | none => none) = some o := by rw [evS] at h; exact h
    cases hv : Ev.evP Φ γ v e with
    | none => rw [hv] at h'; cases h'
    | some w =>
      obtain ⟨γ1, r⟩ := w
      rw [hv] at h'
      have z := XS.evP hv
      cases r with
      | val d => cases h'; exact z
      | new d => cases h'; exact z
      | exc C fs => cases h'; exact z
  · have h' : some (Out.nx γ) = some o := by rw [evS] at h; exact h
    cases h'; exact XS.refl _
  · have h' : some (Out.bk γ) = some o := by rw [evS] at h; exact h
    cases h'; exact XS.refl _
  · have h' : some (Out.ct γ) = some o := by rw [evS] at h; exact h
    cases h'; exact XS.refl _
  · cases ok
theorem xs_all : ∀ n, HX Φ S n
  | 0 => fun _ _ _ _ _ ok => by cases ok
  | n + 1 => xs_step (xs_all n)
end
end Ev
end

section
set_option autoImplicit false
set_option Elab.async false
set_option linter.all false
set_option maxRecDepth 100000
set_option maxHeartbeats 4000000
namespace Ev
open PySem PySem.Spec PyProof.Rows L2 Pd
section
variable {Φ : Phi} {S : Sta} {k n : Nat} {M : Md} {X : Cx} {γ γ1 : List S2} {π : Pt} {e : IE} {y : Expr} {p q : Pos} {o : Out} {v : Vw}
theorem sw_cell {elt : Expr} {gs : List Comprehension} {scope : Scope} {pos py : Pos} {y : Str} {l : Nat} {env : Env} (hy : env.scope.names.lookup y = some .cell) : swapsWith (.ListComp elt gs scope pos) (some (.Name y py)) l env = pure false := by
  have e : env.kindOf y = some .cell := hy
  show (pure (env.blockKind == .function && env.kindOf y == some .local && py.line == pos.line && !(scope.names.any fun (n, k) => n == y && (k == .local || k == .cell))) : Sem Bool) = pure false
  rw [e]
  rw [show ((some NameKind.cell == some NameKind.local) = false) from rfl, Bool.and_false, Bool.false_and, Bool.false_and]
theorem q_asgs (x : XO Φ S k M X) (hr : HR X) (gx : XG X π γ) {tg : List Nat} {t : Expr} (hcm : M.calm = true) (h1 : okGs M tg t = true) (ht : isTup t = true) (hy : isTup y = false) (h2 : isComp y = false) (h3 : okE S n M e y = true) (h : evS Φ (.asgs v tg e) γ = some o) : S1 X (.Assign [t] y q) (γ.map (S2.sl π)) (RO π o) := fun Hs0 H0 Hr E F σ Hs H tS => by
  have h' : (match evP Φ γ v e with
    | some (γ1, .val d) => (put tg d γ1).map .nx
    | some (γ1, .exc C fs) => some (.xc C fs γ1)
    | _ => none) = some o := by rw [evS] at h; exact h
  cases hv : evP Φ γ v e with
  | none => rw [hv] at h'; cases h'
  | some w =>
    obtain ⟨γ1, r⟩ := w
    rw [hv] at h'
    have a1 : swapsWithSole [t] y q.line X.env = pure false := by cases y <;> first | rfl | cases h2
    have a2 : swappedStores [t] y X.env = pure none := by
      cases t <;> first | (cases y <;> first | rfl | cases hy) | cases ht
    have a3 : (assignEach [t] X.env).map (·.2) = [assign t X.env] := by
      cases t <;> first | rfl | cases ht
    refine wS_of (ps_asg (wE_ok y) (wG_ok t) a1 a2 a3) (go F tS (hT_of x h3) gx hv (fun C fs e => ?_) (fun d w Hs' H' e t1 rr => ?_) fun ds Hs1 l vs Hs' H' e t1 gr h1 h2 h3 rr => ?_)
    · subst e; cases h'; exact ⟨_, rfl, rfl⟩
    · subst e
      have h' : (put tg d γ1).map Out.nx = some o := h'
      cases qp : put tg d γ1 with
      | none => rw [qp] at h'; cases h'
      | some γ2 =>
        rw [qp] at h'
        cases h'
        exact put_okS (π := π) hcm x hr.2 h1 qp Hs0 H0 Hr Hs' H' σ w _ t1 rr fun σ' Hs2 H2 t2 _ _ _ => F.nx _ _ Hs2 H2 t2 ⟨_, rfl, rfl⟩
    · subst e; cases h'
theorem q_raise (x : XO Φ S k M X) (gx : XG X π γ) {C : Nat} {nm : Str} {pn : Pos} (hcm : M.calm = true) (he : S.ename C = some nm) (hg : (glB M nm && plainN nm) = true) (h3 : okE S n M e y = true) (hr : HR X) (h : evS Φ (.raise v C e) γ = some o) :
    S1 X (.Raise (some (.Call (.Name nm pn) [y] [] p)) none q) (γ.map (S2.sl π)) (RO π o) := fun Hs0 H0 Hr E F σ Hs H tS => by
  obtain ⟨g1, g2, _⟩ := glB_ok x hg
  have h' : (match evP Φ γ v e with
    | some (γ1, .val d) => (Φ.efld C).map fun f => Out.xc (Φ.ga C) [(f, d)] γ1
    | _ => none) = some o := by rw [evS] at h; exact h
  cases hv : evP Φ γ v e with
  | none => rw [hv] at h'; cases h'
  | some w =>
    obtain ⟨γ1, r⟩ := w
    rw [hv] at h'
    cases r with
    | new ds => cases h'
    | exc C' fs => cases h'
    | val d =>
      cases qf : Φ.efld C with
      | none => have h' : (Φ.efld C).map (fun f => Out.xc (Φ.ga C) [(f, d)] γ1) = some o := h'; rw [qf] at h'; cases h'
      | some f =>
        have h' : (Φ.efld C).map (fun f => Out.xc (Φ.ga C) [(f, d)] γ1) = some o := h'
        rw [qf] at h'
        cases h'
        have T := x.g.er C nm f he qf
        obtain ⟨fI, fd, ps, i1, i2, ok, bd⟩ := T.ex
        rcases F.xs with no | ⟨W, tk, hW⟩
        · exact absurd (show (RO π (Out.xc (Φ.ga C) [(f, d)] γ1)).xs _ _ _ from ⟨_, rfl, rfl⟩) (no _ _ _)
        have hst : starEach [y] X.env = (false, eval y X.env) :: starEach [] X.env := star_cons (ok_nostar h3)
        refine wS_of (ps_raise (x.calm hcm) tk (pmk_oex T.T i1 i2 ok hr.1 bd .nil (fun _ _ _ _ _ _ _ z => z.elim) g1 T.m (wA_ok [y]) g2 hst rfl)) ?_
        refine wA_of (L2.pa_cons (wE_ok y) L2.pa_nil hst) (go F tS (hT_of x h3) gx hv (fun C fs e => by cases e) (fun d' w Hs' H' e t1 r1 => ?_) fun ds Hs1 l vs Hs' H' e t1 gr h1 h2 h3 rr => by cases e)
        cases e
        refine ⟨by simp, fun a na => ?_⟩
        refine ⟨a, w, rfl, upd_same, fun dx ndx nex => ⟨rfl, dx, [(f, w)], upd_same, ?_, ?_, ?_⟩⟩
        · rw [upd_ne nex, upd_same]
        · rw [upd_ne nex] at ndx; exact ndx
        · rw [upd_ne nex] at ndx
          have e1 : upd (del (upd (upd (upd H' a (exo a (Φ.ga C) none)) dx (exd dx [(f, w)])) a (exo a (Φ.ga C) (some dx))) a) dx (.xd [(f, w)]) = upd H' dx (.xd [(f, w)]) := by
            funext b
            by_cases hb : b = dx
            · rw [hb, upd_same, upd_same]
            · rw [upd_ne hb, upd_ne hb]
              by_cases ha : b = a
              · rw [ha, del_same, na]
              · rw [del_ne ha, upd_ne ha, upd_ne hb, upd_ne ha]
          show W (.ref (Φ.ga C)) (some dx) σ _
          rw [e1]
          have gn := Gr.new t1.sub ndx (o := .xd [(f, w)])
          exact hW (Φ.ga C) [(f, d)] dx [(f, w)] _ σ _ _ (t1.go gn) upd_same (.cons (r1.mono gn.sh) .nil) ⟨_, rfl, rfl⟩
/-- a comprehension put into a name -/
theorem q_asgLc (x : XO Φ S k M X) (gx : XG X π γ) {i : Nat} {nm : Str} {elt : IE} {tg : List Nat} {kk : IK} {its cond : List IE} {t it : Expr} {ifs : List Expr} {scope : Scope} {px : Pos} (hl : isL M i nm = true) (hk : M.sc.kind = .function) (hp : (px.line == p.line) = true)
    (ha : (scope.names.any fun (n, k) => n == nm && (k == .local || k == .cell)) = false) (ok : okE S (n + 1) M (.lc elt tg kk its cond) (.ListComp y [⟨t, it, ifs, 0⟩] scope p) = true) (h : evS Φ (.asg v i (.lc elt tg kk its cond)) γ = some o) :
    S1 X (.Assign [.Name nm px] (.ListComp y [⟨t, it, ifs, 0⟩] scope p) q) (γ.map (S2.sl π)) (RO π o) := fun Hs0 H0 Hr E F σ Hs H tS => by
  obtain ⟨q1, q2⟩ := isL_ok x hl
  have h' : (match evP Φ γ v (.lc elt tg kk its cond) with
    | some (γ1, r) => setS i γ1 r
    | none => none) = some o := by rw [evS] at h; exact h
  have ok : okA (okE S n) S M (.lc elt tg kk its cond) (.ListComp y [⟨t, it, ifs, 0⟩] scope p) = true := by
    rcases Bool.or_eq_true_iff.mp (show (okA (okE S n) S M (.lc elt tg kk its cond) (.ListComp y [⟨t, it, ifs, 0⟩] scope p) || okY (okE S n) S M (.lc elt tg kk its cond) (.ListComp y [⟨t, it, ifs, 0⟩] scope p)) = true from ok) with ok | ok
    · exact ok
    · cases ok
  obtain ⟨hcm, ok⟩ := ba ok
  obtain ⟨h1, h2⟩ := ba ok
  obtain ⟨h2, h3⟩ := ba h2
  obtain ⟨h3, h4⟩ := ba h3
  obtain ⟨h4, h5⟩ := ba h4
  obtain ⟨h5, h6⟩ := ba h5
  obtain ⟨h6, h7⟩ := ba h6
  cases hv : evP Φ γ v (.lc elt tg kk its cond) with
  | none => rw [hv] at h'; cases h'
  | some w =>
    obtain ⟨γ1, r⟩ := w
    rw [hv] at h'
    have hl : ifs.length ≤ 1 := by
      split at h6
      · exact Nat.zero_le _
      · exact Nat.le_refl _
      · cases h6
    have hsw : swapsWith (.ListComp y [⟨t, it, ifs, 0⟩] scope p) (some (.Name nm px)) q.line X.env = pure true := sw_true (by rw [x.sc]; exact hk) q2 hp ha
    have hown := zip_snd (of_decide_eq_true h3)
    refine wS_of (ps_setLc (wi := fun σ H R => ∃ wi, PI X t it wi ∧ wi σ H R) (g := cG X scope t) (tt := cT X scope ifs) (te := cE X scope y) (own := (tgN t).zip tg) (x.calm hcm) x.nd q1 q2 hsw ⟨fun pins s σ H R I ⟨wi, hw, hq⟩ => hw.run pins s σ H R I hq⟩ (okO_ok x h2)
      (fun s5 H5 C5 cl5 fp5 => ⟨fun pins s σ H v u Q I r h => h s5 H5 C5 cl5 fp5 pins s u I r⟩) (fun s5 H5 C5 cl5 fp5 => ⟨fun pins s σ H Q I h => (tTs_ok hl).run pins s σ H Q I (h s5 H5 C5 cl5 fp5)⟩) (fun s5 H5 C5 cl5 fp5 => ⟨fun pins s σ H Q I h => h s5 H5 C5 cl5 fp5 pins s I⟩) (noset_it (nb (ba h5).1))) ?_
    refine asg_go F tS (e := .lc elt tg kk its cond) (fun γ' r gx' hr W tk σ Hs H Q s E K => ?_) gx hv h'
    obtain ⟨items, f, rfl, a, b, c, d, e, g⟩ := lc_parts (snd n) x gx' hcm h1 h2 (of_decide_eq_true h3) h4 h5 h6 h7 hr
    obtain ⟨wi, hpi, hfe⟩ := a.ex
    exact ⟨wi, hpi, lc_go hfe b c s E K⟩
/-- blocks -/
def IHs (Φ : Phi) (S : Sta) (k n : Nat) : Prop := ∀ (M : Md) (X : Cx), XO Φ S k M X → HR X → ∀ (γ : List S2) (π : Pt), XG X π γ → ∀ (ir : IS) (st : Stmt) (o : Out), okS S n M ir st = true → evS Φ ir γ = some o → S1 X st (γ.map (S2.sl π)) (RO π o)
theorem S1.imp {st : Stmt} {g : List Sl} {R R' : Rs} (h : S1 X st g R) (nx : ∀ γ, R.nx γ → R'.nx γ) (rt : ∀ d, R.rt d → R'.rt d) (bk : ∀ γ, R.bk γ → R'.bk γ) (ct : ∀ γ, R.ct γ → R'.ct γ) (rn : ∀ d, R.rn d → R'.rn d) (xs : ∀ C fs γ, R.xs C fs γ → R'.xs C fs γ) : S1 X st g R' := fun Hs0 H0 Hr E F =>
  h Hs0 H0 Hr E ⟨fun γ σ Hs H t q => F.nx γ σ Hs H t (nx γ q), fun γ σ Hs H t q => F.bk γ σ Hs H t (bk γ q), fun γ σ Hs H t q => F.ct γ σ Hs H t (ct γ q), fun d v Hs H g r q => F.rt d v Hs H g r (rt d q), fun ds l vs Hs H g h1 h2 h3 r q => F.rn ds l vs Hs H g h1 h2 h3 r (rn ds q), F.xs.elim (fun h => .inl fun C fs γ q => h C fs γ (xs C fs γ q)) fun ⟨W, a, b⟩ => .inr ⟨W, a, fun C fs dd vs γ σ Hs H t h1 h2 q => b C fs dd vs γ σ Hs H t h1 h2 (xs C fs γ q)⟩⟩
theorem block_ok (ih : IHs Φ S k n) (x : XO Φ S k M X) (hr : HR X) : ∀ {is : List IS} {sts : List Stmt} {γ : List S2} {o : Out}, XG X π γ → okSs S n M is sts = true → evSs Φ is γ = some o → SD X sts (γ.map (S2.sl π)) (RO π o)
  | [], [], γ, o, gx, _, h => by
    have h : some (Out.nx γ) = some o := by rw [evSs] at h; exact h
    cases h
    exact sd_nil ⟨_, rfl, rfl⟩
  | i :: is, st :: sts, γ, o, gx, ok, h => by
    obtain ⟨o1, o2⟩ := ba ok
    have h : Out.then (evS Φ i γ) (fun γ1 => evSs Φ is γ1) = some o := by rw [evSs] at h; exact h
    cases q : evS Φ i γ with
    | none => rw [q] at h; cases h
    | some o' =>
      rw [q] at h
      have s1 := ih M X x hr γ π gx i st o' o1 q
      refine sd_cons (S1.imp s1 (fun g hg => ?_) (fun d hd => ?_) (fun g hg => ?_) (fun g hg => ?_) (fun d hd => ?_) fun C fs g hg => ?_)
      · obtain ⟨γ', rfl, rfl⟩ := hg
        exact block_ok ih x hr (XS.gx (xs_all n M i st γ _ o1 q) gx) o2 h
      · have e : o' = .rt d := hd
        subst e
        cases h
        exact rfl
      · obtain ⟨γ', rfl, rfl⟩ := hg
        cases h
        exact ⟨γ', rfl, rfl⟩
      · obtain ⟨γ', rfl, rfl⟩ := hg
        cases h
        exact ⟨γ', rfl, rfl⟩
      · have e : o' = .rn d := hd
        subst e
        cases h
        exact rfl
      · obtain ⟨γ', rfl, rfl⟩ := hg
        cases h
        exact ⟨γ', rfl, rfl⟩
  | [], _ :: _, _, _, _, ok, _ => by cases ok
  | _ :: _, [], _, _, _, ok, _ => by cases ok
theorem q_ite (ih : IHs Φ S k n) (x : XO Φ S k M X) (hr : HR X) (gx : XG X π γ) {c : IE} {a b : List IS} {s t : List Stmt} (h1 : okE S n M c y = true) (h2 : okSs S n M a s = true) (h3 : okSs S n M b t = true) (h : evS Φ (.ite c a b) γ = some o) : S1 X (.If y s t q) (γ.map (S2.sl π)) (RO π o) := fun Hs0 H0 Hr E F σ Hs H tS => by
  have h' : (match ev Φ (γ.map S2.vwO) true c with
    | some (.val (.bl true)) => evSs Φ a γ
    | some (.val (.bl false)) => evSs Φ b γ
    | _ => none) = some o := by rw [evS] at h; exact h
  split at h'
  next e => exact wS_of (ps_if (wT_ok y) (wSs_ok s) (wSs_ok t)) (evT_ok x gx h1 e tS fun H' t' => block_ok ih x hr gx h2 h' Hs0 H0 Hr E F σ Hs H' t')
  next e => exact wS_of (ps_if (wT_ok y) (wSs_ok s) (wSs_ok t)) (evT_ok x gx h1 e tS fun H' t' => block_ok ih x hr gx h3 h' Hs0 H0 Hr E F σ Hs H' t')
  next => cases h'
theorem q_for (ih : IHs Φ S k n) (x : XO Φ S k M X) (hr : HR X) (gx : XG X π γ) (hcm : M.calm = true) {us tg : List Nat} {kk : IK} {its : List IE} {body : List IS} {t it : Expr} {s : List Stmt} (h1 : okGs M tg t = true) (h2 : okIt (okE S n M) S M kk its it = true) (h3 : (decide (kk ≠ .en) || decide (tg.length = 2)) = true) (h4 : okSs S n M body s = true)
    (h : evS Φ (.for us tg kk its body) γ = some o) : S1 X (.For t it s [] q) (γ.map (S2.sl π)) (RO π o) := fun Hs0 H0 Hr E F σ Hs H tS => by
  have h' : (match (evD Φ (frz γ us) its).bind (itms kk) with
    | some items => forGo (put tg) (fun γ1 => evSs Φ body γ1) items (frz γ us)
    | none => none) = some o := by rw [evS] at h; exact h
  obtain ⟨Hs1, s1, t1⟩ := frz_ST (us := us) tS
  cases qi : (evD Φ (frz γ us) its).bind (itms kk) with
  | none => rw [qi] at h'; cases h'
  | some items =>
    rw [qi] at h'
    have hten : kk = .en → ∃ elts j tp, t = .Tuple elts j tp := fun z => by
      subst z
      rcases Bool.or_eq_true_iff.mp h3 with z | z
      · exact absurd rfl (of_decide_eq_true z)
      · have z := of_decide_eq_true z
        unfold okGs at h1
        split at h1
        · cases z
        · exact ⟨_, _, _, rfl⟩
        · cases h1
    obtain ⟨hit, hset⟩ := it_ok (π := π) (tg := t) (snd n) x gx.frz h2 qi hten
    refine s1_forT (emb := id) items (fun i g => ∃ γ', XG X π γ' ∧ g = γ'.map (S2.sl π) ∧ forGo (put tg) (fun γ1 => evSs Φ body γ1) (items.drop i) γ' = some o) (hit.is (by rw [List.map_id])) ⟨_, gx.frz, rfl, by rw [List.drop_zero]; exact h'⟩ (fun i a g ha hg => ?_) (fun g hg => ?_) (x.calm hcm) (x.pa hcm) hset Hs0 H0 Hr E F σ Hs1 H t1
    · obtain ⟨γ', gx', rfl, hf⟩ := hg
      have hlt : i < items.length := (List.getElem?_eq_some_iff.mp ha).1
      have hd : items.drop i = a :: items.drop (i + 1) := by
        rw [List.drop_eq_getElem_cons hlt]
        congr 1
        exact (List.getElem?_eq_some_iff.mp ha).2
      rw [hd] at hf
      have hf : (match put tg a γ' with
        | none => none
        | some γ1 => match evSs Φ body γ1 with
          | some (.nx γ2) => forGo (put tg) (fun γ1 => evSs Φ body γ1) (items.drop (i + 1)) γ2
          | some (.ct γ2) => forGo (put tg) (fun γ1 => evSs Φ body γ1) (items.drop (i + 1)) γ2
          | some (.bk γ2) => some (.nx γ2)
          | o => o) = some o := hf
      cases qp : put tg a γ' with
      | none => rw [qp] at hf; cases hf
      | some γ2 =>
        rw [qp] at hf
        refine ⟨γ2.map (S2.sl π), tg, put_okS (π := π) hcm x hr.2 h1 qp, ?_⟩
        have gx2 : XG X π γ2 := ((XS.refl γ').put qp).gx gx'
        dsimp only at hf
        cases qb : evSs Φ body γ2 with
        | none => rw [qb] at hf; cases hf
        | some ob =>
          rw [qb] at hf
          refine SD.imp (block_ok ih x hr gx2 h4 qb) (fun g hg => ?_) (fun d hd => ?_) (fun g hg => ?_) (fun g hg => ?_) (fun d hd => ?_) fun C fs g hg => ?_
          · obtain ⟨γ3, rfl, rfl⟩ := hg
            exact ⟨γ3, XS.gx (xs_block (xs_all n) h4 qb) gx2, rfl, hf⟩
          · have e : ob = .rt d := hd
            subst e
            cases hf
            exact rfl
          · obtain ⟨γ3, rfl, rfl⟩ := hg
            cases hf
            exact ⟨γ3, rfl, rfl⟩
          · obtain ⟨γ3, rfl, rfl⟩ := hg
            exact ⟨γ3, XS.gx (xs_block (xs_all n) h4 qb) gx2, rfl, hf⟩
          · have e : ob = .rn d := hd
            subst e
            cases hf
            exact rfl
          · obtain ⟨γ3, rfl, rfl⟩ := hg
            cases hf
            exact ⟨γ3, rfl, rfl⟩
    · obtain ⟨γ', gx', rfl, hf⟩ := hg
      rw [List.drop_length] at hf
      have hf : some (Out.nx γ') = some o := hf
      cases hf
      exact ⟨γ', rfl, rfl⟩
theorem s_step (ih : IHs Φ S k n) : IHs Φ S k (n + 1) := by
  intro M X x hr γ π gx ir st o ok h
  unfold okS at ok
  split at ok
  · next v i elt tg kk its cond x1 px y t it ifs scope p q =>
    rcases Bool.or_eq_true_iff.mp ok with ok | ok
    · obtain ⟨h1, h2⟩ := ba ok
      obtain ⟨h2, h3⟩ := ba h2
      obtain ⟨h3, h4⟩ := ba h3
      obtain ⟨h4, h5⟩ := ba h4
      exact q_asgLc x gx h1 (of_decide_eq_true h2) h3 (nb h4) h5 h
    · obtain ⟨h1, h2⟩ := ba ok
      obtain ⟨h2, h3⟩ := ba h2
      exact q_asgC x hr gx h1 (sw_cell (by rw [x.sc]; exact of_decide_eq_true h2)) h3 h
  · obtain ⟨h1, h2⟩ := ba ok
    obtain ⟨h2, h3⟩ := ba h2
    exact q_asg x hr gx h1 (nb h2) h3 h
  · obtain ⟨h1, h2⟩ := ba ok
    obtain ⟨h2, h3⟩ := ba h2
    obtain ⟨h3, h4⟩ := ba h3
    obtain ⟨h4, h5⟩ := ba h4
    obtain ⟨h5, h6⟩ := ba h5
    exact q_asgs x hr gx h1 h2 h3 (nb h4) (nb h5) h6 h
  · obtain ⟨h1, h2⟩ := ba ok
    obtain ⟨h2, h3⟩ := ba h2
    obtain ⟨h3, h4⟩ := ba h3
    exact q_seti x gx h1 h2 h3 h4 h
  · obtain ⟨h1, h2⟩ := ba ok
    obtain ⟨h2, h3⟩ := ba h2
    obtain ⟨h3, h4⟩ := ba h3
    obtain ⟨h4, h5⟩ := ba h4
    have h2 := of_decide_eq_true h2
    have h3 := of_decide_eq_true h3
    subst h2 h3
    exact q_app x gx h1 h4 h5 h
  · obtain ⟨h1, h2⟩ := ba ok
    obtain ⟨h2, h3⟩ := ba h2
    obtain ⟨h3, h4⟩ := ba h3
    have h2 := of_decide_eq_true h2
    subst h2
    exact q_fld x gx h1 (nb h3) h4 h
  · exact q_ret x gx ok h
  · exact q_reto x ok h
  · have h' : some (Out.rt .non) = some o := by rw [evS] at h; exact h
    cases h'
    exact s1_retN rfl
  · obtain ⟨h1, h2⟩ := ba ok
    obtain ⟨h2, h3⟩ := ba h2
    exact q_ite ih x hr gx h1 h2 h3 h
  · obtain ⟨h1, h2⟩ := ba ok
    obtain ⟨h2, h3⟩ := ba h2
    obtain ⟨h3, h4⟩ := ba h3
    obtain ⟨h4, h5⟩ := ba h4
    exact q_for ih x hr gx h1 h2 h3 h4 h5 h
  · obtain ⟨h1, h2⟩ := ba ok
    obtain ⟨h2, h3⟩ := ba h2
    obtain ⟨h3, h4⟩ := ba h3
    obtain ⟨h4, h5⟩ := ba h4
    exact q_raise x gx h1 (of_decide_eq_true h2) (by rw [h3, h4]; rfl) h5 hr h
  · obtain ⟨h1, h2⟩ := ba ok
    exact q_exp x gx (nb h1) h2 h
  · have h' : some (Out.nx γ) = some o := by rw [evS] at h; exact h
    cases h'; exact s1_pass ⟨_, rfl, rfl⟩
  · have h' : some (Out.bk γ) = some o := by rw [evS] at h; exact h
    cases h'; exact s1_break ⟨_, rfl, rfl⟩
  · have h' : some (Out.ct γ) = some o := by rw [evS] at h; exact h
    cases h'; exact s1_continue ⟨_, rfl, rfl⟩
  · cases ok
theorem s_all : ∀ n, IHs Φ S k n
  | 0 => fun _ _ _ _ _ _ _ _ _ _ ok => by cases ok
  | n + 1 => s_step (s_all n)
/-- a def's body, from its check and its run -/
theorem body_ok (x : XO Φ S k M X) (hr : HR X) {is : List IS} {sts : List Stmt} (gx : XG X π γ) (ok : okSs S n M is sts = true) (h : evSs Φ is γ = some o) : SD X sts (γ.map (S2.sl π)) (RO π o) := block_ok (s_all n) x hr gx ok h
end
end Ev
end

section
set_option autoImplicit false
set_option Elab.async false
set_option linter.all false
set_option maxRecDepth 100000
set_option maxHeartbeats 0
namespace L39
open PySem PySem.Spec PyProof.Rows L2 Pd Ev
def fnL : List PySem.Str := [("unlike_places" : PySem.Str), ("mark_of" : PySem.Str), ("all_spans" : PySem.Str), ("mark_between" : PySem.Str), ("share" : PySem.Str), ("fraction_sum" : PySem.Str), ("mean_of" : PySem.Str), ("mean_tally" : PySem.Str), ("_law_cell" : PySem.Str), ("_law_mixed" : PySem.Str), ("_law_draws" : PySem.Str), ("_law_kinds" : PySem.Str), ("_law_mark" : PySem.Str), ("_law_walk" : PySem.Str), ("_law_orders" : PySem.Str), ("_law_is_integer" : PySem.Str), ("_law_same" : PySem.Str), ("_law_sized" : PySem.Str), ("_law_pattern" : PySem.Str), ("_law_case" : PySem.Str), ("_law_marks" : PySem.Str), ("_law_lowest" : PySem.Str), ("_law_by_orders" : PySem.Str), ("_law_share" : PySem.Str), ("_law_by_shares" : PySem.Str), ("_law_due" : PySem.Str), ("law" : PySem.Str)]
def erL : List PySem.Str := [("MootError" : PySem.Str), ("BadStrand" : PySem.Str)]
def plL : List (Nat × Nat × List PySem.Str) := [(20, 0, []), (27, 1, []), (7, 0, [("strand" : PySem.Str)])]
def arL : List (List PA) := [[], [.pos 0], [.kw 0]]
def frL : List PySem.Str := [("bool" : PySem.Str), ("enumerate" : PySem.Str), ("int" : PySem.Str), ("isinstance" : PySem.Str), ("len" : PySem.Str), ("list" : PySem.Str), ("range" : PySem.Str), ("set" : PySem.Str), ("str" : PySem.Str), ("tuple" : PySem.Str)]
def S39 : Sta where
  fname := fun i => fnL[i]?
  cname := fun i => if i = 0 then some "Strand" else none
  gname := fun i => if i = 0 then some "MARKS" else none
  mname := fun _ => none
  ename := fun i => erL[i]?
  kname := fun i => if i = 27 then some "Strand" else none
  plan := fun p => plL[p]?
  frees := frL
  gcd := true
theorem ok0 : okSs S39 40 ⟨defScope st0, N0, true⟩ ir0 (defBody st0) = true := by kernel_rfl
theorem ok1 : okSs S39 40 ⟨defScope st1, N1, true⟩ ir1 (defBody st1) = true := by kernel_rfl
theorem ok2 : okSs S39 40 ⟨defScope st2, N2, true⟩ ir2 (defBody st2) = true := by kernel_rfl
theorem ok3 : okSs S39 40 ⟨defScope st3, N3, true⟩ ir3 (defBody st3) = true := by kernel_rfl
theorem ok4 : okSs S39 40 ⟨defScope st4, N4, true⟩ ir4 (defBody st4) = true := by kernel_rfl
theorem ok5 : okSs S39 40 ⟨defScope st5, N5, true⟩ ir5 (defBody st5) = true := by kernel_rfl
theorem ok6 : okSs S39 40 ⟨defScope st6, N6, true⟩ ir6 (defBody st6) = true := by kernel_rfl
theorem ok7 : okSs S39 40 ⟨defScope st7, N7, true⟩ ir7 (defBody st7) = true := by kernel_rfl
theorem ok8 : okSs S39 40 ⟨defScope st8, N8, true⟩ ir8 (defBody st8) = true := by kernel_rfl
theorem ok9 : okSs S39 40 ⟨defScope st9, N9, true⟩ ir9 (defBody st9) = true := by kernel_rfl
theorem ok10 : okSs S39 40 ⟨defScope st10, N10, true⟩ ir10 (defBody st10) = true := by kernel_rfl
theorem ok11 : okSs S39 40 ⟨defScope st11, N11, true⟩ ir11 (defBody st11) = true := by kernel_rfl
theorem ok12 : okSs S39 40 ⟨defScope st12, N12, true⟩ ir12 (defBody st12) = true := by kernel_rfl
theorem ok13 : okSs S39 40 ⟨defScope st13, N13, true⟩ ir13 (defBody st13) = true := by kernel_rfl
theorem ok14 : okSs S39 40 ⟨defScope st14, N14, true⟩ ir14 (defBody st14) = true := by kernel_rfl
theorem ok15 : okSs S39 40 ⟨defScope st15, N15, true⟩ ir15 (defBody st15) = true := by kernel_rfl
theorem ok16 : okSs S39 40 ⟨defScope st16, N16, true⟩ ir16 (defBody st16) = true := by kernel_rfl
theorem ok17 : okSs S39 40 ⟨defScope st17, N17, true⟩ ir17 (defBody st17) = true := by kernel_rfl
theorem ok18 : okSs S39 40 ⟨defScope st18, N18, true⟩ ir18 (defBody st18) = true := by kernel_rfl
theorem ok19 : okSs S39 40 ⟨defScope st19, N19, true⟩ ir19 (defBody st19) = true := by kernel_rfl
theorem ok20 : okSs S39 40 ⟨defScope st20, N20, true⟩ ir20 (defBody st20) = true := by kernel_rfl
theorem ok21 : okSs S39 40 ⟨defScope st21, N21, true⟩ ir21 (defBody st21) = true := by kernel_rfl
theorem ok22 : okSs S39 40 ⟨defScope st22, N22, true⟩ ir22 (defBody st22) = true := by kernel_rfl
theorem ok23 : okSs S39 40 ⟨defScope st23, N23, true⟩ ir23 (defBody st23) = true := by kernel_rfl
theorem ok24 : okSs S39 40 ⟨defScope st24, N24, true⟩ ir24 (defBody st24) = true := by kernel_rfl
theorem ok25 : okSs S39 40 ⟨defScope st25, N25, true⟩ ir25 (defBody st25) = true := by kernel_rfl
theorem ok26 : okSs S39 40 ⟨defScope st26, N26, true⟩ ir26 (defBody st26) = true := by kernel_rfl
theorem ok27 : okSs S39 40 ⟨defScope st27, N27, true⟩ ir27 (defBody st27) = true := by kernel_rfl
end L39
end

section
set_option autoImplicit false
set_option Elab.async false
set_option linter.all false
set_option maxRecDepth 100000
set_option maxHeartbeats 4000000
namespace Ev
open PySem PySem.Spec PyProof.Rows L2 Pd
/-! ### defs as entries of a table, run level by level -/
structure En where
  N : List Str
  ps : List Str
  ir : List IS
  cls : Option Nat
def stF (N : List Str) (ds : List D) : List S2 := ds.map .sh ++ List.replicate (N.length - ds.length) .no
def stI (N : List Str) (C : Addr) (ds : List D) : List S2 := .ob C [] :: (ds.map .sh ++ List.replicate (N.length - (ds.length + 1)) .no)
def Out.toF : Out → Option RR
  | .rt d => some (.val d)
  | .rn ds => some (.new ds)
  | .nx _ => some (.val .non)
  | .xc C fs _ => some (.exc C fs)
  | _ => none
def Out.toI (C : Addr) : Out → Option RR
  | .nx γ => match (γ[0]? : Option S2) with
    | some (S2.ob C' fs) => if C' = C then some (.val (.obj C fs)) else none
    | _ => none
  | .xc CE fs _ => some (.exc CE fs)
  | _ => none
def runF (Φ : Phi) (e : En) (ds : List D) : Option RR := if ds.length = e.ps.length then (evSs Φ e.ir (stF e.N ds)).bind Out.toF else none
def runI (Φ : Phi) (e : En) (C : Addr) (ds : List D) : Option RR := if ds.length + 1 = e.ps.length then (evSs Φ e.ir (stI e.N C ds)).bind (Out.toI C) else none
def wc (Φ : Phi) (g : Nat → List D → Option RR) : Phi := { Φ with call := g }
def callL (Φ : Phi) (tab : Nat → Option En) : Nat → Nat → List D → Option RR
  | 0, _, _ => none
  | k + 1, i, ds => match tab i with
    | none => none
    | some e => match e.cls with
      | none => runF (wc Φ (callL Φ tab k)) e ds
      | some c => runI (wc Φ (callL Φ tab k)) e (Φ.ga c) ds
theorem stF_sl {π : Pt} (N : List Str) (ds : List D) : (stF N ds).map (S2.sl π) = st0 N ds := by
  unfold stF st0
  rw [List.map_append, List.map_map, List.map_replicate]
  rfl
theorem stI_sl {π : Pt} (N : List Str) (C : Addr) (ds : List D) : (stI N C ds).map (S2.sl π) = Sl.ob π.p C [] :: (ds.map Sl.sh ++ List.replicate (N.length - (ds.length + 1)) .no) := by
  unfold stI
  rw [List.map_cons, List.map_append, List.map_map, List.map_replicate]
  rfl
theorem noX_stF (N : List Str) (ds : List D) (i : Nat) (C : Addr) (fs : List (Str × D)) : (stF N ds)[i]? ≠ some (.ex C fs) := fun h => by
  have z := List.mem_of_getElem? h
  unfold stF at z
  rcases List.mem_append.mp z with z | z
  · obtain ⟨d, _, e⟩ := List.mem_map.mp z
    cases e
  · have z := List.eq_of_mem_replicate z
    cases z
theorem noX_stI (N : List Str) (CO : Addr) (ds : List D) (i : Nat) (C : Addr) (fs : List (Str × D)) : (stI N CO ds)[i]? ≠ some (.ex C fs) := fun h => by
  have z := List.mem_of_getElem? h
  unfold stI at z
  rcases List.mem_cons.mp z with z | z
  · cases z
  rcases List.mem_append.mp z with z | z
  · obtain ⟨d, _, e⟩ := List.mem_map.mp z
    cases e
  · have z := List.eq_of_mem_replicate z
    cases z
section
variable {P : Program} {w : World} {K : PySem.W.Frag} {mg : Str → Option Value} {base : Heap} {x qual : Str} {params : Arguments} {body : List Stmt} {scope : Scope} {f : Addr} {fd : FuncData} {R n : Nat} {dvs : List V} {kws : List (Str × V)} {Φ : Phi} {S : Sta}
theorem xo_rx {N ps : List Str} {cdv : Value} {A : Around} {outer : List Env} {s : Shared} {H : Hp} {E : XK} (FS : FnScope N ps scope) (G : Glo Φ S R P w K mg base) (hr : Room R (A.deeper (envOfC qual scope s.heap.objs.size f cdv))) : XO Φ S R ⟨scope, N, true⟩ (RX P w K mg base N qual scope f cdv A outer s H E) where
  sc := rfl
  N := rfl
  nd := FS.nd
  hr := hr
  calm := fun _ => rfl
  pa := fun _ => passes_of rfl
  g := G
theorem fnE {e : En} (F : FunD K x qual params body scope dvs kws f fd) (FS : FnScope e.N e.ps scope) (G : Glo Φ S R P w K mg base) (h2 : 2 ≤ R) (ok : okSs S n ⟨scope, e.N, true⟩ e.ir body = true) :
    FnOk P w K mg base (L2.CX P w) (R + 1) f fd e.ps (spC K (runF Φ e)) := by
  refine F.ok FS (fun vs H Q E h => ?_) (fun cdv A outer s H vs Q E hr h => ?_)
  · obtain ⟨Hs, ds, r, _, rr, hG, _⟩ := h
    unfold runF at hG
    split at hG
    · rw [rr.length]; assumption
    · cases hG
  · obtain ⟨Hs, ds, r, sm, rr, hG, kk⟩ := h
    unfold runF at hG
    split at hG
    case isFalse => cases hG
    cases qo : evSs Φ e.ir (stF e.N ds) with
    | none => rw [qo] at hG; cases hG
    | some o =>
      rw [qo] at hG
      have hG : o.toF = some r := hG
      refine ⟨_, wSs_ok _, ?_⟩
      have B := body_ok (π := ⟨0, 0, 0⟩) (xo_rx (E := E) (cdv := cdv) (outer := outer) (H := H) FS G hr) ⟨hr.mono h2, fun _ => rfl⟩ (fun i C fs z => absurd z (noX_stF _ _ i C fs)) ok qo
      rw [stF_sl] at B
      refine B Hs H Hs { nx := fun _ H' => Q .non H', rt := Q } ⟨fun γ σ Hs' H' t q => ?_, fun γ σ Hs' H' t q => ?_, fun γ σ Hs' H' t q => ?_, fun d' v Hs' H' g r' q => ?_, fun es l us Hs' H' g h1 h2 h3 r' q => ?_,
        .inr ⟨fun cls d _ H' => E cls d H', takes_of rfl rfl rfl rfl, fun C' fs' dd us γ σ Hs' H' t h1 h2 q => ?_⟩⟩ _ Hs H (st_start sm rr)
      · obtain ⟨γ', rfl, _⟩ := q
        cases hG
        exact kk _ Hs' H' t.gr .non
      · obtain ⟨γ', rfl, _⟩ := q
        cases hG
      · obtain ⟨γ', rfl, _⟩ := q
        cases hG
      · have q : o = .rt d' := q
        subst q
        cases hG
        exact kk v Hs' H' g r'
      · have q : o = .rn es := q
        subst q
        cases hG
        exact kk l us Hs' H' g h1 h2 h3 r'
      · obtain ⟨γ', rfl, _⟩ := q
        cases hG
        exact kk dd us Hs' H' t.gr h1 h2
theorem inE {e : En} {C : Addr} (F : FunD K x qual params body scope dvs kws f fd) (FS : FnScope e.N e.ps scope) (G : Glo Φ S R P w K mg base) (h2 : 2 ≤ R) (ok : okSs S n ⟨scope, e.N, true⟩ e.ir body = true) :
    FnOk P w K mg base (L2.CX P w) (R + 1) f fd e.ps (spCI K C (runI Φ e C)) := by
  refine F.ok FS (fun vs H Q E h => ?_) (fun cdv A outer s H vs Q E hr h => ?_)
  · obtain ⟨Hs, H1, p, dx, ws, ds, r, rfl, _, _, _, _, _, rr, hG, _⟩ := h
    unfold runI at hG
    split at hG
    · rw [List.length_cons, rr.length]; assumption
    · cases hG
  · obtain ⟨Hs, H1, p, dx, ws, ds, r, rfl, rfl, np, ndx, nex, sm, rr, hG, kk⟩ := h
    unfold runI at hG
    split at hG
    case isFalse => cases hG
    cases qo : evSs Φ e.ir (stI e.N C ds) with
    | none => rw [qo] at hG; cases hG
    | some o =>
      rw [qo] at hG
      have hG : o.toI C = some r := hG
      refine ⟨_, wSs_ok _, ?_⟩
      have B := body_ok (π := ⟨p, 0, 0⟩) (xo_rx (E := E) (cdv := cdv) (outer := outer) (H := (upd (upd H1 dx (.own p)) p (.ins C dx []))) FS G hr) ⟨hr.mono h2, fun _ => rfl⟩ (fun i C fs z => absurd z (noX_stI _ _ _ i C fs)) ok qo
      rw [stI_sl] at B
      refine B Hs H1 Hs { nx := fun _ H' => Q .non H', rt := Q } ⟨fun γ σ Hs' H' t q => ?_, fun γ σ Hs' H' t q => ?_, fun γ σ Hs' H' t q => ?_, fun d' v Hs' H' g r' q => ?_, fun es l us Hs' H' g h1 h2 h3 r' q => ?_,
        .inr ⟨fun cls d _ H' => E cls d H', takes_of rfl rfl rfl rfl, fun C' fs' dd us γ σ Hs' H' t h1 h2 q => ?_⟩⟩ _ Hs _ (st_init sm np ndx nex rr)
      · obtain ⟨γ', rfl, rfl⟩ := q
        unfold Out.toI at hG
        dsimp only at hG
        split at hG
        next C' fs q0 =>
          split at hG
          next e =>
            subst e
            cases hG
            have q1 : (γ'.map (S2.sl ⟨p, 0, 0⟩))[0]? = some (Sl.ob p C' fs) := by rw [List.getElem?_map, q0]; rfl
            obtain ⟨l, o, a, b, c, d0, rfl, dx', us, rfl, r'⟩ := t.own 0 _ q1 rfl
            exact kk.2 Hs' H' dx' us t.gr c b r'
          next => cases hG
        next => cases hG
      · obtain ⟨γ', rfl, _⟩ := q
        cases hG
      · obtain ⟨γ', rfl, _⟩ := q
        cases hG
      · have q : o = .rt d' := q
        subst q
        cases hG
      · have q : o = .rn es := q
        subst q
        cases hG
      · obtain ⟨γ', rfl, _⟩ := q
        cases hG
        exact kk dd us Hs' H' t.gr h1 h2
theorem runI_sh {e : En} {C : Addr} {ds : List D} {r : RR} (h : runI Φ e C ds = some r) : MkSh C r := by
  unfold runI at h
  split at h
  · cases qo : evSs Φ e.ir (stI e.N C ds) with
    | none => rw [qo] at h; cases h
    | some o =>
      rw [qo] at h
      have h : o.toI C = some r := h
      unfold Out.toI at h
      split at h
      · split at h
        · split at h
          · cases h; exact .inl ⟨_, rfl⟩
          · cases h
        · cases h
      · cases h; exact .inr ⟨_, _, rfl⟩
      · cases h
  · cases h
end
end Ev
end

section
set_option autoImplicit false
set_option Elab.async false
set_option linter.all false
set_option maxRecDepth 100000
set_option maxHeartbeats 4000000
namespace Ev
open PySem PySem.Spec PyProof.Rows L2 Pd
/-- one def of the module's -/
structure Df (S : Sta) (n : Nat) (Φ : Phi) (i : Nat) (K : PySem.W.Frag) (e : En) (f : Addr) (fd : FuncData) : Prop where
  ex : ∃ (x qual : Str) (params : Arguments) (body : List Stmt) (scope : Scope) (dvs : List V) (kws : List (Str × V)), FunD K x qual params body scope dvs kws f fd ∧ FnScope e.N e.ps scope ∧ okSs S n ⟨scope, e.N, true⟩ e.ir body = true
structure Mod (Φ : Phi) (S : Sta) (tab : Nat → Option En) (n : Nat) (P : Program) (w : World) (K : PySem.W.Frag) (mg : Str → Option Value) (base : Heap) : Prop where
  gl : ∀ i n d, S.gname i = some n → Φ.glob i = some d → ∃ v u, mg n = some u ∧ RelV v u ∧ ∀ H, Rep K H v d
  kl : ∀ i n, S.cname i = some n → mg n = some (.ref (Φ.ga i))
  fr : ∀ n ∈ S.frees, mg n = none
  gc : S.gcd = true → mg ("gcd" : Str) = some (.builtin "math.gcd")
  fn : ∀ i nm, S.fname i = some nm → ∃ e f fd, tab i = some e ∧ e.cls = none ∧ Df S n Φ i K e f fd ∧ mg nm = some (.ref f) ∧ PySem.W.keepIn K (.ref f) = true ∧ Binds K fd e.ps [] ∧ ∀ p m ks, S.plan p = some (i, m, ks) → BD K fd e.ps m ks (Φ.arr p)
  mkr : ∀ i nm, S.kname i = some nm → ∃ e c f fd, tab i = some e ∧ e.cls = some c ∧ Df S n Φ i K e f fd ∧ mg nm = some (.ref (Φ.ga c)) ∧ Mk K (Φ.ga c) f ∧ ∀ p m ks, S.plan p = some (i, m, ks) → BD K fd e.ps (m + 1) ks (.pos 0 :: (Φ.arr p).map PA.sh)
  me : ∀ C m, Φ.meth C m = none
  pf : ∀ p i m ks, S.plan p = some (i, m, ks) → Φ.pf p = i
  co : ∀ c n f d, S.cname c = some n → Φ.ccon c f = some d → ∃ mc v u, ClX.CRead K (Φ.ga c) mc ∧ ClX.CVal K (Φ.ga c) mc f v u ∧ ∀ H, Rep K H v d
  er : ∀ i n f, S.ename i = some n → Φ.efld i = some f → DE P w K mg base n (Φ.ga i) f
  at_ : ∀ C f, Φ.fld C f = true → Cls K C ∧ NoAttr K C f
section
variable {Φ : Phi} {S : Sta} {tab : Nat → Option En} {n : Nat} {P : Program} {w : World} {K : PySem.W.Frag} {mg : Str → Option Value} {base : Heap}
theorem glo_of (m : Mod Φ S tab n P w K mg base) {k : Nat} (hf : ∀ i nm, S.fname i = some nm → ∃ f fd ps, FnOk P w K mg base (L2.CX P w) (2 * k + 2) f fd ps (spC K (callL Φ tab k i)) ∧ mg nm = some (.ref f) ∧ PySem.W.keepIn K (.ref f) = true ∧ Binds K fd ps [] ∧ ∀ p m ks, S.plan p = some (i, m, ks) → BD K fd ps m ks (Φ.arr p))
    (hm : ∀ i nm, S.kname i = some nm → ∃ C f fd ps j, FnOk P w K mg base (L2.CX P w) j f fd ps (spCI K C (callL Φ tab k i)) ∧ j + 1 ≤ 2 * k + 2 ∧ mg nm = some (.ref C) ∧ Mk K C f ∧ (∀ ds r, callL Φ tab k i ds = some r → MkSh C r) ∧ ∀ p m ks, S.plan p = some (i, m, ks) → BD K fd ps (m + 1) ks (.pos 0 :: (Φ.arr p).map PA.sh)) :
    Glo (wc Φ (callL Φ tab k)) S (2 * k + 2) P w K mg base where
  gl := m.gl
  kl := m.kl
  fr := m.fr
  gc := m.gc
  fn := hf
  mkr := hm
  me := fun C mm nm i _ h => by
    have z : Φ.meth C mm = some i := h
    rw [m.me] at z
    cases z
  pf := m.pf
  co := m.co
  is := fun _ _ _ _ _ _ => trivial
  er := m.er
  at_ := m.at_
theorem ok0 {k : Nat} {f : Addr} {fd : FuncData} {ps : List Str} {G : List D → Option RR} (h : ∀ ds, G ds = none) : FnOk P w K mg base (L2.CX P w) k f fd ps (spC K G) := by
  refine ⟨fun vs H Q E hh => ?_, fun A outer s H args us vs Q E _ _ _ _ hh => ?_⟩ <;>
  · obtain ⟨_, ds, _, _, _, z, _⟩ := hh
    rw [h ds] at z
    cases z
theorem ok0I {k : Nat} {f C : Addr} {fd : FuncData} {ps : List Str} {G : List D → Option RR} (h : ∀ ds, G ds = none) : FnOk P w K mg base (L2.CX P w) k f fd ps (spCI K C G) := by
  refine ⟨fun vs H Q E hh => ?_, fun A outer s H args us vs Q E _ _ _ _ hh => ?_⟩ <;>
  · obtain ⟨_, _, _, _, _, ds, _, _, _, _, _, _, _, _, z, _⟩ := hh
    rw [h ds] at z
    cases z
theorem glo (m : Mod Φ S tab n P w K mg base) : ∀ k, Glo (wc Φ (callL Φ tab k)) S (2 * k + 2) P w K mg base
  | 0 => glo_of m (fun i nm h => by
      obtain ⟨e, f, fd, _, _, _, q1, q2, q3, q4⟩ := m.fn i nm h
      exact ⟨f, fd, e.ps, ok0 fun _ => rfl, q1, q2, q3, q4⟩)
    (fun i nm h => by
      obtain ⟨e, c, f, fd, _, _, _, q1, q2, q3⟩ := m.mkr i nm h
      exact ⟨_, f, fd, e.ps, 0, ok0I fun _ => rfl, by omega, q1, q2, fun ds r (z : none = some r) => (by cases z), q3⟩)
  | k + 1 => glo_of m (fun i nm h => by
      obtain ⟨e, f, fd, t1, t2, ⟨x, qual, params, body, scope, dvs, kws, F, FS, ok⟩, q1, q2, q3, q4⟩ := m.fn i nm h
      have z := fnE F FS (glo m k) (by omega) ok
      have ec : callL Φ tab (k + 1) i = runF (wc Φ (callL Φ tab k)) e := by
        funext ds
        show (match tab i with
          | none => none
          | some e => match e.cls with
            | none => runF (wc Φ (callL Φ tab k)) e ds
            | some c => runI (wc Φ (callL Φ tab k)) e (Φ.ga c) ds) = _
        rw [t1]
        dsimp only
        rw [t2]
      rw [ec]
      exact ⟨f, fd, e.ps, z.mono (by omega), q1, q2, q3, q4⟩)
    (fun i nm h => by
      obtain ⟨e, c, f, fd, t1, t2, ⟨x, qual, params, body, scope, dvs, kws, F, FS, ok⟩, q1, q2, q3⟩ := m.mkr i nm h
      have z := inE (C := Φ.ga c) F FS (glo m k) (by omega) ok
      have ec : callL Φ tab (k + 1) i = runI (wc Φ (callL Φ tab k)) e (Φ.ga c) := by
        funext ds
        show (match tab i with
          | none => none
          | some e => match e.cls with
            | none => runF (wc Φ (callL Φ tab k)) e ds
            | some c => runI (wc Φ (callL Φ tab k)) e (Φ.ga c) ds) = _
        rw [t1]
        dsimp only
        rw [t2]
      rw [ec]
      exact ⟨_, f, fd, e.ps, _, z, by omega, q1, q2, fun ds r hh => runI_sh hh, q3⟩)
end
end Ev
end

section
set_option autoImplicit false
set_option Elab.async false
set_option linter.all false
set_option maxRecDepth 100000
set_option maxHeartbeats 0
namespace L39
open PySem PySem.Spec PyProof.Rows L2 Pd Ev
def dd0 : He.DefD := ⟨("unlike_places", none), "unlike_places", "unlike_places", defArgs st0, defBody st0, defScope st0, [], []⟩
def dd1 : He.DefD := ⟨("mark_of", none), "mark_of", "mark_of", defArgs st1, defBody st1, defScope st1, [], []⟩
def dd2 : He.DefD := ⟨("all_spans", none), "all_spans", "all_spans", defArgs st2, defBody st2, defScope st2, [], []⟩
def dd3 : He.DefD := ⟨("mark_between", none), "mark_between", "mark_between", defArgs st3, defBody st3, defScope st3, [], []⟩
def dd4 : He.DefD := ⟨("share", none), "share", "share", defArgs st4, defBody st4, defScope st4, [], []⟩
def dd5 : He.DefD := ⟨("fraction_sum", none), "fraction_sum", "fraction_sum", defArgs st5, defBody st5, defScope st5, [], []⟩
def dd6 : He.DefD := ⟨("mean_of", none), "mean_of", "mean_of", defArgs st6, defBody st6, defScope st6, [], []⟩
def dd7 : He.DefD := ⟨("mean_tally", none), "mean_tally", "mean_tally", defArgs st7, defBody st7, defScope st7, [], []⟩
def dd8 : He.DefD := ⟨("_law_cell", none), "_law_cell", "_law_cell", defArgs st8, defBody st8, defScope st8, [], []⟩
def dd9 : He.DefD := ⟨("_law_mixed", none), "_law_mixed", "_law_mixed", defArgs st9, defBody st9, defScope st9, [], []⟩
def dd10 : He.DefD := ⟨("_law_draws", none), "_law_draws", "_law_draws", defArgs st10, defBody st10, defScope st10, [], []⟩
def dd11 : He.DefD := ⟨("_law_kinds", none), "_law_kinds", "_law_kinds", defArgs st11, defBody st11, defScope st11, [], []⟩
def dd12 : He.DefD := ⟨("_law_mark", none), "_law_mark", "_law_mark", defArgs st12, defBody st12, defScope st12, [], []⟩
def dd13 : He.DefD := ⟨("_law_walk", none), "_law_walk", "_law_walk", defArgs st13, defBody st13, defScope st13, [], []⟩
def dd14 : He.DefD := ⟨("_law_orders", none), "_law_orders", "_law_orders", defArgs st14, defBody st14, defScope st14, [], []⟩
def dd15 : He.DefD := ⟨("_law_is_integer", none), "_law_is_integer", "_law_is_integer", defArgs st15, defBody st15, defScope st15, [], []⟩
def dd16 : He.DefD := ⟨("_law_same", none), "_law_same", "_law_same", defArgs st16, defBody st16, defScope st16, [], []⟩
def dd17 : He.DefD := ⟨("_law_sized", none), "_law_sized", "_law_sized", defArgs st17, defBody st17, defScope st17, [], []⟩
def dd18 : He.DefD := ⟨("_law_pattern", none), "_law_pattern", "_law_pattern", defArgs st18, defBody st18, defScope st18, [], []⟩
def dd19 : He.DefD := ⟨("_law_case", none), "_law_case", "_law_case", defArgs st19, defBody st19, defScope st19, [], []⟩
def dd20 : He.DefD := ⟨("_law_marks", none), "_law_marks", "_law_marks", defArgs st20, defBody st20, defScope st20, [], []⟩
def dd21 : He.DefD := ⟨("_law_lowest", none), "_law_lowest", "_law_lowest", defArgs st21, defBody st21, defScope st21, [], []⟩
def dd22 : He.DefD := ⟨("_law_by_orders", none), "_law_by_orders", "_law_by_orders", defArgs st22, defBody st22, defScope st22, [], []⟩
def dd23 : He.DefD := ⟨("_law_share", none), "_law_share", "_law_share", defArgs st23, defBody st23, defScope st23, [], []⟩
def dd24 : He.DefD := ⟨("_law_by_shares", none), "_law_by_shares", "_law_by_shares", defArgs st24, defBody st24, defScope st24, [], []⟩
def dd25 : He.DefD := ⟨("_law_due", none), "_law_due", "_law_due", defArgs st25, defBody st25, defScope st25, [], []⟩
def dd26 : He.DefD := ⟨("law", none), "law", "law", defArgs st26, defBody st26, defScope st26, [], []⟩
def dd27 : He.DefD := ⟨("Strand", some "__init__"), "__init__", "Strand.__init__", defArgs st27, defBody st27, defScope st27, [], []⟩
def fn : List He.DefD := [dd0, dd1, dd2, dd3, dd4, dd5, dd6, dd7, dd8, dd9, dd10, dd11, dd12, dd13, dd14, dd15, dd16, dd17, dd18, dd19, dd20, dd21, dd22, dd23, dd24, dd25, dd26, dd27]
def fa : List He.Fa := [.glo ("unlike_places" : PySem.Str), .glo ("mark_of" : PySem.Str), .glo ("all_spans" : PySem.Str), .glo ("mark_between" : PySem.Str), .glo ("share" : PySem.Str), .glo ("fraction_sum" : PySem.Str), .glo ("mean_of" : PySem.Str), .glo ("mean_tally" : PySem.Str), .glo ("_law_cell" : PySem.Str), .glo ("_law_mixed" : PySem.Str), .glo ("_law_draws" : PySem.Str), .glo ("_law_kinds" : PySem.Str), .glo ("_law_mark" : PySem.Str), .glo ("_law_walk" : PySem.Str), .glo ("_law_orders" : PySem.Str), .glo ("_law_is_integer" : PySem.Str), .glo ("_law_same" : PySem.Str), .glo ("_law_sized" : PySem.Str), .glo ("_law_pattern" : PySem.Str), .glo ("_law_case" : PySem.Str), .glo ("_law_marks" : PySem.Str), .glo ("_law_lowest" : PySem.Str), .glo ("_law_by_orders" : PySem.Str), .glo ("_law_share" : PySem.Str), .glo ("_law_by_shares" : PySem.Str), .glo ("_law_due" : PySem.Str), .glo ("law" : PySem.Str), .glo "Strand", .mkr "Strand", .cls "Strand", .noat "Strand" ("ends_unlike" : PySem.Str), .noat "Strand" ("kinds" : PySem.Str), .noat "Strand" ("size" : PySem.Str), .noat "Strand" ("unlike_pairs" : PySem.Str), .noat "Strand" ("variety" : PySem.Str), .free ("bool" : PySem.Str), .free ("enumerate" : PySem.Str), .free ("int" : PySem.Str), .free ("isinstance" : PySem.Str), .free ("len" : PySem.Str), .free ("list" : PySem.Str), .free ("range" : PySem.Str), .free ("set" : PySem.Str), .free ("str" : PySem.Str), .free ("tuple" : PySem.Str)]
def mkB (K : PySem.W.Frag) (a : Addr) : Bool := match K.lookup a with
  | some ⟨.type t, _, .seq its _, _⟩ => decide (t = "tuple") && (match its.toList with
    | [.str a _, .str b _, .str c _, .str d _] => decide (a = ("quiet" : Str)) && (decide (b = ("odd" : Str)) && (decide (c = ("edge" : Str)) && decide (d = ("strife" : Str))))
    | _ => false)
  | _ => false
def cvB (K : PySem.W.Frag) (C : Addr) (f : Str) (i : Int) : Bool := match PySem.W.findCls K (.ref C) (.type "type") f with
  | some (.val (.int j _)) => decide (j = i)
  | _ => false
def exB (K : PySem.W.Frag) : Bool := decide (PySem.W.nsIn K mainGlobals "gcd" = some (some (.builtin "math.gcd"))) && ((match PySem.W.nsIn K mainGlobals "MARKS" with
  | some (some (.ref a)) => mkB K a
  | _ => false) && (PySem.W.readsIn K (He.ga K "Strand") (.type "type") && (decide (PySem.W.specialIn K (.ref (He.ga K "Strand")) "__getattribute__" = some (some (.builtin "type.__getattribute__"))) && (cvB K (He.ga K "Strand") "MOST" 24 && cvB K (He.ga K "Strand") "TOP_KIND" 999))))
/-! ### the Hook -/
abbrev R : PySem.W.OpenRow := PySem.W.OpenLaw.row PySem.Challenge.rw_beadmoot_k39_whole_mean_tally
def refsS (o : Obj) : List Addr := match o.data with
  | .dict es _ => es.toList.flatMap fun e => He.refV e.val
  | .func fd => He.refV fd.code
  | .cls cd => [cd.ns]
  | _ => []
def lev (g : Addr → Option Obj) (as : List Addr) : List Addr := as.flatMap fun a => match g a with
  | some o => refsS o
  | none => []
def asS (g : Addr → Option Obj) : Nat → List Addr → List Addr
  | 0, l => l
  | n + 1, l => l ++ asS g n (lev g l)
def obK (K : PySem.W.Frag) : He.AlD × Bool := (He.obsD fa fn K, exB K)
def obB (g : Addr → Option Obj) : He.AlD × Bool := obK (He.frG g (cStatics :: asS g 4 [mainGlobals]))
def hk : PySem.W.Hook where
  α := He.AlD × Bool
  obs := fun s => obB s.heap.get?
  val := fun _ => (He.valD fn, true)
  says := fun _ h => ∃ K : PySem.W.Frag, K.In h ∧ He.SaysD fa fn K ∧ exB K = true
  of := fun _ _ e => ⟨_, He.frG_in, congrArg Prod.fst e, congrArg Prod.snd e⟩
  keeps := fun _ _ _ ⟨K, hK, c⟩ k => ⟨K, PySem.W.Frag.In.keeps hK k, c⟩
def ob (s : PySem.W.SharedT) : He.AlD × Bool := obB (HandSHeadRun.getT s)
theorem ob_eq (s : PySem.W.SharedT) : ob s = hk.obs s.abs := by
  have e : HandSHeadRun.getT s = s.abs.heap.get? := funext (HandSHeadRun.getT_eq s)
  show obB _ = obB _
  rw [e]
def names : List PySem.Str := [("_wall" : PySem.Str), ("MARKS" : PySem.Str), ("MootError" : PySem.Str), ("BadStrand" : PySem.Str), ("Strand" : PySem.Str), ("unlike_places" : PySem.Str), ("mark_of" : PySem.Str), ("all_spans" : PySem.Str), ("mark_between" : PySem.Str), ("share" : PySem.Str), ("fraction_sum" : PySem.Str), ("mean_of" : PySem.Str), ("mean_tally" : PySem.Str), ("_law_cell" : PySem.Str), ("_law_mixed" : PySem.Str), ("_law_draws" : PySem.Str), ("_law_kinds" : PySem.Str), ("_law_mark" : PySem.Str), ("_law_walk" : PySem.Str), ("_law_orders" : PySem.Str), ("_law_is_integer" : PySem.Str), ("_law_same" : PySem.Str), ("_law_sized" : PySem.Str), ("_law_pattern" : PySem.Str), ("_law_case" : PySem.Str), ("_law_marks" : PySem.Str), ("_law_lowest" : PySem.Str), ("_law_by_orders" : PySem.Str), ("_law_share" : PySem.Str), ("_law_by_shares" : PySem.Str), ("_law_due" : PySem.Str)]
end L39
end

section
set_option autoImplicit false
set_option Elab.async false
set_option linter.all false
set_option maxRecDepth 100000
set_option maxHeartbeats 0
namespace L39
open PySem PySem.Spec PyProof.Rows L2
theorem run (w : World) : HandSHeadRun.RunEqI R (PySem.W.view R.prog [0, 38]) hk ob 8000 names w := by
  unfold HandSHeadRun.RunEqI
  kernel_rfl
end L39
end

section
set_option autoImplicit false
set_option Elab.async false
set_option linter.all false
set_option maxRecDepth 100000
set_option maxHeartbeats 4000000
namespace L39
open PySem PySem.Spec PyProof.Rows L2 Pd Ev
def marksD : D := .tup [.str "quiet", .str "odd", .str "edge", .str "strife"]
def fldL : List PySem.Str := [("ends_unlike" : PySem.Str), ("kinds" : PySem.Str), ("size" : PySem.Str), ("unlike_pairs" : PySem.Str), ("variety" : PySem.Str)]
def tabL : List En := [⟨N0, ps0, ir0, none⟩, ⟨N1, ps1, ir1, none⟩, ⟨N2, ps2, ir2, none⟩, ⟨N3, ps3, ir3, none⟩, ⟨N4, ps4, ir4, none⟩, ⟨N5, ps5, ir5, none⟩, ⟨N6, ps6, ir6, none⟩, ⟨N7, ps7, ir7, none⟩, ⟨N8, ps8, ir8, none⟩, ⟨N9, ps9, ir9, none⟩, ⟨N10, ps10, ir10, none⟩, ⟨N11, ps11, ir11, none⟩, ⟨N12, ps12, ir12, none⟩, ⟨N13, ps13, ir13, none⟩, ⟨N14, ps14, ir14, none⟩, ⟨N15, ps15, ir15, none⟩, ⟨N16, ps16, ir16, none⟩, ⟨N17, ps17, ir17, none⟩, ⟨N18, ps18, ir18, none⟩, ⟨N19, ps19, ir19, none⟩, ⟨N20, ps20, ir20, none⟩, ⟨N21, ps21, ir21, none⟩, ⟨N22, ps22, ir22, none⟩, ⟨N23, ps23, ir23, none⟩, ⟨N24, ps24, ir24, none⟩, ⟨N25, ps25, ir25, none⟩, ⟨N26, ps26, ir26, none⟩, ⟨N27, ps27, ir27, some 0⟩]
def tab39 (i : Nat) : Option En := tabL[i]?
def Phi39 (C : Addr) : Phi where
  ga := fun i => if i = 0 then C else 0
  glob := fun i => if i = 0 then some marksD else none
  ccon := fun c f => if c = 0 then (if f = "MOST" then some (.int 24) else if f = "TOP_KIND" then some (.int 999) else none) else none
  mn := fun _ => ""
  meth := fun _ _ => none
  cmeth := fun _ _ => none
  ctor := fun _ => none
  arr := fun p => arL.getD p []
  pf := fun p => ((plL[p]?).map (·.1)).getD 0
  fld := fun D f => D == C && fldL.contains f
  efld := fun _ => none
  isX := fun _ _ => none
  isB := fun _ _ => none
  call := fun _ _ => none
section
variable {P : Program} {w : World} {K : PySem.W.Frag} {mg : Str → Option Value} {base : Heap} {h : Heap} {f : Addr} {fd : FuncData}
theorem bindsK {x qual : Str} {params : Arguments} {body : List Stmt} {scope : Scope} {kws : List (Str × V)} {ps : List Str} (F : FunD K x qual params body scope [] kws f fd) (n : Nat) (ks : List Str) (g : List Value → List Value → List Value) (gV : List V → List V → List V) (hrel : ∀ {vs : List V} {us : List Value} {zs : List V} {ws : List Value}, Vals vs us → Vals zs ws → Vals (gV vs zs) (g us ws))
    (h : ∀ (kV doc pm : Value) (an : Option Addr) (cdv ct : Value) (us ws : List Value), us.length = n → ws.length = ks.length → bindArgs (PySem.W.fnOf x qual params body scope .none kV doc pm an cdv ct) ⟨us, ks.zip ws⟩ = pure (ps.zip (g us ws))) : KBn K fd ps n ks g gV := by
  obtain ⟨oc, od, dV, kV, doc, pm, an, cdv, ct, osl, rfl, lk, hcd, hD, hK⟩ := F.ex
  rcases hD with ⟨_, rfl⟩ | ⟨e, _⟩
  · exact ⟨fun s us ws _ l1 l2 => .of_eq (h kV doc pm an cdv ct us ws l1 l2), hrel⟩
  · exact absurd rfl e
theorem mk_ok {a : Addr} (h : mkB K a = true) : ∃ vs, (∀ H, SqT K H a vs) ∧ ∀ H, Reps K H vs [.str "quiet", .str "odd", .str "edge", .str "strife"] := by
  unfold mkB at h
  split at h
  · next t dd its n sl e =>
    obtain ⟨h1, h2⟩ := He.ba h
    split at h2
    · next a1 t1 a2 t2 a3 t3 a4 t4 e2 =>
      obtain ⟨p1, h2⟩ := He.ba h2
      obtain ⟨p2, h2⟩ := He.ba h2
      obtain ⟨p3, p4⟩ := He.ba h2
      have q1 := of_decide_eq_true p1
      have q2 := of_decide_eq_true p2
      have q3 := of_decide_eq_true p3
      have q4 := of_decide_eq_true p4
      have q0 := of_decide_eq_true h1
      subst q0 q1 q2 q3 q4
      refine ⟨[.str "quiet", .str "odd", .str "edge", .str "strife"], fun H => .inr ⟨_, its, n, e, rfl, rfl, ?_, ?_⟩, fun H => .cons (.str _) (.cons (.str _) (.cons (.str _) (.cons (.str _) .nil)))⟩
      · have z : its.size = 4 := by rw [← Array.length_toList, e2]; rfl
        rw [z]; decide
      · rw [e2]
        exact .cons ⟨t1, rfl⟩ (.cons ⟨t2, rfl⟩ (.cons ⟨t3, rfl⟩ (.cons ⟨t4, rfl⟩ .nil)))
    · cases h2
  · cases h
theorem cv_ok {C : Addr} {f : Str} {i : Int} (h : cvB K C f i = true) : ∃ u, ClX.CVal K C (.type "type") f (.int i) u := by
  unfold cvB at h
  split at h
  · next j t e =>
    have q := of_decide_eq_true h
    subst q
    exact ⟨_, e, ⟨t, rfl⟩⟩
  · cases h
theorem plan_no {i p m : Nat} {ks : List Str} (h : plL[p]? = some (i, m, ks)) : i = 20 ∨ i = 27 ∨ i = 7 := by
  have z := List.mem_of_getElem? h
  simp [plL] at z
  omega
theorem FS0 : FnScope N0 ps0 (defScope st0) := ⟨rfl, rfl, rfl, by decide +kernel, rfl, by decide +kernel, by decide +kernel⟩
theorem FS1 : FnScope N1 ps1 (defScope st1) := ⟨rfl, rfl, rfl, by decide +kernel, rfl, by decide +kernel, by decide +kernel⟩
theorem FS2 : FnScope N2 ps2 (defScope st2) := ⟨rfl, rfl, rfl, by decide +kernel, rfl, by decide +kernel, by decide +kernel⟩
theorem FS3 : FnScope N3 ps3 (defScope st3) := ⟨rfl, rfl, rfl, by decide +kernel, rfl, by decide +kernel, by decide +kernel⟩
theorem FS4 : FnScope N4 ps4 (defScope st4) := ⟨rfl, rfl, rfl, by decide +kernel, rfl, by decide +kernel, by decide +kernel⟩
theorem FS5 : FnScope N5 ps5 (defScope st5) := ⟨rfl, rfl, rfl, by decide +kernel, rfl, by decide +kernel, by decide +kernel⟩
theorem FS6 : FnScope N6 ps6 (defScope st6) := ⟨rfl, rfl, rfl, by decide +kernel, rfl, by decide +kernel, by decide +kernel⟩
theorem FS7 : FnScope N7 ps7 (defScope st7) := ⟨rfl, rfl, rfl, by decide +kernel, rfl, by decide +kernel, by decide +kernel⟩
theorem FS8 : FnScope N8 ps8 (defScope st8) := ⟨rfl, rfl, rfl, by decide +kernel, rfl, by decide +kernel, by decide +kernel⟩
theorem FS9 : FnScope N9 ps9 (defScope st9) := ⟨rfl, rfl, rfl, by decide +kernel, rfl, by decide +kernel, by decide +kernel⟩
theorem FS10 : FnScope N10 ps10 (defScope st10) := ⟨rfl, rfl, rfl, by decide +kernel, rfl, by decide +kernel, by decide +kernel⟩
theorem FS11 : FnScope N11 ps11 (defScope st11) := ⟨rfl, rfl, rfl, by decide +kernel, rfl, by decide +kernel, by decide +kernel⟩
theorem FS12 : FnScope N12 ps12 (defScope st12) := ⟨rfl, rfl, rfl, by decide +kernel, rfl, by decide +kernel, by decide +kernel⟩
theorem FS13 : FnScope N13 ps13 (defScope st13) := ⟨rfl, rfl, rfl, by decide +kernel, rfl, by decide +kernel, by decide +kernel⟩
theorem FS14 : FnScope N14 ps14 (defScope st14) := ⟨rfl, rfl, rfl, by decide +kernel, rfl, by decide +kernel, by decide +kernel⟩
theorem FS15 : FnScope N15 ps15 (defScope st15) := ⟨rfl, rfl, rfl, by decide +kernel, rfl, by decide +kernel, by decide +kernel⟩
theorem FS16 : FnScope N16 ps16 (defScope st16) := ⟨rfl, rfl, rfl, by decide +kernel, rfl, by decide +kernel, by decide +kernel⟩
theorem FS17 : FnScope N17 ps17 (defScope st17) := ⟨rfl, rfl, rfl, by decide +kernel, rfl, by decide +kernel, by decide +kernel⟩
theorem FS18 : FnScope N18 ps18 (defScope st18) := ⟨rfl, rfl, rfl, by decide +kernel, rfl, by decide +kernel, by decide +kernel⟩
theorem FS19 : FnScope N19 ps19 (defScope st19) := ⟨rfl, rfl, rfl, by decide +kernel, rfl, by decide +kernel, by decide +kernel⟩
theorem FS20 : FnScope N20 ps20 (defScope st20) := ⟨rfl, rfl, rfl, by decide +kernel, rfl, by decide +kernel, by decide +kernel⟩
theorem FS21 : FnScope N21 ps21 (defScope st21) := ⟨rfl, rfl, rfl, by decide +kernel, rfl, by decide +kernel, by decide +kernel⟩
theorem FS22 : FnScope N22 ps22 (defScope st22) := ⟨rfl, rfl, rfl, by decide +kernel, rfl, by decide +kernel, by decide +kernel⟩
theorem FS23 : FnScope N23 ps23 (defScope st23) := ⟨rfl, rfl, rfl, by decide +kernel, rfl, by decide +kernel, by decide +kernel⟩
theorem FS24 : FnScope N24 ps24 (defScope st24) := ⟨rfl, rfl, rfl, by decide +kernel, rfl, by decide +kernel, by decide +kernel⟩
theorem FS25 : FnScope N25 ps25 (defScope st25) := ⟨rfl, rfl, rfl, by decide +kernel, rfl, by decide +kernel, by decide +kernel⟩
theorem FS26 : FnScope N26 ps26 (defScope st26) := ⟨rfl, rfl, rfl, by decide +kernel, rfl, by decide +kernel, by decide +kernel⟩
theorem FS27 : FnScope N27 ps27 (defScope st27) := ⟨rfl, rfl, rfl, by decide +kernel, rfl, by decide +kernel, by decide +kernel⟩
theorem modOk (X : K.In h) (G : h.Ns mainGlobals mg) (c : He.SaysD fa fn K) (e : exB K = true) : Mod (Phi39 (He.ga K "Strand")) S39 tab39 40 P w K mg base := by
  obtain ⟨e1, e2⟩ := He.ba e
  obtain ⟨e2, e3⟩ := He.ba e2
  obtain ⟨e3, e4⟩ := He.ba e3
  obtain ⟨e4, e5⟩ := He.ba e4
  obtain ⟨e5, e6⟩ := He.ba e5
  have gS := He.glo_ok X G (c.fact 27 (f := .glo "Strand") rfl)
  have mS := He.mkr_ok (c.fact 28 (f := .mkr "Strand") rfl)
  have cS := He.cls_ok (c.fact 29 (f := .cls "Strand") rfl)
  have na0 := He.noat_ok (c.fact 30 (f := .noat "Strand" ("ends_unlike" : PySem.Str)) rfl)
  have na1 := He.noat_ok (c.fact 31 (f := .noat "Strand" ("kinds" : PySem.Str)) rfl)
  have na2 := He.noat_ok (c.fact 32 (f := .noat "Strand" ("size" : PySem.Str)) rfl)
  have na3 := He.noat_ok (c.fact 33 (f := .noat "Strand" ("unlike_pairs" : PySem.Str)) rfl)
  have na4 := He.noat_ok (c.fact 34 (f := .noat "Strand" ("variety" : PySem.Str)) rfl)
  have fr0 := He.free_ok X G (c.fact 35 (f := .free ("bool" : PySem.Str)) rfl)
  have fr1 := He.free_ok X G (c.fact 36 (f := .free ("enumerate" : PySem.Str)) rfl)
  have fr2 := He.free_ok X G (c.fact 37 (f := .free ("int" : PySem.Str)) rfl)
  have fr3 := He.free_ok X G (c.fact 38 (f := .free ("isinstance" : PySem.Str)) rfl)
  have fr4 := He.free_ok X G (c.fact 39 (f := .free ("len" : PySem.Str)) rfl)
  have fr5 := He.free_ok X G (c.fact 40 (f := .free ("list" : PySem.Str)) rfl)
  have fr6 := He.free_ok X G (c.fact 41 (f := .free ("range" : PySem.Str)) rfl)
  have fr7 := He.free_ok X G (c.fact 42 (f := .free ("set" : PySem.Str)) rfl)
  have fr8 := He.free_ok X G (c.fact 43 (f := .free ("str" : PySem.Str)) rfl)
  have fr9 := He.free_ok X G (c.fact 44 (f := .free ("tuple" : PySem.Str)) rfl)
  obtain ⟨fd0, F0⟩ := c.def_ 0 (d := dd0) rfl
  obtain ⟨fd1, F1⟩ := c.def_ 1 (d := dd1) rfl
  obtain ⟨fd2, F2⟩ := c.def_ 2 (d := dd2) rfl
  obtain ⟨fd3, F3⟩ := c.def_ 3 (d := dd3) rfl
  obtain ⟨fd4, F4⟩ := c.def_ 4 (d := dd4) rfl
  obtain ⟨fd5, F5⟩ := c.def_ 5 (d := dd5) rfl
  obtain ⟨fd6, F6⟩ := c.def_ 6 (d := dd6) rfl
  obtain ⟨fd7, F7⟩ := c.def_ 7 (d := dd7) rfl
  obtain ⟨fd8, F8⟩ := c.def_ 8 (d := dd8) rfl
  obtain ⟨fd9, F9⟩ := c.def_ 9 (d := dd9) rfl
  obtain ⟨fd10, F10⟩ := c.def_ 10 (d := dd10) rfl
  obtain ⟨fd11, F11⟩ := c.def_ 11 (d := dd11) rfl
  obtain ⟨fd12, F12⟩ := c.def_ 12 (d := dd12) rfl
  obtain ⟨fd13, F13⟩ := c.def_ 13 (d := dd13) rfl
  obtain ⟨fd14, F14⟩ := c.def_ 14 (d := dd14) rfl
  obtain ⟨fd15, F15⟩ := c.def_ 15 (d := dd15) rfl
  obtain ⟨fd16, F16⟩ := c.def_ 16 (d := dd16) rfl
  obtain ⟨fd17, F17⟩ := c.def_ 17 (d := dd17) rfl
  obtain ⟨fd18, F18⟩ := c.def_ 18 (d := dd18) rfl
  obtain ⟨fd19, F19⟩ := c.def_ 19 (d := dd19) rfl
  obtain ⟨fd20, F20⟩ := c.def_ 20 (d := dd20) rfl
  obtain ⟨fd21, F21⟩ := c.def_ 21 (d := dd21) rfl
  obtain ⟨fd22, F22⟩ := c.def_ 22 (d := dd22) rfl
  obtain ⟨fd23, F23⟩ := c.def_ 23 (d := dd23) rfl
  obtain ⟨fd24, F24⟩ := c.def_ 24 (d := dd24) rfl
  obtain ⟨fd25, F25⟩ := c.def_ 25 (d := dd25) rfl
  obtain ⟨fd26, F26⟩ := c.def_ 26 (d := dd26) rfl
  obtain ⟨fd27, F27⟩ := c.def_ 27 (d := dd27) rfl
  have pl20 : ∀ p m ks, S39.plan p = some (20, m, ks) → BD K fd20 ps20 m ks ((Phi39 (He.ga K "Strand")).arr p) := fun p m ks z => by
    match p, z with
    | 0, z =>
      cases z
      exact ⟨⟨fun _ _ => [], fun _ _ => [], bindsK F20 0 [] _ _ (fun _ _ => .nil) (fun _ _ _ _ _ _ us ws h1 h2 => match us, ws, h1, h2 with | [], [], _, _ => rfl), fun _ _ _ _ => rfl⟩, fun q hq => by cases hq⟩
    | 1, z => cases z
    | 2, z => cases z
    | p + 3, z => cases z
  have pl7 : ∀ p m ks, S39.plan p = some (7, m, ks) → BD K fd7 ps7 m ks ((Phi39 (He.ga K "Strand")).arr p) := fun p m ks z => by
    match p, z with
    | 2, z =>
      cases z
      refine ⟨⟨fun _ ws => ws, fun _ zs => zs, bindsK F7 0 ["strand"] _ _ (fun _ r => r) (fun _ _ _ _ _ _ us ws h1 h2 => match us, ws, h1, h2 with | [], [_], _, _ => rfl), fun vs zs h1 h2 => match vs, zs, h1, h2 with | [], [_], _, _ => rfl⟩, fun q hq => ?_⟩
      cases hq with
      | head => exact Nat.zero_lt_one
      | tail _ hq => cases hq
    | 0, z => cases z
    | 1, z => cases z
    | p + 3, z => cases z
  have pl27 : ∀ p m ks, S39.plan p = some (27, m, ks) → BD K fd27 ps27 (m + 1) ks (.pos 0 :: ((Phi39 (He.ga K "Strand")).arr p).map PA.sh) := fun p m ks z => by
    match p, z with
    | 1, z =>
      cases z
      refine ⟨⟨fun us _ => us, fun vs _ => vs, bindsK F27 2 [] _ _ (fun r _ => r) (fun _ _ _ _ _ _ us ws h1 h2 => match us, ws, h1, h2 with | [_, _], [], _, _ => rfl), fun vs zs h1 h2 => match vs, zs, h1, h2 with | [_, _], [], _, _ => rfl⟩, fun q hq => ?_⟩
      cases hq with
      | head => exact Nat.zero_lt_succ _
      | tail _ hq => cases hq with
        | head => exact Nat.one_lt_two
        | tail _ hq => cases hq
    | 0, z => cases z
    | 2, z => cases z
    | p + 3, z => cases z
  refine ⟨fun i nm d hn hd => ?_, fun i nm hn => ?_, fun nm hn => ?_, fun _ => PySem.W.mg_of X G (of_decide_eq_true e1), fun i nm hn => ?_, fun i nm hn => ?_, fun _ _ => rfl, fun p i m ks hp => ?_, fun c nm f d hn hd => ?_, fun i nm f hn (hd : none = some f) => (by cases hd), fun C f hf => ?_⟩
  · match i, hn, hd with
    | 0, hn, hd =>
      cases hn; cases hd
      split at e2
      · next a q =>
        obtain ⟨vs, v1, v2⟩ := mk_ok e2
        exact ⟨.ref a, .ref a, PySem.W.mg_of X G q, rfl, fun H => .tup (v1 H) (v2 H)⟩
      · cases e2
    | i + 1, hn, _ => cases hn
  · match i, hn with
    | 0, hn => cases hn; exact gS
    | i + 1, hn => cases hn
  · have z : nm ∈ frL := hn
    simp only [frL, List.mem_cons, List.not_mem_nil, or_false] at z
    rcases z with rfl | rfl | rfl | rfl | rfl | rfl | rfl | rfl | rfl | rfl
    · exact fr0
    · exact fr1
    · exact fr2
    · exact fr3
    · exact fr4
    · exact fr5
    · exact fr6
    · exact fr7
    · exact fr8
    · exact fr9
  · have hn : fnL[i]? = some nm := hn
    match i, hn with
    | 0, hn => cases hn; exact ⟨⟨N0, ps0, ir0, none⟩, _, fd0, rfl, rfl, ⟨_, _, _, _, _, _, _, F0, FS0, ok0⟩, He.glo_ok X G (c.fact 0 (f := .glo ("unlike_places" : PySem.Str)) rfl), F0.kp, F0.bindsN fun _ _ _ _ _ _ us hl => match us, hl with | [_], _ => rfl, fun p m ks z => by rcases plan_no z with q | q | q <;> cases q⟩
    | 1, hn => cases hn; exact ⟨⟨N1, ps1, ir1, none⟩, _, fd1, rfl, rfl, ⟨_, _, _, _, _, _, _, F1, FS1, ok1⟩, He.glo_ok X G (c.fact 1 (f := .glo ("mark_of" : PySem.Str)) rfl), F1.kp, F1.bindsN fun _ _ _ _ _ _ us hl => match us, hl with | [_, _, _], _ => rfl, fun p m ks z => by rcases plan_no z with q | q | q <;> cases q⟩
    | 2, hn => cases hn; exact ⟨⟨N2, ps2, ir2, none⟩, _, fd2, rfl, rfl, ⟨_, _, _, _, _, _, _, F2, FS2, ok2⟩, He.glo_ok X G (c.fact 2 (f := .glo ("all_spans" : PySem.Str)) rfl), F2.kp, F2.bindsN fun _ _ _ _ _ _ us hl => match us, hl with | [_], _ => rfl, fun p m ks z => by rcases plan_no z with q | q | q <;> cases q⟩
    | 3, hn => cases hn; exact ⟨⟨N3, ps3, ir3, none⟩, _, fd3, rfl, rfl, ⟨_, _, _, _, _, _, _, F3, FS3, ok3⟩, He.glo_ok X G (c.fact 3 (f := .glo ("mark_between" : PySem.Str)) rfl), F3.kp, F3.bindsN fun _ _ _ _ _ _ us hl => match us, hl with | [_, _, _, _], _ => rfl, fun p m ks z => by rcases plan_no z with q | q | q <;> cases q⟩
    | 4, hn => cases hn; exact ⟨⟨N4, ps4, ir4, none⟩, _, fd4, rfl, rfl, ⟨_, _, _, _, _, _, _, F4, FS4, ok4⟩, He.glo_ok X G (c.fact 4 (f := .glo ("share" : PySem.Str)) rfl), F4.kp, F4.bindsN fun _ _ _ _ _ _ us hl => match us, hl with | [_, _, _], _ => rfl, fun p m ks z => by rcases plan_no z with q | q | q <;> cases q⟩
    | 5, hn => cases hn; exact ⟨⟨N5, ps5, ir5, none⟩, _, fd5, rfl, rfl, ⟨_, _, _, _, _, _, _, F5, FS5, ok5⟩, He.glo_ok X G (c.fact 5 (f := .glo ("fraction_sum" : PySem.Str)) rfl), F5.kp, F5.bindsN fun _ _ _ _ _ _ us hl => match us, hl with | [_, _], _ => rfl, fun p m ks z => by rcases plan_no z with q | q | q <;> cases q⟩
    | 6, hn => cases hn; exact ⟨⟨N6, ps6, ir6, none⟩, _, fd6, rfl, rfl, ⟨_, _, _, _, _, _, _, F6, FS6, ok6⟩, He.glo_ok X G (c.fact 6 (f := .glo ("mean_of" : PySem.Str)) rfl), F6.kp, F6.bindsN fun _ _ _ _ _ _ us hl => match us, hl with | [_, _], _ => rfl, fun p m ks z => by rcases plan_no z with q | q | q <;> cases q⟩
    | 7, hn => cases hn; exact ⟨⟨N7, ps7, ir7, none⟩, _, fd7, rfl, rfl, ⟨_, _, _, _, _, _, _, F7, FS7, ok7⟩, He.glo_ok X G (c.fact 7 (f := .glo ("mean_tally" : PySem.Str)) rfl), F7.kp, F7.bindsN fun _ _ _ _ _ _ us hl => match us, hl with | [_], _ => rfl, pl7⟩
    | 8, hn => cases hn; exact ⟨⟨N8, ps8, ir8, none⟩, _, fd8, rfl, rfl, ⟨_, _, _, _, _, _, _, F8, FS8, ok8⟩, He.glo_ok X G (c.fact 8 (f := .glo ("_law_cell" : PySem.Str)) rfl), F8.kp, F8.bindsN fun _ _ _ _ _ _ us hl => match us, hl with | [_, _], _ => rfl, fun p m ks z => by rcases plan_no z with q | q | q <;> cases q⟩
    | 9, hn => cases hn; exact ⟨⟨N9, ps9, ir9, none⟩, _, fd9, rfl, rfl, ⟨_, _, _, _, _, _, _, F9, FS9, ok9⟩, He.glo_ok X G (c.fact 9 (f := .glo ("_law_mixed" : PySem.Str)) rfl), F9.kp, F9.bindsN fun _ _ _ _ _ _ us hl => match us, hl with | [_, _], _ => rfl, fun p m ks z => by rcases plan_no z with q | q | q <;> cases q⟩
    | 10, hn => cases hn; exact ⟨⟨N10, ps10, ir10, none⟩, _, fd10, rfl, rfl, ⟨_, _, _, _, _, _, _, F10, FS10, ok10⟩, He.glo_ok X G (c.fact 10 (f := .glo ("_law_draws" : PySem.Str)) rfl), F10.kp, F10.bindsN fun _ _ _ _ _ _ us hl => match us, hl with | [_, _, _], _ => rfl, fun p m ks z => by rcases plan_no z with q | q | q <;> cases q⟩
    | 11, hn => cases hn; exact ⟨⟨N11, ps11, ir11, none⟩, _, fd11, rfl, rfl, ⟨_, _, _, _, _, _, _, F11, FS11, ok11⟩, He.glo_ok X G (c.fact 11 (f := .glo ("_law_kinds" : PySem.Str)) rfl), F11.kp, F11.bindsN fun _ _ _ _ _ _ us hl => match us, hl with | [_, _, _], _ => rfl, fun p m ks z => by rcases plan_no z with q | q | q <;> cases q⟩
    | 12, hn => cases hn; exact ⟨⟨N12, ps12, ir12, none⟩, _, fd12, rfl, rfl, ⟨_, _, _, _, _, _, _, F12, FS12, ok12⟩, He.glo_ok X G (c.fact 12 (f := .glo ("_law_mark" : PySem.Str)) rfl), F12.kp, F12.bindsN fun _ _ _ _ _ _ us hl => match us, hl with | [_, _, _], _ => rfl, fun p m ks z => by rcases plan_no z with q | q | q <;> cases q⟩
    | 13, hn => cases hn; exact ⟨⟨N13, ps13, ir13, none⟩, _, fd13, rfl, rfl, ⟨_, _, _, _, _, _, _, F13, FS13, ok13⟩, He.glo_ok X G (c.fact 13 (f := .glo ("_law_walk" : PySem.Str)) rfl), F13.kp, F13.bindsN fun _ _ _ _ _ _ us hl => match us, hl with | [_, _], _ => rfl, fun p m ks z => by rcases plan_no z with q | q | q <;> cases q⟩
    | 14, hn => cases hn; exact ⟨⟨N14, ps14, ir14, none⟩, _, fd14, rfl, rfl, ⟨_, _, _, _, _, _, _, F14, FS14, ok14⟩, He.glo_ok X G (c.fact 14 (f := .glo ("_law_orders" : PySem.Str)) rfl), F14.kp, F14.bindsN fun _ _ _ _ _ _ us hl => match us, hl with | [_], _ => rfl, fun p m ks z => by rcases plan_no z with q | q | q <;> cases q⟩
    | 15, hn => cases hn; exact ⟨⟨N15, ps15, ir15, none⟩, _, fd15, rfl, rfl, ⟨_, _, _, _, _, _, _, F15, FS15, ok15⟩, He.glo_ok X G (c.fact 15 (f := .glo ("_law_is_integer" : PySem.Str)) rfl), F15.kp, F15.bindsN fun _ _ _ _ _ _ us hl => match us, hl with | [_], _ => rfl, fun p m ks z => by rcases plan_no z with q | q | q <;> cases q⟩
    | 16, hn => cases hn; exact ⟨⟨N16, ps16, ir16, none⟩, _, fd16, rfl, rfl, ⟨_, _, _, _, _, _, _, F16, FS16, ok16⟩, He.glo_ok X G (c.fact 16 (f := .glo ("_law_same" : PySem.Str)) rfl), F16.kp, F16.bindsN fun _ _ _ _ _ _ us hl => match us, hl with | [_, _], _ => rfl, fun p m ks z => by rcases plan_no z with q | q | q <;> cases q⟩
    | 17, hn => cases hn; exact ⟨⟨N17, ps17, ir17, none⟩, _, fd17, rfl, rfl, ⟨_, _, _, _, _, _, _, F17, FS17, ok17⟩, He.glo_ok X G (c.fact 17 (f := .glo ("_law_sized" : PySem.Str)) rfl), F17.kp, F17.bindsN fun _ _ _ _ _ _ us hl => match us, hl with | [_, _, _], _ => rfl, fun p m ks z => by rcases plan_no z with q | q | q <;> cases q⟩
    | 18, hn => cases hn; exact ⟨⟨N18, ps18, ir18, none⟩, _, fd18, rfl, rfl, ⟨_, _, _, _, _, _, _, F18, FS18, ok18⟩, He.glo_ok X G (c.fact 18 (f := .glo ("_law_pattern" : PySem.Str)) rfl), F18.kp, F18.bindsN fun _ _ _ _ _ _ us hl => match us, hl with | [_], _ => rfl, fun p m ks z => by rcases plan_no z with q | q | q <;> cases q⟩
    | 19, hn => cases hn; exact ⟨⟨N19, ps19, ir19, none⟩, _, fd19, rfl, rfl, ⟨_, _, _, _, _, _, _, F19, FS19, ok19⟩, He.glo_ok X G (c.fact 19 (f := .glo ("_law_case" : PySem.Str)) rfl), F19.kp, F19.bindsN fun _ _ _ _ _ _ us hl => match us, hl with | [_], _ => rfl, fun p m ks z => by rcases plan_no z with q | q | q <;> cases q⟩
    | 20, hn => cases hn; exact ⟨⟨N20, ps20, ir20, none⟩, _, fd20, rfl, rfl, ⟨_, _, _, _, _, _, _, F20, FS20, ok20⟩, He.glo_ok X G (c.fact 20 (f := .glo ("_law_marks" : PySem.Str)) rfl), F20.kp, F20.bindsN fun _ _ _ _ _ _ us hl => match us, hl with | [], _ => rfl, pl20⟩
    | 21, hn => cases hn; exact ⟨⟨N21, ps21, ir21, none⟩, _, fd21, rfl, rfl, ⟨_, _, _, _, _, _, _, F21, FS21, ok21⟩, He.glo_ok X G (c.fact 21 (f := .glo ("_law_lowest" : PySem.Str)) rfl), F21.kp, F21.bindsN fun _ _ _ _ _ _ us hl => match us, hl with | [_, _], _ => rfl, fun p m ks z => by rcases plan_no z with q | q | q <;> cases q⟩
    | 22, hn => cases hn; exact ⟨⟨N22, ps22, ir22, none⟩, _, fd22, rfl, rfl, ⟨_, _, _, _, _, _, _, F22, FS22, ok22⟩, He.glo_ok X G (c.fact 22 (f := .glo ("_law_by_orders" : PySem.Str)) rfl), F22.kp, F22.bindsN fun _ _ _ _ _ _ us hl => match us, hl with | [_], _ => rfl, fun p m ks z => by rcases plan_no z with q | q | q <;> cases q⟩
    | 23, hn => cases hn; exact ⟨⟨N23, ps23, ir23, none⟩, _, fd23, rfl, rfl, ⟨_, _, _, _, _, _, _, F23, FS23, ok23⟩, He.glo_ok X G (c.fact 23 (f := .glo ("_law_share" : PySem.Str)) rfl), F23.kp, F23.bindsN fun _ _ _ _ _ _ us hl => match us, hl with | [_, _, _], _ => rfl, fun p m ks z => by rcases plan_no z with q | q | q <;> cases q⟩
    | 24, hn => cases hn; exact ⟨⟨N24, ps24, ir24, none⟩, _, fd24, rfl, rfl, ⟨_, _, _, _, _, _, _, F24, FS24, ok24⟩, He.glo_ok X G (c.fact 24 (f := .glo ("_law_by_shares" : PySem.Str)) rfl), F24.kp, F24.bindsN fun _ _ _ _ _ _ us hl => match us, hl with | [_], _ => rfl, fun p m ks z => by rcases plan_no z with q | q | q <;> cases q⟩
    | 25, hn => cases hn; exact ⟨⟨N25, ps25, ir25, none⟩, _, fd25, rfl, rfl, ⟨_, _, _, _, _, _, _, F25, FS25, ok25⟩, He.glo_ok X G (c.fact 25 (f := .glo ("_law_due" : PySem.Str)) rfl), F25.kp, F25.bindsN fun _ _ _ _ _ _ us hl => match us, hl with | [_], _ => rfl, fun p m ks z => by rcases plan_no z with q | q | q <;> cases q⟩
    | 26, hn => cases hn; exact ⟨⟨N26, ps26, ir26, none⟩, _, fd26, rfl, rfl, ⟨_, _, _, _, _, _, _, F26, FS26, ok26⟩, He.glo_ok X G (c.fact 26 (f := .glo ("law" : PySem.Str)) rfl), F26.kp, F26.bindsN fun _ _ _ _ _ _ us hl => match us, hl with | [_], _ => rfl, fun p m ks z => by rcases plan_no z with q | q | q <;> cases q⟩
    | i + 27, hn => cases hn
  · have hn : (if i = 27 then some ("Strand" : Str) else none) = some nm := hn
    split at hn
    · next q =>
      subst q
      cases hn
      exact ⟨⟨N27, ps27, ir27, some 0⟩, 0, _, fd27, rfl, rfl, ⟨_, _, _, _, _, _, _, F27, FS27, ok27⟩, gS, mS, pl27⟩
    · cases hn
  · have hp : plL[p]? = some (i, m, ks) := hp
    show ((plL[p]?).map (·.1)).getD 0 = i
    rw [hp]; rfl
  · match c, hn, hd with
    | 0, hn, hd =>
      have hd : (if f = "MOST" then some (D.int 24) else if f = "TOP_KIND" then some (.int 999) else none) = some d := hd
      split at hd
      · next q => subst q; cases hd; obtain ⟨u, z⟩ := cv_ok e5; exact ⟨_, _, u, ⟨e3, of_decide_eq_true e4⟩, z, fun _ => .int _⟩
      · split at hd
        · next q => subst q; cases hd; obtain ⟨u, z⟩ := cv_ok e6; exact ⟨_, _, u, ⟨e3, of_decide_eq_true e4⟩, z, fun _ => .int _⟩
        · cases hd
    | c + 1, hn, _ => cases hn
  · obtain ⟨h1, h2⟩ := He.ba (show (C == He.ga K "Strand" && fldL.contains f) = true from hf)
    have h1 := beq_iff_eq.mp h1
    subst h1
    refine ⟨cS, ?_⟩
    have z : f ∈ fldL := List.contains_iff_mem.mp h2
    simp only [fldL, List.mem_cons, List.not_mem_nil, or_false] at z
    rcases z with rfl | rfl | rfl | rfl | rfl
    · exact na0
    · exact na1
    · exact na2
    · exact na3
    · exact na4
theorem facts (X : K.In h) (G : h.Ns mainGlobals mg) (hfa : mg ("law" : Str) = some (.ref f)) (c : He.SaysD fa fn K) (e : exB K = true) :
    ∃ fd : FuncData, (∀ (s : Shared) (v : Value), BindsTo s fd ⟨[v], []⟩ [("_law_script", v)]) ∧ ∀ base : Heap, FnOk P w K mg base (L2.CX P w) 18 f fd ["_law_script"] (spC K (callL (Phi39 (He.ga K "Strand")) tab39 8 26)) := by
  obtain ⟨fd, F⟩ := c.def_ 26 (d := dd26) rfl
  have gl := He.glo_ok X G (c.fact 26 (f := .glo "law") rfl)
  have eL := hfa.symm.trans gl
  cases eL
  have b := FunD.bindsA (ps := ["_law_script"]) F fun _ _ _ _ _ _ us hl => match us, hl with | [_], _ => rfl
  refine ⟨fd, fun s v => b s [v] rfl, fun base => ?_⟩
  have m := modOk (P := P) (w := w) (base := base) X G c e
  have z := fnE (e := ⟨N26, ps26, ir26, none⟩) F FS26 (glo m 7) (by decide) ok26
  exact z.mono (by decide)
end
end L39
end

section
set_option autoImplicit false
set_option Elab.async false
set_option linter.all false
set_option maxRecDepth 100000
set_option maxHeartbeats 4000000
namespace L39
open PySem PySem.Spec L2 Pd Ev
abbrev CA (C : Addr) (k : Nat) := callL (Phi39 C) tab39 k
theorem ca_fn {C : Addr} {k i : Nat} {e : En} {ds : List D} (h : tab39 i = some e) (hc : e.cls = none) : CA C (k + 1) i ds = runF (wc (Phi39 C) (CA C k)) e ds := by
  show (match tab39 i with
    | none => none
    | some e => match e.cls with
      | none => runF (wc (Phi39 C) (CA C k)) e ds
      | some c => runI (wc (Phi39 C) (CA C k)) e ((Phi39 C).ga c) ds) = _
  rw [h]
  dsimp only
  rw [hc]
theorem wc_call (Φ : Phi) (g : Nat → List D → Option RR) : (wc Φ g).call = g := rfl
theorem okMul_of {i j : Int} (h1 : i.natAbs < 2 ^ 250) (h2 : j.natAbs < 2 ^ 250) : okMul i j := by
  unfold okMul
  have a : i.natAbs.log2 < 251 := by
    by_cases z : i.natAbs = 0
    · rw [z]; decide
    · exact Nat.lt_succ_of_lt ((Nat.log2_lt z).mpr h1)
  have b : j.natAbs.log2 < 251 := by
    by_cases z : j.natAbs = 0
    · rw [z]; decide
    · exact Nat.lt_succ_of_lt ((Nat.log2_lt z).mpr h2)
  omega
theorem okDiv_of {j : Int} (h0 : 0 < j) (h2 : j.natAbs < 2 ^ 250) : okDiv j := by
  refine ⟨h0, ?_⟩
  have b : j.natAbs.log2 < 251 := Nat.lt_succ_of_lt ((Nat.log2_lt (by omega)).mpr h2)
  omega
theorem p250 : (1000000000000 : Nat) < 2 ^ 250 := by decide
theorem okMul_s {i j : Int} (h1 : i.natAbs < 1000000000000) (h2 : j.natAbs < 1000000000000) : okMul i j := okMul_of (Nat.lt_trans h1 p250) (Nat.lt_trans h2 p250)
theorem okDiv_s {j : Int} (h0 : 0 < j) (h2 : j.natAbs < 1000000000000) : okDiv j := okDiv_of h0 (Nat.lt_trans h2 (by decide))
/-! ### what is drawn -/
theorem e_cell (C : Addr) (k : Nat) (ns : List Int) (at_ : Int) (h : 0 ≤ at_) : ∃ c, CA C (k + 1) 8 [.rol (ns.map .int), .int at_] = some (.val (.int c)) := by
  rw [ca_fn (e := ⟨N8, ps8, ir8, none⟩) rfl rfl]
  by_cases hl : at_ < (ns.length : Int)
  · refine ⟨ns[at_.toNat]'(by omega), ?_⟩
    have e : atI (ns.map D.int) at_ = some (.int (ns[at_.toNat]'(by omega))) := by
      unfold atI ixN
      simp [hl, h]
    simp [runF, ir8, ps8, N8, stF, evSs, evS, evP, ev, evL, tst, RR.and, bl?, cmpD, biD, iv, bv, subD, hl, e, Out.then, S2.vwO, Out.toF]
  · refine ⟨0, ?_⟩
    simp [runF, ir8, ps8, N8, stF, evSs, evS, evP, ev, evL, tst, RR.and, bl?, cmpD, biD, iv, bv, subD, hl, Out.then, S2.vwO, Out.toF]
def mixF (c k : Int) : Int :=
  let a := (c + 7919 * k + 13) % 2147483647
  let b := (a * (a + 48271)) % 2147483629
  let d := (b * (b + 69621) + 31 * k) % 2147483647
  d / 9
theorem e_mixed (C : Addr) (k : Nat) (c j : Int) (h0 : 0 ≤ j) (h1 : j < 100000) : ∃ m, CA C (k + 1) 9 [.int c, .int j] = some (.val (.int m)) := by
  rw [ca_fn (e := ⟨N9, ps9, ir9, none⟩) rfl rfl]
  have m1 : ∀ x : Int, okMul (x % 2147483647) (x % 2147483647 + 48271) := fun x => okMul_s (by omega) (by omega)
  have m2 : ∀ x : Int, okMul (x % 2147483629) (x % 2147483629 + 69621) := fun x => okMul_s (by omega) (by omega)
  have m3 : okMul 7919 j := okMul_s (by omega) (by omega)
  have m4 : okMul 31 j := okMul_s (by omega) (by omega)
  have d1 : okDiv 9 := okDiv_s (by omega) (by omega)
  refine ⟨mixF c j, ?_⟩
  simp [mixF, runF, ir9, ps9, N9, stF, evSs, evS, evP, ev, evL, tst, RR.and, binD, biD, iv, Out.then, setS, frz, m1, m2, m3, m4, d1, Out.toF]
/-- small numbers in a list -/
def In (a b : Int) (xs : List Int) : Prop := ∀ x ∈ xs, a ≤ x ∧ x < b
def drB : List IS := [.ite (.and (.cmp .GtE (.loc 0) (.bin .Pow (.cst (.int 10)) (.cst (.int 18)))) (.cmp .Gt (.loc 4) (.cst (.int 0)))) [.app (.fz [4]) 3 (.bin .Mod (.bi .int [(.loc 4)]) (.loc 2)), .asg (.fz [4]) 4 (.bin .FloorDiv (.loc 4) (.loc 2))] [.app (.fz [5]) 3 (.bin .Mod (.bi .int [(.fn 9 [(.loc 0), (.loc 5)])]) (.loc 2))]]
theorem dr_go (C : Addr) (k : Nat) (c s : Int) (x : S2) (hs : 0 < s) (hs2 : s < 100000) : ∀ (js : List Int), In 0 100000 js → ∀ (rest : Int) (acc : List Int) (y : S2), acc.length + js.length < 100000 → In 0 s acc → ∃ xs r y2, xs.length = acc.length + js.length ∧ In 0 s xs ∧
    forGo (put [5]) (fun γ => evSs (wc (Phi39 C) (CA C (k + 1))) drB γ) (js.map .int) [.sh (.int c), x, .sh (.int s), .ow (acc.map .int), .sh (.int rest), y] = some (.nx [.sh (.int c), x, .sh (.int s), .ow (xs.map .int), .sh (.int r), y2]) := by
  intro js
  induction js with
  | nil => exact fun _ rest acc y _ ha => ⟨acc, rest, y, by simp, ha, rfl⟩
  | cons j js ih =>
    intro hj rest acc y hz ha
    have p1 : okPow 10 18 := by unfold okPow; decide
    have d1 : okDiv s := okDiv_s hs (by omega)
    have hj0 := hj j (List.mem_cons_self ..)
    have hjs : In 0 100000 js := fun z hz => hj z (List.mem_cons_of_mem _ hz)
    simp only [List.length_cons] at hz
    have step : ∀ v : Int, In 0 s (acc ++ [v % s]) := fun v z hz => by
      rcases List.mem_append.mp hz with hz | hz
      · exact ha z hz
      · rw [List.mem_singleton.mp hz]
        exact ⟨Int.emod_nonneg _ (by omega), Int.emod_lt_of_pos _ hs⟩
    have hlen : ∀ v : Int, (acc ++ [v]).length + js.length < 100000 := fun v => by simp; omega
    have hb : acc.length < 100000 := by omega
    by_cases h : (1000000000000000000 : Int) ≤ c ∧ 0 < rest
    · obtain ⟨xs, r, y2, e1, e2, e3⟩ := ih hjs (rest / s) (acc ++ [rest % s]) (.sh (.int j)) (hlen _) (step _)
      refine ⟨xs, r, y2, by rw [e1]; simp; omega, e2, ?_⟩
      rw [List.map_cons, ← e3]
      simp [drB, forGo, put, evSs, evS, evP, ev, evL, tst, RR.and, binD, biD, iv, bv, cmpD, Out.then, setS, RR.d?, S2.vwO, frz, p1, d1, h.1, h.2, hs, hb]
    · obtain ⟨m, hm⟩ := e_mixed C k c j hj0.1 hj0.2
      obtain ⟨xs, r, y2, e1, e2, e3⟩ := ih hjs rest (acc ++ [m % s]) (.sh (.int j)) (hlen _) (step _)
      refine ⟨xs, r, y2, by rw [e1]; simp; omega, e2, ?_⟩
      rw [List.map_cons, ← e3]
      by_cases h1 : (1000000000000000000 : Int) ≤ c
      · have h2 : ¬ 0 < rest := fun z => h ⟨h1, z⟩
        simp [drB, forGo, put, evSs, evS, evP, ev, evL, tst, RR.and, binD, biD, iv, bv, cmpD, Out.then, setS, RR.d?, S2.vwO, frz, p1, d1, h1, h2, hs, hb, wc_call, hm]
      · simp [drB, forGo, put, evSs, evS, evP, ev, evL, tst, RR.and, binD, biD, iv, bv, cmpD, Out.then, setS, RR.d?, S2.vwO, frz, p1, d1, h1, hs, hb, wc_call, hm]
end L39
end

section
set_option autoImplicit false
set_option Elab.async false
set_option linter.all false
set_option maxRecDepth 100000
set_option maxHeartbeats 4000000
namespace Ev
open PySem PySem.Spec PyProof.Rows L2 Pd
/-! ### the evaluator's equations, one by one (no rfl: the kernel need not run them) -/

theorem ev_cst (Φ : Phi) (γ : List S2) (t : Bool) (d : D) : ev Φ γ t (.cst d) = tst t (some (.val d)) := by rw [ev] <;> rfl
theorem ev_loc (Φ : Phi) (γ : List S2) (t : Bool) (i : Nat) : ev Φ γ t (.loc i) = tst t (match γ[i]? with
    | some (.sh d) => some (.val d)
    | _ => none) := by rw [ev] <;> rfl
theorem ev_glo (Φ : Phi) (γ : List S2) (t : Bool) (n : Nat) : ev Φ γ t (.glo n) = tst t ((Φ.glob n).map .val) := by rw [ev] <;> rfl
theorem ev_kls (Φ : Phi) (γ : List S2) (t : Bool) (n : Nat) : ev Φ γ t (.kls n) = tst t (some (.val (.adr (Φ.ga n)))) := by rw [ev] <;> rfl
theorem ev_bin (Φ : Phi) (γ : List S2) (t : Bool) (op : Operator) (a : IE) (b : IE) : ev Φ γ t (.bin op a b) = tst t (RR.and (ev Φ γ false a) fun x => RR.and (ev Φ γ false b) fun y => binD op x y) := by rw [ev] <;> rfl
theorem ev_neg (Φ : Phi) (γ : List S2) (t : Bool) (a : IE) : ev Φ γ t (.neg a) = tst t (RR.and (ev Φ γ false a) negD) := by rw [ev] <;> rfl
theorem ev_not (Φ : Phi) (γ : List S2) (t : Bool) (a : IE) : ev Φ γ t (.not a) = RR.and (ev Φ γ t a) notD := by rw [ev] <;> rfl
theorem ev_and (Φ : Phi) (γ : List S2) (t : Bool) (a : IE) (b : IE) : ev Φ γ t (.and a b) = RR.and (ev Φ γ t a) fun
    | .bl true => ev Φ γ t b
    | .bl false => bv false
    | _ => none := by rw [ev] <;> rfl
theorem ev_or (Φ : Phi) (γ : List S2) (t : Bool) (a : IE) (b : IE) : ev Φ γ t (.or a b) = RR.and (ev Φ γ t a) fun
    | .bl true => bv true
    | .bl false => ev Φ γ t b
    | _ => none := by rw [ev] <;> rfl
theorem ev_ife (Φ : Phi) (γ : List S2) (c a b : IE) : ev Φ γ false (.ife c a b) = match bl? (ev Φ γ true c) with
      | some true => ev Φ γ false a
      | some false => ev Φ γ false b
      | none => none := by rw [ev] <;> rfl
theorem ev_cmp (Φ : Phi) (γ : List S2) (t : Bool) (op : CmpOp) (a : IE) (b : IE) : ev Φ γ t (.cmp op a b) = RR.and (ev Φ γ false a) fun x => RR.and (ev Φ γ false b) fun y => (cmpD op x y).bind bv := by rw [ev] <;> rfl
theorem ev_chn (Φ : Phi) (γ : List S2) (t : Bool) (op : CmpOp) (op' : CmpOp) (a : IE) (b : IE) (c : IE) : ev Φ γ t (.chn op op' a b c) = RR.and (ev Φ γ false a) fun x => RR.and (ev Φ γ false b) fun y => match cmpD op x y with
    | none => none
    | some false => bv false
    | some true => RR.and (ev Φ γ false c) fun z => (cmpD op' y z).bind bv := by rw [ev] <;> rfl
theorem ev_isc (Φ : Phi) (γ : List S2) (t : Bool) (n : Bool) (a : IE) (d : D) : ev Φ γ t (.isc n a d) = RR.and (ev Φ γ false a) fun x => (iscD d x).bind fun b => bv (if n then !b else b) := by rw [ev] <;> rfl
theorem ev_fn (Φ : Phi) (γ : List S2) (t : Bool) (f : Nat) (as : List IE) : ev Φ γ t (.fn f as) = tst t (evL Φ γ as fun ds => Φ.call f ds) := by rw [ev] <;> rfl
theorem ev_fnk (Φ : Phi) (γ : List S2) (t : Bool) (f : Nat) (p : Nat) (as : List IE) (kvs : List IE) : ev Φ γ t (.fnk f p as kvs) = tst t (evL Φ γ as fun ds => evL Φ γ kvs fun es => Φ.call f ((Φ.arr p).map (paD ds es))) := by rw [ev] <;> rfl
theorem ev_mk (Φ : Phi) (γ : List S2) (t : Bool) (f : Nat) (p : Nat) (as : List IE) (kvs : List IE) : ev Φ γ t (.mk f p as kvs) = tst t (evL Φ γ as fun ds => evL Φ γ kvs fun es => Φ.call f ((Φ.arr p).map (paD ds es))) := by rw [ev] <;> rfl
theorem ev_mth (Φ : Phi) (γ : List S2) (t : Bool) (o : IE) (m : Nat) (p : Nat) (as : List IE) (kvs : List IE) : ev Φ γ t (.mth o m p as kvs) = tst t (RR.and (ev Φ γ false o) fun x => match x with
    | .obj C fs => evL Φ γ as fun ds => evL Φ γ kvs fun es => if Φ.meth C m = some (Φ.pf p) ∧ (fs.lookup (Φ.mn m)).isNone = true then Φ.call (Φ.pf p) (.obj C fs :: (Φ.arr p).map (paD ds es)) else none
    | _ => none) := by rw [ev] <;> rfl
theorem ev_cm (Φ : Phi) (γ : List S2) (t : Bool) (c : Nat) (m : Nat) (p : Nat) (as : List IE) (kvs : List IE) : ev Φ γ t (.cm c m p as kvs) = tst t (evL Φ γ as fun ds => evL Φ γ kvs fun es => if Φ.cmeth c m = some (Φ.pf p) then Φ.call (Φ.pf p) (.adr (Φ.ga c) :: (Φ.arr p).map (paD ds es)) else none) := by rw [ev] <;> rfl
theorem ev_lmk (Φ : Phi) (γ : List S2) (t : Bool) (i : Nat) (as : List IE) : ev Φ γ t (.lmk i as) = tst t (match γ[i]? with
    | some (.sh (.adr C)) => (match Φ.ctor C with
      | some f => evL Φ γ as fun ds => Φ.call f ds
      | none => none)
    | _ => none) := by rw [ev] <;> rfl
theorem ev_bi (Φ : Phi) (γ : List S2) (t : Bool) (b : BI) (as : List IE) : ev Φ γ t (.bi b as) = tst t (evL Φ γ as fun ds => biD b ds) := by rw [ev] <;> rfl
theorem ev_bm (Φ : Phi) (γ : List S2) (t : Bool) (b : BM) (o : IE) (as : List IE) : ev Φ γ t (.bm b o as) = tst t (RR.and (ev Φ γ false o) fun x => if bmT b x then evL Φ γ as fun ds => bmD b x ds else none) := by rw [ev] <;> rfl
theorem ev_ins (Φ : Phi) (γ : List S2) (t : Bool) (a : IE) (n : Nat) : ev Φ γ t (.ins a n) = RR.and (ev Φ γ false a) fun x => match x with
    | .obj C _ => (Φ.isX C n).bind bv
    | _ => none := by rw [ev] <;> rfl
theorem ev_inb (Φ : Phi) (γ : List S2) (t : Bool) (a : IE) (n : String) : ev Φ γ t (.inb a n) = RR.and (ev Φ γ false a) fun x => match x.tyN with
    | some t => (kitB t n).bind bv
    | none => none := by rw [ev] <;> rfl
theorem ev_att (Φ : Phi) (γ : List S2) (t : Bool) (o : IE) (f : Str) : ev Φ γ t (.att o f) = tst t (RR.and (ev Φ γ false o) fun x => match x with
    | .obj C fs => if Φ.fld C f then (fs.lookup f).map .val else none
    | _ => none) := by rw [ev] <;> rfl
theorem ev_exa (Φ : Phi) (γ : List S2) (t : Bool) (i : Nat) (f : Str) : ev Φ γ t (.exa i f) = tst t (match γ[i]? with
    | some (.ex _ fs) => (fs.lookup f).map .val
    | _ => none) := by rw [ev] <;> rfl
theorem ev_exi (Φ : Phi) (γ : List S2) (t : Bool) (i : Nat) (n : Nat) : ev Φ γ t (.exi i n) = match γ[i]? with
    | some (.ex C _) => (Φ.isX C n).bind bv
    | _ => none := by rw [ev] <;> rfl
theorem ev_exb (Φ : Phi) (γ : List S2) (t : Bool) (i : Nat) (n : String) : ev Φ γ t (.exb i n) = match γ[i]? with
    | some (.ex C _) => (Φ.isB C n).bind bv
    | _ => none := by rw [ev] <;> rfl
theorem ev_con (Φ : Phi) (γ : List S2) (t : Bool) (c : Nat) (f : Str) : ev Φ γ t (.con c f) = tst t ((Φ.ccon c f).map .val) := by rw [ev] <;> rfl
theorem ev_sub (Φ : Phi) (γ : List S2) (t : Bool) (a : IE) (b : IE) : ev Φ γ t (.sub a b) = tst t (RR.and (ev Φ γ false a) fun x => RR.and (ev Φ γ false b) fun y => subD x y) := by rw [ev] <;> rfl
theorem ev_slc (Φ : Phi) (γ : List S2) (t : Bool) (a : IE) (lo : List IE) (hi : List IE) : ev Φ γ t (.slc a lo hi) = tst t (RR.and (ev Φ γ false a) fun x => match evO Φ γ lo, evO Φ γ hi with
    | some l, some h => slcD x l h
    | _, _ => none) := by rw [ev] <;> rfl
theorem ev_rev (Φ : Phi) (γ : List S2) (t : Bool) (a : IE) : ev Φ γ t (.rev a) = tst t (RR.and (ev Φ γ false a) fun x => match x with
    | .tup ds => some (.val (.tup ds.reverse))
    | _ => none) := by rw [ev] <;> rfl
theorem ev_lst (Φ : Phi) (γ : List S2) (t : Bool) (es : List IE) : ev Φ γ t (.lst es) = tst t (evL Φ γ es fun ds => if ds.length ≤ 100000 then some (.new ds) else none) := by rw [ev] <;> rfl
theorem ev_tup (Φ : Phi) (γ : List S2) (t : Bool) (es : List IE) : ev Φ γ t (.tup es) = tst t (evL Φ γ es fun ds => if ds.length ≤ 100000 then some (.val (.tup ds)) else none) := by rw [ev] <;> rfl
theorem ev_lc (Φ : Phi) (γ : List S2) (t : Bool) (elt : IE) (tg : List Nat) (k : IK) (its : List IE) (cond : List IE) : ev Φ γ t (.lc elt tg k its cond) = tst t (match (evD Φ γ its).bind (itms k) with
    | none => none
    | some items => if items.length ≤ 50000 then (lcGo (fun d => match put tg d (blk γ tg) with
      | none => none
      | some γ2 => match evC Φ γ2 cond with
        | some true => (RR.d? (ev Φ γ2 false elt)).map some
        | some false => some none
        | none => none) items).map .new else none) := by rw [ev] <;> rfl
theorem ev_lc2 (Φ : Phi) (γ : List S2) (t : Bool) (elt : IE) (t1 : List Nat) (k1 : IK) (its1 : List IE) (t2 : List Nat) (k2 : IK) (its2 : List IE) : ev Φ γ t (.lc2 elt t1 k1 its1 t2 k2 its2) = tst t (match (evD Φ γ its1).bind (itms k1) with
    | none => none
    | some items => if items.length ≤ 300 then (lcGo2 (fun d => match put t1 d (blk γ (t1 ++ t2)) with
      | none => none
      | some γ2 => match (evD Φ γ2 its2).bind (itms k2) with
        | none => none
        | some items2 => if items2.length ≤ 300 then lcGo (fun d2 => match put t2 d2 (blk γ2 t2) with
          | none => none
          | some γ3 => (RR.d? (ev Φ γ3 false elt)).map some) items2 else none) items).map .new else none) := by rw [ev] <;> rfl
theorem ev_gcd (Φ : Phi) (γ : List S2) (t : Bool) (as : List IE) : ev Φ γ t (.gcd as) = tst t (evL Φ γ as gcdD) := by rw [ev] <;> rfl
theorem ev_lrg (Φ : Phi) (γ : List S2) (t : Bool) (as : List IE) : ev Φ γ t (.lrg as) = tst t (evL Φ γ as lrgD) := by rw [ev] <;> rfl
theorem evS_asg (Φ : Phi) (v : Vw) (i : Nat) (e : IE) (γ : List S2) : evS Φ (.asg v i e) γ = match evP Φ γ v e with
    | some (γ1, r) => setS i γ1 r
    | none => none := by rw [evS] <;> rfl
theorem evS_asgs (Φ : Phi) (v : Vw) (tg : List Nat) (e : IE) (γ : List S2) : evS Φ (.asgs v tg e) γ = match evP Φ γ v e with
    | some (γ1, .val d) => (put tg d γ1).map .nx
    | some (γ1, .exc C fs) => some (.xc C fs γ1)
    | _ => none := by rw [evS] <;> rfl
theorem evS_seti (Φ : Phi) (v : Vw) (i : Nat) (ix : IE) (e : IE) (γ : List S2) : evS Φ (.seti v i ix e) γ = match evP Φ γ v e with
    | some (γ1, r) => (match RR.d? (some r), RR.d? (ev Φ (γ1.map S2.vwO) false ix), γ1[i]? with
      | some d, some (.int j), some (.ow ds) => (ixN ds.length j).map fun n => .nx (γ1.set i (.ow (ds.set n d)))
      | _, _, _ => none)
    | _ => none := by rw [evS] <;> rfl
theorem evS_app (Φ : Phi) (v : Vw) (i : Nat) (e : IE) (γ : List S2) : evS Φ (.app v i e) γ = match evP Φ γ v e with
    | some (γ1, r) => (match RR.d? (some r), γ1[i]? with
      | some d, some (.ow ds) => if ds.length < 100000 then some (.nx (γ1.set i (.ow (ds ++ [d])))) else none
      | _, _ => none)
    | _ => none := by rw [evS] <;> rfl
theorem evS_fld (Φ : Phi) (v : Vw) (f : Str) (e : IE) (γ : List S2) : evS Φ (.fld v f e) γ = match evP Φ γ v e with
    | some (γ1, r) => (match r, RR.d? (some r), (γ1[0]? : Option S2) with
      | .exc C fs, _, _ => some (.xc C fs γ1)
      | _, some d, some (.ob C fs) => if fs.length < 1000 ∧ Φ.fld C f = true then some (.nx (γ1.set 0 (.ob C (putFD f d fs)))) else none
      | _, _, _ => none)
    | _ => none := by rw [evS] <;> rfl
theorem evS_ret (Φ : Phi) (v : Vw) (e : IE) (γ : List S2) : evS Φ (.ret v e) γ = match evP Φ γ v e with
    | some (_, .val d) => some (.rt d)
    | some (_, .new ds) => some (.rn ds)
    | some (γ1, .exc C fs) => some (.xc C fs γ1)
    | none => none := by rw [evS] <;> rfl
theorem evS_reto (Φ : Phi) (i : Nat) (γ : List S2) : evS Φ (.reto i) γ = match γ[i]? with
    | some (.ow ds) => some (.rn ds)
    | _ => none := by rw [evS] <;> rfl
theorem evS_retN (Φ : Phi)  (γ : List S2) : evS Φ (.retN ) γ = some (.rt .non) := by rw [evS] <;> rfl
theorem evS_ite (Φ : Phi) (c : IE) (a : List IS) (b : List IS) (γ : List S2) : evS Φ (.ite c a b) γ = match ev Φ (γ.map S2.vwO) true c with
    | some (.val (.bl true)) => evSs Φ a γ
    | some (.val (.bl false)) => evSs Φ b γ
    | _ => none := by rw [evS] <;> rfl
theorem evS_for (Φ : Phi) (us : List Nat) (tg : List Nat) (k : IK) (its : List IE) (body : List IS) (γ : List S2) : evS Φ (.for us tg k its body) γ = (match (evD Φ (frz γ us) its).bind (itms k) with
    | some items => forGo (put tg) (fun γ1 => evSs Φ body γ1) items (frz γ us)
    | none => none) := by rw [evS] <;> rfl
theorem evS_raise (Φ : Phi) (v : Vw) (C : Nat) (e : IE) (γ : List S2) : evS Φ (.raise v C e) γ = match evP Φ γ v e with
    | some (γ1, .val d) => (Φ.efld C).map fun f => .xc (Φ.ga C) [(f, d)] γ1
    | _ => none := by rw [evS] <;> rfl
theorem evS_exp (Φ : Phi) (v : Vw) (e : IE) (γ : List S2) : evS Φ (.exp v e) γ = match evP Φ γ v e with
    | some (γ1, .exc C fs) => some (.xc C fs γ1)
    | some (γ1, _) => some (.nx γ1)
    | none => none := by rw [evS] <;> rfl
theorem evS_try (Φ : Phi) (body : List IS) (C : Nat) (i : Nat) (suite : List IS) (γ : List S2) : evS Φ (.try body C i suite) γ = match evSs Φ body γ with
    | some (.xc A fs γ1) => (match Φ.isX A C with
      | some true => (match evSs Φ suite (γ1.set i (.ex A fs)) with
        | some (.nx γ2) => some (.nx (γ2.set i .no))
        | some (.rt d) => some (.rt d)
        | some (.rn ds) => some (.rn ds)
        | _ => none)
      | _ => none)
    | o => o := by rw [evS] <;> rfl
theorem evS_pass (Φ : Phi)  (γ : List S2) : evS Φ (.pass ) γ = some (.nx γ) := by rw [evS] <;> rfl
theorem evS_brk (Φ : Phi)  (γ : List S2) : evS Φ (.brk ) γ = some (.bk γ) := by rw [evS] <;> rfl
theorem evS_cont (Φ : Phi)  (γ : List S2) : evS Φ (.cont ) γ = some (.ct γ) := by rw [evS] <;> rfl
theorem evSs_nil (Φ : Phi) (γ : List S2) : evSs Φ [] γ = some (.nx γ) := by rw [evSs]
theorem evSs_cons (Φ : Phi) (i : IS) (r : List IS) (γ : List S2) : evSs Φ (i :: r) γ = Out.then (evS Φ i γ) (evSs Φ r) := by rw [evSs] <;> rfl
theorem evL_nil (Φ : Phi) (γ : List S2) (k : List D → Option RR) : evL Φ γ [] k = k [] := by rw [evL]
theorem evL_cons (Φ : Phi) (γ : List S2) (e : IE) (es : List IE) (k : List D → Option RR) : evL Φ γ (e :: es) k = RR.and (ev Φ γ false e) fun d => evL Φ γ es fun ds => k (d :: ds) := by rw [evL]
theorem evC_nil (Φ : Phi) (γ : List S2) : evC Φ γ [] = some true := by rw [evC]
theorem evC_cons (Φ : Phi) (γ : List S2) (e : IE) (es : List IE) : evC Φ γ (e :: es) = bl? (ev Φ γ true e) := by rw [evC]
theorem evO_nil (Φ : Phi) (γ : List S2) : evO Φ γ [] = some none := by rw [evO]
theorem evO_cons (Φ : Phi) (γ : List S2) (e : IE) (es : List IE) : evO Φ γ (e :: es) = match RR.d? (ev Φ γ false e) with
    | some (.int i) => some (some i)
    | _ => none := by rw [evO] <;> rfl
theorem evD_nil (Φ : Phi) (γ : List S2) : evD Φ γ [] = some [] := by rw [evD]
theorem evD_cons (Φ : Phi) (γ : List S2) (e : IE) (es : List IE) : evD Φ γ (e :: es) = match RR.d? (ev Φ γ false e), evD Φ γ es with
    | some d, some ds => some (d :: ds)
    | _, _ => none := by rw [evD] <;> rfl
theorem then_nx (γ : List S2) (k : List S2 → Option Out) : Out.then (some (.nx γ)) k = k γ := by unfold Out.then; rfl
theorem then_rt (d : D) (k : List S2 → Option Out) : Out.then (some (.rt d)) k = some (.rt d) := by unfold Out.then; rfl
theorem then_rn (d : List D) (k : List S2 → Option Out) : Out.then (some (.rn d)) k = some (.rn d) := by unfold Out.then; rfl
theorem then_bk (d : List S2) (k : List S2 → Option Out) : Out.then (some (.bk d)) k = some (.bk d) := by unfold Out.then; rfl
theorem and_val (d : D) (k : D → Option RR) : RR.and (some (.val d)) k = k d := by unfold RR.and; rfl
theorem and_new (d : List D) (k : D → Option RR) : RR.and (some (.new d)) k = k (.lst d) := by unfold RR.and; rfl
theorem tst_f (r : Option RR) : tst false r = r := by unfold tst; rfl
theorem forGo_nil (p : D → List S2 → Option (List S2)) (f : List S2 → Option Out) (γ : List S2) : forGo p f [] γ = some (.nx γ) := by unfold forGo; rfl
theorem forGo_cons (p : D → List S2 → Option (List S2)) (f : List S2 → Option Out) (d : D) (r : List D) (γ γ1 : List S2) (h : p d γ = some γ1) : forGo p f (d :: r) γ = match f γ1 with
      | some (.nx γ2) => forGo p f r γ2
      | some (.ct γ2) => forGo p f r γ2
      | some (.bk γ2) => some (.nx γ2)
      | o => o := by
  rw [forGo]
  rw [h] <;> rfl
theorem forGo_nx (p : D → List S2 → Option (List S2)) (f : List S2 → Option Out) (d : D) (r : List D) (γ γ1 γ2 : List S2) (h : p d γ = some γ1) (h2 : f γ1 = some (.nx γ2)) : forGo p f (d :: r) γ = forGo p f r γ2 := by
  rw [forGo_cons p f d r γ γ1 h, h2]
theorem forGo_bk (p : D → List S2 → Option (List S2)) (f : List S2 → Option Out) (d : D) (r : List D) (γ γ1 γ2 : List S2) (h : p d γ = some γ1) (h2 : f γ1 = some (.bk γ2)) : forGo p f (d :: r) γ = some (.nx γ2) := by
  rw [forGo_cons p f d r γ γ1 h, h2]
/-! ### steps: a statement's own evaluation is a fact apart -/
section
variable {Φ : Phi} {γ γ1 γ2 : List S2} {r : List IS} {i : Nat} {v : Vw} {e c : IE} {a b : List IS} {d : D} {ds : List D} {o : Option Out}
theorem st_nx {s : IS} (h : evS Φ s γ = some (.nx γ2)) : evSs Φ (s :: r) γ = evSs Φ r γ2 := by rw [evSs_cons, h, then_nx]
theorem st_rt {s : IS} (h : evS Φ s γ = some (.rt d)) : evSs Φ (s :: r) γ = some (.rt d) := by rw [evSs_cons, h, then_rt]
theorem st_rn {s : IS} (h : evS Φ s γ = some (.rn ds)) : evSs Φ (s :: r) γ = some (.rn ds) := by rw [evSs_cons, h, then_rn]
theorem st_bk {s : IS} (h : evS Φ s γ = some (.bk γ2)) : evSs Φ (s :: r) γ = some (.bk γ2) := by rw [evSs_cons, h, then_bk]
theorem ex_pl {x : RR} (h : ev Φ γ false e = some x) : evP Φ γ .pl e = some (γ, x) := by rw [show evP Φ γ .pl e = (ev Φ γ false e).map fun r => (γ, r) from rfl, h]; rfl
theorem ex_fz {x : RR} {us : List Nat} (h : ev Φ (frz γ us) false e = some x) : evP Φ γ (.fz us) e = some (frz γ us, x) := by rw [show evP Φ γ (.fz us) e = (ev Φ (frz γ us) false e).map fun r => (frz γ us, r) from rfl, h]; rfl
theorem ex_vw {x : RR} (h : ev Φ (γ.map S2.vwL) false e = some x) (hn : x.na = true) : evP Φ γ .vw e = some (γ, x) := by
  rw [show evP Φ γ .vw e = (ev Φ (γ.map S2.vwL) false e).bind fun r => if r.na then some (γ, r) else none from rfl, h]
  exact if_pos hn
theorem ex_vo {x : RR} (h : ev Φ (γ.map S2.vwO) false e = some x) (hn : x.sc = true) : evP Φ γ .vo e = some (γ, x) := by
  rw [show evP Φ γ .vo e = (ev Φ (γ.map S2.vwO) false e).bind fun r => if r.sc then some (γ, r) else none from rfl, h]
  exact if_pos hn
theorem asg_v (h : evP Φ γ v e = some (γ1, .val d)) : evS Φ (.asg v i e) γ = some (.nx (γ1.set i (.sh d))) := by rw [evS_asg, h] <;> rfl
theorem asg_n (h : evP Φ γ v e = some (γ1, .new ds)) : evS Φ (.asg v i e) γ = some (.nx (γ1.set i (.ow ds))) := by rw [evS_asg, h] <;> rfl
theorem asgs_v {tg : List Nat} (h : evP Φ γ v e = some (γ1, .val d)) (hp : put tg d γ1 = some γ2) : evS Φ (.asgs v tg e) γ = some (.nx γ2) := by
  rw [evS_asgs, h]
  show (put tg d γ1).map Out.nx = _
  rw [hp]; rfl
theorem ret_v (h : evP Φ γ v e = some (γ1, .val d)) : evS Φ (.ret v e) γ = some (.rt d) := by rw [evS_ret, h] <;> rfl
theorem ret_n (h : evP Φ γ v e = some (γ1, .new ds)) : evS Φ (.ret v e) γ = some (.rn ds) := by rw [evS_ret, h] <;> rfl
theorem ite_t (h : ev Φ (γ.map S2.vwO) true c = some (.val (.bl true))) : evS Φ (.ite c a b) γ = evSs Φ a γ := by rw [evS_ite, h] <;> rfl
theorem ite_f (h : ev Φ (γ.map S2.vwO) true c = some (.val (.bl false))) : evS Φ (.ite c a b) γ = evSs Φ b γ := by rw [evS_ite, h] <;> rfl
theorem ite_f0 (h : ev Φ (γ.map S2.vwO) true c = some (.val (.bl false))) : evS Φ (.ite c a []) γ = some (.nx γ) := by rw [ite_f h, evSs_nil]
theorem for_ {us tg : List Nat} {k : IK} {its : List IE} {body : List IS} {items : List D} (h : (evD Φ (frz γ us) its).bind (itms k) = some items) : evS Φ (.for us tg k its body) γ = forGo (put tg) (fun γ1 => evSs Φ body γ1) items (frz γ us) := by rw [evS_for, h]
theorem loc_v {j : Nat} (h : γ[j]? = some (.sh d)) : ev Φ γ false (.loc j) = some (.val d) := by rw [ev_loc, h] <;> rfl
theorem evD1_v (h : ev Φ γ false e = some (.val d)) : evD Φ γ [e] = some [d] := by rw [evD_cons, evD_nil, h] <;> rfl
theorem evD1_n (h : ev Φ γ false e = some (.new ds)) : evD Φ γ [e] = some [.lst ds] := by rw [evD_cons, evD_nil, h] <;> rfl
theorem evD2_v {e2 : IE} {d2 : D} (h : ev Φ γ false e = some (.val d)) (h2 : ev Φ γ false e2 = some (.val d2)) : evD Φ γ [e, e2] = some [d, d2] := by rw [evD_cons, evD1_v h2, h] <;> rfl
theorem for1 {us tg : List Nat} {k : IK} {body : List IS} {items : List D} (h : ev Φ (frz γ us) false e = some (.val d)) (hi : itms k [d] = some items) : evS Φ (.for us tg k [e] body) γ = forGo (put tg) (fun γ1 => evSs Φ body γ1) items (frz γ us) := by rw [evS_for, evD1_v h, Option.bind_some, hi]
theorem for2 {us tg : List Nat} {k : IK} {body : List IS} {items : List D} {e2 : IE} {d2 : D} (h : ev Φ (frz γ us) false e = some (.val d)) (h2 : ev Φ (frz γ us) false e2 = some (.val d2)) (hi : itms k [d, d2] = some items) : evS Φ (.for us tg k [e, e2] body) γ = forGo (put tg) (fun γ1 => evSs Φ body γ1) items (frz γ us) := by rw [evS_for, evD2_v h h2, Option.bind_some, hi]
theorem fn_1 {f : Nat} {e1 : IE} {d1 : D} (h1 : ev Φ γ false e1 = some (.val d1)) : ev Φ γ false (.fn f [e1]) = Φ.call f [d1] := by rw [ev_fn, evL_cons, h1, and_val, evL_nil, tst_f]
theorem fn_2 {f : Nat} {e1 e2 : IE} {d1 d2 : D} (h1 : ev Φ γ false e1 = some (.val d1)) (h2 : ev Φ γ false e2 = some (.val d2)) : ev Φ γ false (.fn f [e1, e2]) = Φ.call f [d1, d2] := by rw [ev_fn, evL_cons, h1, and_val, evL_cons, h2, and_val, evL_nil, tst_f]
theorem fn_3 {f : Nat} {e1 e2 e3 : IE} {d1 d2 d3 : D} (h1 : ev Φ γ false e1 = some (.val d1)) (h2 : ev Φ γ false e2 = some (.val d2)) (h3 : ev Φ γ false e3 = some (.val d3)) : ev Φ γ false (.fn f [e1, e2, e3]) = Φ.call f [d1, d2, d3] := by rw [ev_fn, evL_cons, h1, and_val, evL_cons, h2, and_val, evL_cons, h3, and_val, evL_nil, tst_f]
theorem cst_v (x : D) : ev Φ γ false (.cst x) = some (.val x) := by rw [ev_cst, tst_f]
theorem bin_v {op : Operator} {e1 e2 : IE} {d1 d2 : D} {x : RR} (h1 : ev Φ γ false e1 = some (.val d1)) (h2 : ev Φ γ false e2 = some (.val d2)) (h : binD op d1 d2 = some x) : ev Φ γ false (.bin op e1 e2) = some x := by rw [ev_bin, h1, and_val, h2, and_val, tst_f, h]
theorem sub_v {e1 e2 : IE} {d1 d2 : D} {x : RR} (h1 : ev Φ γ false e1 = some (.val d1)) (h2 : ev Φ γ false e2 = some (.val d2)) (h : subD d1 d2 = some x) : ev Φ γ false (.sub e1 e2) = some x := by rw [ev_sub, h1, and_val, h2, and_val, tst_f, h]
theorem cmp_v {op : CmpOp} {e1 e2 : IE} {d1 d2 : D} {q t : Bool} (h1 : ev Φ γ false e1 = some (.val d1)) (h2 : ev Φ γ false e2 = some (.val d2)) (h : cmpD op d1 d2 = some q) : ev Φ γ t (.cmp op e1 e2) = some (.val (.bl q)) := by rw [ev_cmp, h1, and_val, h2, and_val, h] <;> rfl
theorem bi1_v {k : BI} {e1 : IE} {d1 : D} {x : RR} (h1 : ev Φ γ false e1 = some (.val d1)) (h : biD k [d1] = some x) : ev Φ γ false (.bi k [e1]) = some x := by rw [ev_bi, evL_cons, h1, and_val, evL_nil, tst_f, h]
theorem bi1_n {k : BI} {e1 : IE} {d1 : List D} {x : RR} (h1 : ev Φ γ false e1 = some (.new d1)) (h : biD k [.lst d1] = some x) : ev Φ γ false (.bi k [e1]) = some x := by rw [ev_bi, evL_cons, h1, and_new, evL_nil, tst_f, h]
theorem app_ {x : RR} (h : evP Φ γ v e = some (γ1, x)) (hd : RR.d? (some x) = some d) (hi : γ1[i]? = some (.ow ds)) (hl : ds.length < 100000) : evS Φ (.app v i e) γ = some (.nx (γ1.set i (.ow (ds ++ [d])))) := by
  rw [evS_app, h]
  dsimp only
  rw [hd, hi]
  exact if_pos hl
end
end Ev
end

section
set_option autoImplicit false
set_option Elab.async false
set_option linter.all false
set_option maxRecDepth 100000
set_option maxHeartbeats 4000000
namespace L39
open PySem PySem.Spec L2 Pd Ev
theorem ir10_eq : ir10 = [.asg .pl 3 (.lst []), .asg .pl 4 (.loc 0), .for [] [5] .rg [(.loc 1)] drB, .ret (.fz [3]) (.loc 3)] := rfl
theorem okr {n : Nat} (hn : n < 1000) : okRg (n : Int) := ⟨by omega, by omega⟩
theorem rng0 (n : Nat) : rngD 0 n = ((List.range n).map fun i : Nat => (i : Int)).map D.int := by
  unfold rngD
  rw [List.map_map]
  apply List.map_congr_left
  intro a _
  simp
theorem rng0_in (n : Nat) (h : n < 1000) : In 0 100000 ((List.range n).map fun i : Nat => (i : Int)) := fun z hz => by
  obtain ⟨a, ha, rfl⟩ := List.mem_map.mp hz
  have := List.mem_range.mp ha
  exact ⟨by omega, by omega⟩
theorem runF_eq {Φ : Phi} {e : En} {ds : List D} {γ : List S2} {o : Out} {r : RR} (h : ds.length = e.ps.length) (hg : stF e.N ds = γ) (ho : evSs Φ e.ir γ = some o) (hr : o.toF = some r) : runF Φ e ds = some r := by
  unfold runF
  rw [if_pos h, hg, ho]
  exact hr
theorem it_rg0 {n : Nat} (hn : n < 1000) : itms .rg [D.int (n : Int)] = some (rngD 0 n) := by
  have z : itms .rg [D.int (n : Int)] = if okRg (n : Int) then some (rngD 0 (n : Int).toNat) else none := by rw [itms]
  rw [z, if_pos (okr hn), Int.toNat_natCast]
theorem ev_new0 (Φ : Phi) (γ : List S2) : ev Φ γ false (.lst []) = some (.new []) := by
  rw [ev_lst, evL_nil]
  rfl
theorem e_draws (C : Addr) (k : Nat) (c s : Int) (n : Nat) (hs : 0 < s) (hs2 : s < 100000) (hn : n < 1000) : ∃ xs : List Int, xs.length = n ∧ In 0 s xs ∧ CA C (k + 2) 10 [.int c, .int n, .int s] = some (.val (.lst (xs.map .int))) := by
  rw [ca_fn (e := ⟨N10, ps10, ir10, none⟩) rfl rfl]
  obtain ⟨xs, r, y2, e1, e2, e3⟩ := dr_go C k c s (.sh (.int n)) hs hs2 ((List.range n).map fun i : Nat => (i : Int)) (rng0_in n hn) c [] .no (by simp; omega) (fun z hz => by cases hz)
  refine ⟨xs, by rw [e1]; simp, e2, ?_⟩
  rw [← rng0, List.map_nil] at e3
  have ok := okr hn
  refine runF_eq (γ := [.sh (.int c), .sh (.int n), .sh (.int s), .no, .no, .no]) (o := .rt (.lst (xs.map .int))) rfl rfl ?_ rfl
  show evSs _ ir10 _ = _
  rw [ir10_eq, st_nx (asg_n (ex_pl (ev_new0 _ _))), st_nx (asg_v (ex_pl (show ev _ _ false (.loc 0) = some (.val (.int c)) by rw [ev_loc]; rfl)))]
  rw [st_nx ((for1 (d := .int n) (items := rngD 0 n) (loc_v rfl) (it_rg0 hn)).trans e3)]
  exact st_rt (ret_v (ex_fz (loc_v rfl)))
end L39
end

section
set_option autoImplicit false
set_option Elab.async false
set_option linter.all false
set_option maxRecDepth 100000
set_option maxHeartbeats 4000000
namespace L39
open PySem PySem.Spec L2 Pd Ev
section
variable {Φ : Phi} {γ : List S2} {e1 e2 : IE} {t : Bool}
theorem eq_i {i j : Int} {q : Bool} (h1 : ev Φ γ false e1 = some (.val (.int i))) (h2 : ev Φ γ false e2 = some (.val (.int j))) (h : decide (i = j) = q) : ev Φ γ t (.cmp .Eq e1 e2) = some (.val (.bl q)) := cmp_v h1 h2 (by subst h; rfl)
theorem lt_i {i j : Int} {q : Bool} (h1 : ev Φ γ false e1 = some (.val (.int i))) (h2 : ev Φ γ false e2 = some (.val (.int j))) (h : decide (i < j) = q) : ev Φ γ t (.cmp .Lt e1 e2) = some (.val (.bl q)) := cmp_v h1 h2 (by subst h; rfl)
theorem le_i {i j : Int} {q : Bool} (h1 : ev Φ γ false e1 = some (.val (.int i))) (h2 : ev Φ γ false e2 = some (.val (.int j))) (h : decide (i ≤ j) = q) : ev Φ γ t (.cmp .LtE e1 e2) = some (.val (.bl q)) := cmp_v h1 h2 (by subst h; rfl)
theorem gt_i {i j : Int} {q : Bool} (h1 : ev Φ γ false e1 = some (.val (.int i))) (h2 : ev Φ γ false e2 = some (.val (.int j))) (h : decide (j < i) = q) : ev Φ γ t (.cmp .Gt e1 e2) = some (.val (.bl q)) := cmp_v h1 h2 (by subst h; rfl)
theorem ge_i {i j : Int} {q : Bool} (h1 : ev Φ γ false e1 = some (.val (.int i))) (h2 : ev Φ γ false e2 = some (.val (.int j))) (h : decide (j ≤ i) = q) : ev Φ γ t (.cmp .GtE e1 e2) = some (.val (.bl q)) := cmp_v h1 h2 (by subst h; rfl)
theorem or_t (h1 : ev Φ γ t e1 = some (.val (.bl true))) : ev Φ γ t (.or e1 e2) = some (.val (.bl true)) := by rw [ev_or, h1, and_val] <;> rfl
theorem or_f {x : Option RR} (h1 : ev Φ γ t e1 = some (.val (.bl false))) (h2 : ev Φ γ t e2 = x) : ev Φ γ t (.or e1 e2) = x := by rw [ev_or, h1, and_val] <;> exact h2
theorem and_t {x : Option RR} (h1 : ev Φ γ t e1 = some (.val (.bl true))) (h2 : ev Φ γ t e2 = x) : ev Φ γ t (.and e1 e2) = x := by rw [ev_and, h1, and_val] <;> exact h2
theorem and_f (h1 : ev Φ γ t e1 = some (.val (.bl false))) : ev Φ γ t (.and e1 e2) = some (.val (.bl false)) := by rw [ev_and, h1, and_val] <;> rfl
theorem not_v {q : Bool} (h1 : ev Φ γ t e1 = some (.val (.bl q))) : ev Φ γ t (.not e1) = some (.val (.bl (!q))) := by rw [ev_not, h1, and_val] <;> rfl
theorem add_i {i j : Int} (h1 : ev Φ γ false e1 = some (.val (.int i))) (h2 : ev Φ γ false e2 = some (.val (.int j))) : ev Φ γ false (.bin .Add e1 e2) = some (.val (.int (i + j))) := bin_v h1 h2 rfl
theorem sub_i {i j : Int} (h1 : ev Φ γ false e1 = some (.val (.int i))) (h2 : ev Φ γ false e2 = some (.val (.int j))) : ev Φ γ false (.bin .Sub e1 e2) = some (.val (.int (i - j))) := bin_v h1 h2 rfl
theorem mul_i {i j : Int} (h1 : ev Φ γ false e1 = some (.val (.int i))) (h2 : ev Φ γ false e2 = some (.val (.int j))) (ok : okMul i j) : ev Φ γ false (.bin .Mult e1 e2) = some (.val (.int (i * j))) := bin_v h1 h2 (if_pos ok)
theorem mod_i {i j : Int} (h1 : ev Φ γ false e1 = some (.val (.int i))) (h2 : ev Φ γ false e2 = some (.val (.int j))) (ok : 0 < j) : ev Φ γ false (.bin .Mod e1 e2) = some (.val (.int (i % j))) := bin_v h1 h2 (if_pos ok)
theorem div_i {i j : Int} (h1 : ev Φ γ false e1 = some (.val (.int i))) (h2 : ev Φ γ false e2 = some (.val (.int j))) (ok : okDiv j) : ev Φ γ false (.bin .FloorDiv e1 e2) = some (.val (.int (i / j))) := bin_v h1 h2 (if_pos ok)
theorem int_i {i : Int} (h1 : ev Φ γ false e1 = some (.val (.int i))) : ev Φ γ false (.bi .int [e1]) = some (.val (.int i)) := bi1_v h1 rfl
end
def mkS (a b c : Int) : Str := if a = c then (if b = a then "quiet" else "odd") else if b = a ∨ b = c then "edge" else "strife"
theorem e_mark (C : Addr) (k : Nat) (a b c : Int) : CA C (k + 1) 12 [.int a, .int b, .int c] = some (.val (.str (mkS a b c))) := by
  rw [ca_fn (e := ⟨N12, ps12, ir12, none⟩) rfl rfl]
  refine runF_eq (γ := [.sh (.int a), .sh (.int b), .sh (.int c)]) (o := .rt (.str (mkS a b c))) rfl rfl ?_ rfl
  unfold mkS
  by_cases h1 : a = c
  · rw [if_pos h1]
    refine st_rt ((ite_t (eq_i (loc_v rfl) (loc_v rfl) (decide_eq_true h1))).trans ?_)
    by_cases h2 : b = a
    · rw [if_pos h2]
      exact st_rt ((ite_t (eq_i (loc_v rfl) (loc_v rfl) (decide_eq_true h2))).trans (st_rt (ret_v (ex_pl (cst_v _)))))
    · rw [if_neg h2, st_nx (ite_f0 (eq_i (loc_v rfl) (loc_v rfl) (decide_eq_false h2)))]
      exact st_rt (ret_v (ex_pl (cst_v _)))
  · rw [if_neg h1]
    unfold ir12
    rw [st_nx (ite_f0 (eq_i (loc_v rfl) (loc_v rfl) (decide_eq_false h1)))]
    by_cases h2 : b = a
    · rw [if_pos (.inl h2)]
      exact st_rt ((ite_t (or_t (eq_i (loc_v rfl) (loc_v rfl) (decide_eq_true h2)))).trans (st_rt (ret_v (ex_pl (cst_v _)))))
    · by_cases h3 : b = c
      · rw [if_pos (.inr h3)]
        exact st_rt ((ite_t (or_f (eq_i (loc_v rfl) (loc_v rfl) (decide_eq_false h2)) (eq_i (loc_v rfl) (loc_v rfl) (decide_eq_true h3)))).trans (st_rt (ret_v (ex_pl (cst_v _)))))
      · rw [if_neg (fun z => z.elim h2 h3), st_nx (ite_f0 (or_f (eq_i (loc_v rfl) (loc_v rfl) (decide_eq_false h2)) (eq_i (loc_v rfl) (loc_v rfl) (decide_eq_false h3))))]
        exact st_rt (ret_v (ex_pl (cst_v _)))
end L39
end

section
set_option autoImplicit false
set_option Elab.async false
set_option linter.all false
set_option maxRecDepth 100000
set_option maxHeartbeats 4000000
namespace L39
open PySem PySem.Spec L2 Pd Ev
section
variable {Φ : Phi} {γ : List S2} {e1 e2 e3 : IE} {t : Bool}
theorem ife_t {x : Option RR} (h : ev Φ γ true e1 = some (.val (.bl true))) (h2 : ev Φ γ false e2 = x) : ev Φ γ false (.ife e1 e2 e3) = x := by
  rw [ev_ife, h] <;> exact h2
theorem ife_f {x : Option RR} (h : ev Φ γ true e1 = some (.val (.bl false))) (h2 : ev Φ γ false e3 = x) : ev Φ γ false (.ife e1 e2 e3) = x := by
  rw [ev_ife, h] <;> exact h2
theorem lst_cs (cs : List D) (k : List D → Option RR) : evL Φ γ (cs.map .cst) k = k cs := by
  induction cs generalizing k with
  | nil => rw [List.map_nil, evL_nil]
  | cons c r ih => rw [List.map_cons, evL_cons, cst_v, and_val, ih]
theorem lst_c (cs : List D) (h : cs.length ≤ 100000) : ev Φ γ false (.lst (cs.map .cst)) = some (.new cs) := by
  rw [ev_lst, tst_f, lst_cs, if_pos h]
theorem sub_n {ds : List D} {d2 : D} {x : RR} (h1 : ev Φ γ false e1 = some (.new ds)) (h2 : ev Φ γ false e2 = some (.val d2)) (h : subD (.lst ds) d2 = some x) : ev Φ γ false (.sub e1 e2) = some x := by rw [ev_sub, h1, and_new, h2, and_val, tst_f, h]
theorem atI_int {xs : List Int} {i : Int} (h0 : 0 ≤ i) (h : i.toNat < xs.length) : atI (xs.map D.int) i = some (.int (xs.getD i.toNat 0)) := by
  unfold atI ixN
  simp [h0]
  have : i < (xs.length : Int) := by omega
  simp [this, List.getD_eq_getElem?_getD, List.getElem?_eq_getElem h]
theorem sub_li {xs : List Int} {i : Int} (h1 : ev Φ γ false e1 = some (.val (.lst (xs.map .int)))) (h2 : ev Φ γ false e2 = some (.val (.int i))) (h0 : 0 ≤ i) (h : i.toNat < xs.length) : ev Φ γ false (.sub e1 e2) = some (.val (.int (xs.getD i.toNat 0))) := sub_v h1 h2 (by show (atI _ i).map RR.val = _; rw [atI_int h0 h]; rfl)
theorem sub_ln {xs : List Int} {i : Int} (h1 : ev Φ γ false e1 = some (.new (xs.map .int))) (h2 : ev Φ γ false e2 = some (.val (.int i))) (h0 : 0 ≤ i) (h : i.toNat < xs.length) : ev Φ γ false (.sub e1 e2) = some (.val (.int (xs.getD i.toNat 0))) := sub_n h1 h2 (by show (atI _ i).map RR.val = _; rw [atI_int h0 h]; rfl)
theorem lcGo_map {F : D → Option (Option D)} {f : D → D} : ∀ {items : List D}, (∀ d ∈ items, F d = some (some (f d))) → lcGo F items = some (items.map f)
  | [], _ => by unfold lcGo; rfl
  | d :: r, h => by
    unfold lcGo
    rw [h d (List.mem_cons_self ..), lcGo_map fun x hx => h x (List.mem_cons_of_mem _ hx)] <;> rfl
theorem lc_map {items : List D} {f : D → D} {elt : IE} {tg : List Nat} {k : IK} {its : List IE} (hs : (evD Φ γ its).bind (itms k) = some items) (hz : items.length ≤ 50000) (he : ∀ d ∈ items, ∃ γ2, put tg d (blk γ tg) = some γ2 ∧ ev Φ γ2 false elt = some (.val (f d))) : ev Φ γ false (.lc elt tg k its []) = some (.new (items.map f)) := by
  rw [ev_lc, tst_f, hs]
  show (if items.length ≤ 50000 then _ else _) = _
  rw [if_pos hz, lcGo_map (f := f) fun d hd => ?_]
  · rfl
  · obtain ⟨γ2, h1, h2⟩ := he d hd
    rw [h1]
    dsimp only
    rw [evC_nil, h2]
    rfl
theorem it_vl1 {e : IE} {ds : List D} (h : ev Φ γ false e = some (.val (.lst ds))) : (evD Φ γ [e]).bind (itms .vl) = some ds := by rw [evD1_v h, Option.bind_some] <;> rfl
end
theorem e_markof (C : Addr) (k : Nat) (a b c : Int) : CA C (k + 1) 1 [.int a, .int b, .int c] = some (.val (.str (mkS a b c))) := by
  rw [ca_fn (e := ⟨N1, ps1, ir1, none⟩) rfl rfl]
  refine runF_eq (γ := [.sh (.int a), .sh (.int b), .sh (.int c)]) (o := .rt (.str (mkS a b c))) rfl rfl ?_ rfl
  unfold mkS
  by_cases h1 : a = c
  · rw [if_pos h1]
    refine st_rt ((ite_t (eq_i (loc_v rfl) (loc_v rfl) (decide_eq_true h1))).trans ?_)
    by_cases h2 : b = a
    · rw [if_pos h2]
      exact st_rt (ret_v (ex_pl (ife_t (eq_i (loc_v rfl) (loc_v rfl) (decide_eq_true h2)) (cst_v _))))
    · rw [if_neg h2]
      exact st_rt (ret_v (ex_pl (ife_f (eq_i (loc_v rfl) (loc_v rfl) (decide_eq_false h2)) (cst_v _))))
  · rw [if_neg h1]
    unfold ir1
    rw [st_nx (ite_f0 (eq_i (loc_v rfl) (loc_v rfl) (decide_eq_false h1)))]
    by_cases h2 : b = a
    · rw [if_pos (.inl h2)]
      exact st_rt ((ite_t (or_t (eq_i (loc_v rfl) (loc_v rfl) (decide_eq_true h2)))).trans (st_rt (ret_v (ex_pl (cst_v _)))))
    · by_cases h3 : b = c
      · rw [if_pos (.inr h3)]
        exact st_rt ((ite_t (or_f (eq_i (loc_v rfl) (loc_v rfl) (decide_eq_false h2)) (eq_i (loc_v rfl) (loc_v rfl) (decide_eq_true h3)))).trans (st_rt (ret_v (ex_pl (cst_v _)))))
      · rw [if_neg (fun z => z.elim h2 h3), st_nx (ite_f0 (or_f (eq_i (loc_v rfl) (loc_v rfl) (decide_eq_false h2)) (eq_i (loc_v rfl) (loc_v rfl) (decide_eq_false h3))))]
        exact st_rt (ret_v (ex_pl (cst_v _)))
def MK : List D := [.str "quiet", .str "odd", .str "edge", .str "strife"]
theorem e_marks (C : Addr) (k : Nat) : CA C (k + 1) 20 [] = some (.new MK) := by
  rw [ca_fn (e := ⟨N20, ps20, ir20, none⟩) rfl rfl]
  refine runF_eq (γ := []) (o := .rn MK) rfl rfl ?_ rfl
  exact st_rn (ret_n (ex_pl (lst_c MK (by decide))))
end L39
end

section
set_option autoImplicit false
set_option Elab.async false
set_option linter.all false
set_option maxRecDepth 100000
set_option maxHeartbeats 4000000
namespace L39
open PySem PySem.Spec L2 Pd Ev
def V8 : List Int := [1, 2, 2, 3, 3, 4, 6, 24]
def V4 : List Int := [1, 7, 333, 999]
theorem V8_in : In 1 25 V8 := by unfold In V8; decide
theorem V4_in : In 1 1000 V4 := by unfold In V4; decide
theorem In.at {a b : Int} {xs : List Int} (h : In a b xs) {i : Nat} (hi : i < xs.length) : a ≤ xs.getD i 0 ∧ xs.getD i 0 < b := by
  rw [List.getD_eq_getElem?_getD, List.getElem?_eq_getElem hi]
  exact h _ (List.getElem_mem hi)
theorem mod_nn (a b : Int) (h : 0 < b) : 0 ≤ a % b ∧ a % b < b := ⟨Int.emod_nonneg _ (by omega), Int.emod_lt_of_pos _ h⟩
/-- the kinds of some picks -/
def kOf (b st : Int) (ps : List Int) : List Int := ps.map fun p => (b + p * st) % 1000
theorem kOf_in (b st : Int) (ps : List Int) : In 0 1000 (kOf b st ps) := fun z hz => by
  obtain ⟨p, _, rfl⟩ := List.mem_map.mp hz
  exact mod_nn _ _ (by decide)
theorem kOf_len (b st : Int) (ps : List Int) : (kOf b st ps).length = ps.length := List.length_map ..
theorem kOf_D (b st : Int) (ps : List Int) : (ps.map D.int).map (fun d => match d with
    | .int p => D.int ((b + p * st) % 1000)
    | d => d) = (kOf b st ps).map .int := by
  unfold kOf
  rw [List.map_map, List.map_map]
  rfl
theorem e_kinds (C : Addr) (k : Nat) (ns : List Int) (at_ most : Int) (h0 : 0 ≤ at_) (h1 : 2 ≤ most) (h2 : most ≤ 24) : ∃ ks : List Int, 2 ≤ ks.length ∧ (ks.length : Int) ≤ most ∧ In 0 1000 ks ∧ CA C (k + 3) 11 [.rol (ns.map .int), .int at_, .int most] = some (.new (ks.map .int)) := by
  rw [ca_fn (e := ⟨N11, ps11, ir11, none⟩) rfl rfl]
  obtain ⟨c, hc⟩ := e_cell C (k + 1) ns at_ h0
  obtain ⟨c2, hc2⟩ := e_cell C (k + 1) ns (at_ + 1) (by omega)
  obtain ⟨xs, l1, l2, l3⟩ := e_draws C k c 1000 4 (by decide) (by decide) (by decide)
  have a0 := l2.at (i := 0) (by omega)
  have hsz := mod_nn (xs.getD 0 0) (most - 1) (by omega)
  have i8 := mod_nn (xs.getD 1 0) 8 (by decide)
  have i4 := mod_nn (xs.getD 3 0) 4 (by decide)
  have v8 := V8_in.at (i := ((xs.getD 1 0) % 8).toNat) (by show _ < 8; omega)
  have v4 := V4_in.at (i := ((xs.getD 3 0) % 4).toNat) (by show _ < 4; omega)
  obtain ⟨ps, m1, m2, m3⟩ := e_draws C k c2 (V8.getD ((xs.getD 1 0) % 8).toNat 0) (2 + (xs.getD 0 0) % (most - 1)).toNat (by omega) (by omega) (by omega)
  have hcast : ((2 + (xs.getD 0 0) % (most - 1)).toNat : Int) = 2 + (xs.getD 0 0) % (most - 1) := by omega
  rw [hcast] at m3
  refine ⟨kOf (xs.getD 2 0) (V4.getD ((xs.getD 3 0) % 4).toNat 0) ps, by rw [kOf_len, m1]; omega, by rw [kOf_len, m1]; omega, kOf_in _ _ _, ?_⟩
  refine runF_eq (γ := [.sh (.rol (ns.map .int)), .sh (.int at_), .sh (.int most), .no, .no, .no, .no, .no, .no]) (o := .rn _) rfl rfl ?_ rfl
  refine (st_nx (γ2 := [.sh (.rol (ns.map .int)), .sh (.int at_), .sh (.int most), .sh (.lst (xs.map .int)), .no, .no, .no, .no, .no]) (asg_v (ex_pl ((fn_3 ((fn_2 (loc_v rfl) (loc_v rfl)).trans hc) (cst_v _) (cst_v _)).trans l3)))).trans ?_
  refine (st_nx (γ2 := [.sh (.rol (ns.map .int)), .sh (.int at_), .sh (.int most), .sh (.lst (xs.map .int)), .sh (.int (2 + (xs.getD 0 0) % (most - 1))), .no, .no, .no, .no]) (asg_v (ex_fz (add_i (cst_v _) (mod_i (sub_li (xs := xs) (loc_v rfl) (cst_v (.int 0)) (by decide) (by rw [l1]; decide)) (sub_i (loc_v rfl) (cst_v _)) (by omega)))))).trans ?_
  refine (st_nx (γ2 := [.sh (.rol (ns.map .int)), .sh (.int at_), .sh (.int most), .sh (.lst (xs.map .int)), .sh (.int (2 + (xs.getD 0 0) % (most - 1))), .sh (.int (V8.getD ((xs.getD 1 0) % 8).toNat 0)), .no, .no, .no]) (asg_v (ex_fz (sub_ln (xs := V8) (lst_c (V8.map .int) (by decide)) (mod_i (sub_li (xs := xs) (loc_v rfl) (cst_v (.int 1)) (by decide) (by rw [l1]; decide)) (cst_v _) (by decide)) i8.1 (by show _ < 8; exact (Int.toNat_lt i8.1).mpr i8.2))))).trans ?_
  refine (st_nx (γ2 := [.sh (.rol (ns.map .int)), .sh (.int at_), .sh (.int most), .sh (.lst (xs.map .int)), .sh (.int (2 + (xs.getD 0 0) % (most - 1))), .sh (.int (V8.getD ((xs.getD 1 0) % 8).toNat 0)), .sh (.int (V4.getD ((xs.getD 3 0) % 4).toNat 0)), .no, .no]) (asg_v (ex_fz (sub_ln (xs := V4) (lst_c (V4.map .int) (by decide)) (mod_i (sub_li (xs := xs) (loc_v rfl) (cst_v (.int 3)) (by decide) (by rw [l1]; decide)) (cst_v _) (by decide)) i4.1 (by show _ < 4; exact (Int.toNat_lt i4.1).mpr i4.2))))).trans ?_
  refine (st_nx (γ2 := [.sh (.rol (ns.map .int)), .sh (.int at_), .sh (.int most), .sh (.lst (xs.map .int)), .sh (.int (2 + (xs.getD 0 0) % (most - 1))), .sh (.int (V8.getD ((xs.getD 1 0) % 8).toNat 0)), .sh (.int (V4.getD ((xs.getD 3 0) % 4).toNat 0)), .sh (.lst (ps.map .int)), .no]) (asg_v (ex_fz ((fn_3 ((fn_2 (loc_v rfl) (add_i (loc_v rfl) (cst_v (.int 1)))).trans hc2) (loc_v rfl) (loc_v rfl)).trans m3)))).trans ?_
  refine st_rn (ret_n (ex_fz ?_))
  rw [← kOf_D]
  refine lc_map (it_vl1 (loc_v rfl)) (by rw [List.length_map, m1]; omega) fun d hd => ?_
  obtain ⟨p, hp, rfl⟩ := List.mem_map.mp hd
  have hp2 := m2 p hp
  refine ⟨_, rfl, mod_i (int_i (add_i (sub_li (xs := xs) (loc_v rfl) (cst_v (.int 2)) (by decide) (by rw [l1]; decide)) (mul_i (loc_v rfl) (loc_v rfl) (okMul_s (by omega) (by omega))))) (cst_v _) (by decide)⟩
end L39
end

section
set_option autoImplicit false
set_option Elab.async false
set_option linter.all false
set_option maxRecDepth 100000
set_option maxHeartbeats 4000000
namespace L39
open PySem PySem.Spec L2 Pd Ev
theorem e_sized (C : Addr) (k : Nat) (ns : List Int) (at_ : Int) (n : Nat) (h0 : 0 ≤ at_) (h2 : n < 1000) : ∃ ks : List Int, ks.length = n ∧ In 0 1000 ks ∧ CA C (k + 3) 17 [.rol (ns.map .int), .int at_, .int n] = some (.new (ks.map .int)) := by
  rw [ca_fn (e := ⟨N17, ps17, ir17, none⟩) rfl rfl]
  obtain ⟨c, hc⟩ := e_cell C (k + 1) ns at_ h0
  obtain ⟨c2, hc2⟩ := e_cell C (k + 1) ns (at_ + 1) (by omega)
  obtain ⟨xs, l1, l2, l3⟩ := e_draws C k c 1000 3 (by decide) (by decide) (by decide)
  have i8 := mod_nn (xs.getD 0 0) 8 (by decide)
  have i4 := mod_nn (xs.getD 2 0) 4 (by decide)
  have v8 := V8_in.at (i := ((xs.getD 0 0) % 8).toNat) (by show _ < 8; omega)
  have v4 := V4_in.at (i := ((xs.getD 2 0) % 4).toNat) (by show _ < 4; omega)
  obtain ⟨ps, m1, m2, m3⟩ := e_draws C k c2 (V8.getD ((xs.getD 0 0) % 8).toNat 0) n (by omega) (by omega) h2
  refine ⟨kOf (xs.getD 1 0) (V4.getD ((xs.getD 2 0) % 4).toNat 0) ps, by rw [kOf_len, m1], kOf_in _ _ _, ?_⟩
  generalize (n : Int) = z at m3 ⊢
  refine runF_eq (γ := [.sh (.rol (ns.map .int)), .sh (.int at_), .sh (.int z), .no, .no, .no, .no, .no]) (o := .rn _) rfl rfl ?_ rfl
  refine (st_nx (γ2 := [.sh (.rol (ns.map .int)), .sh (.int at_), .sh (.int z), .sh (.lst (xs.map .int)), .no, .no, .no, .no]) (asg_v (ex_pl ((fn_3 ((fn_2 (loc_v rfl) (loc_v rfl)).trans hc) (cst_v _) (cst_v _)).trans l3)))).trans ?_
  refine (st_nx (γ2 := [.sh (.rol (ns.map .int)), .sh (.int at_), .sh (.int z), .sh (.lst (xs.map .int)), .sh (.int (V8.getD ((xs.getD 0 0) % 8).toNat 0)), .no, .no, .no]) (asg_v (ex_fz (sub_ln (xs := V8) (lst_c (V8.map .int) (by decide)) (mod_i (int_i (sub_li (xs := xs) (loc_v rfl) (cst_v (.int 0)) (by decide) (by rw [l1]; decide))) (cst_v _) (by decide)) i8.1 (by show _ < 8; exact (Int.toNat_lt i8.1).mpr i8.2))))).trans ?_
  refine (st_nx (γ2 := [.sh (.rol (ns.map .int)), .sh (.int at_), .sh (.int z), .sh (.lst (xs.map .int)), .sh (.int (V8.getD ((xs.getD 0 0) % 8).toNat 0)), .sh (.int (V4.getD ((xs.getD 2 0) % 4).toNat 0)), .no, .no]) (asg_v (ex_fz (sub_ln (xs := V4) (lst_c (V4.map .int) (by decide)) (mod_i (int_i (sub_li (xs := xs) (loc_v rfl) (cst_v (.int 2)) (by decide) (by rw [l1]; decide))) (cst_v _) (by decide)) i4.1 (by show _ < 4; exact (Int.toNat_lt i4.1).mpr i4.2))))).trans ?_
  refine (st_nx (γ2 := [.sh (.rol (ns.map .int)), .sh (.int at_), .sh (.int z), .sh (.lst (xs.map .int)), .sh (.int (V8.getD ((xs.getD 0 0) % 8).toNat 0)), .sh (.int (V4.getD ((xs.getD 2 0) % 4).toNat 0)), .sh (.lst (ps.map .int)), .no]) (asg_v (ex_fz ((fn_3 ((fn_2 (loc_v rfl) (add_i (loc_v rfl) (cst_v (.int 1)))).trans hc2) (loc_v rfl) (loc_v rfl)).trans m3)))).trans ?_
  refine st_rn (ret_n (ex_fz ?_))
  rw [← kOf_D]
  refine lc_map (it_vl1 (loc_v rfl)) (by rw [List.length_map, m1]; omega) fun d hd => ?_
  obtain ⟨p, hp, rfl⟩ := List.mem_map.mp hd
  have hp2 := m2 p hp
  refine ⟨_, rfl, mod_i (int_i (add_i (sub_li (xs := xs) (loc_v rfl) (cst_v (.int 1)) (by decide) (by rw [l1]; decide)) (mul_i (loc_v rfl) (loc_v rfl) (okMul_s (by omega) (by omega))))) (cst_v _) (by decide)⟩
section
variable {Φ : Phi} {γ : List S2} {e1 e2 : IE}
theorem lst_ls (css : List (List D)) (h : ∀ cs ∈ css, cs.length ≤ 100000) (k : List D → Option RR) : evL Φ γ (css.map fun cs => .lst (cs.map .cst)) k = k (css.map .lst) := by
  induction css generalizing k with
  | nil => rw [List.map_nil, evL_nil] <;> rfl
  | cons c r ih => rw [List.map_cons, evL_cons, lst_c c (h c (List.mem_cons_self ..)), and_new, ih fun x hx => h x (List.mem_cons_of_mem _ hx)] <;> rfl
theorem lst_l (css : List (List D)) (h : ∀ cs ∈ css, cs.length ≤ 100000) (hl : css.length ≤ 100000) : ev Φ γ false (.lst (css.map fun cs => .lst (cs.map .cst))) = some (.new (css.map .lst)) := by
  rw [ev_lst, tst_f, lst_ls css h, List.length_map, if_pos hl]
theorem add_ln {a b : List D} (h1 : ev Φ γ false e1 = some (.val (.lst a))) (h2 : ev Φ γ false e2 = some (.new b)) (h : a.length + b.length ≤ 100000) : ev Φ γ false (.bin .Add e1 e2) = some (.new (a ++ b)) := by
  rw [ev_bin, h1, and_val, h2, and_new, tst_f]
  exact if_pos h
end
def PT1 : List (List Int) := [[0, 0], [0, 1], [0, 0, 0, 0], [0, 1, 0], [0, 1, 2], [0, 1, 0, 1], [0, 1, 0, 2, 0]]
def PT2 : List (List Int) := [[0, 1, 0, 1, 0], [0, 1, 2, 2, 1, 0], [0, 1, 0, 2, 0, 1]]
def PT : List (List Int) := PT1 ++ PT2
def ll (p : List (List Int)) : List D := p.map fun l => .lst (l.map .int)
theorem PT_ok : ∀ p ∈ PT, 2 ≤ p.length ∧ p.length ≤ 6 ∧ In 0 3 p := by unfold PT PT1 PT2 In; decide
theorem e_pattern (C : Addr) (k : Nat) (a : Int) : ∃ ps : List Int, 2 ≤ ps.length ∧ ps.length ≤ 6 ∧ In 0 3 ps ∧ CA C (k + 1) 18 [.int a] = some (.val (.lst (ps.map .int))) := by
  rw [ca_fn (e := ⟨N18, ps18, ir18, none⟩) rfl rfl]
  have im := mod_nn a 10 (by decide)
  have hi : (a % 10).toNat < PT.length := by show _ < 10; exact (Int.toNat_lt im.1).mpr im.2
  have hm : PT.getD (a % 10).toNat [] ∈ PT := by
    rw [List.getD_eq_getElem?_getD, List.getElem?_eq_getElem hi]
    exact List.getElem_mem hi
  obtain ⟨p1, p2, p3⟩ := PT_ok _ hm
  refine ⟨PT.getD (a % 10).toNat [], p1, p2, p3, ?_⟩
  refine runF_eq (γ := [.sh (.int a), .no]) (o := .rt _) rfl rfl ?_ rfl
  refine (st_nx (γ2 := [.sh (.int a), .ow (ll PT1)]) (asg_n (ex_pl (lst_l (PT1.map (·.map .int)) (by unfold PT1; decide) (by decide))))).trans ?_
  refine (st_nx (γ2 := [.sh (.int a), .ow (ll PT)]) (asg_n (ex_fz (add_ln (a := ll PT1) (b := ll PT2) (loc_v rfl) (lst_l (PT2.map (·.map .int)) (by unfold PT2; decide) (by decide)) (by decide))))).trans ?_
  refine st_rt (ret_v (ex_fz (sub_v (loc_v (d := .lst (ll PT)) rfl) (mod_i (int_i (loc_v rfl)) (cst_v (.int 10)) (by decide)) ?_)))
  show (atI (ll PT) (a % 10)).map RR.val = _
  have hz : (a % 10) < ((ll PT).length : Int) := im.2
  have e : atI (ll PT) (a % 10) = some (.lst ((PT.getD (a % 10).toNat []).map .int)) := by
    unfold atI ixN
    rw [if_pos im.1, if_pos hz]
    show (ll PT)[(a % 10).toNat]? = _
    unfold ll
    rw [List.getElem?_map, List.getElem?_eq_getElem hi, List.getD_eq_getElem?_getD, List.getElem?_eq_getElem hi] <;> rfl
  rw [e] <;> rfl
end L39
end

section
set_option autoImplicit false
set_option Elab.async false
set_option linter.all false
set_option maxRecDepth 100000
set_option maxHeartbeats 4000000
namespace L39
open PySem PySem.Spec L2 Pd Ev
theorem e_case (C : Addr) (k : Nat) (ns : List Int) : ∃ ks : List Int, 2 ≤ ks.length ∧ ks.length ≤ 24 ∧ In 0 1000 ks ∧ CA C (k + 4) 19 [.rol (ns.map .int)] = some (.new (ks.map .int)) := by
  rw [ca_fn (e := ⟨N19, ps19, ir19, none⟩) rfl rfl]
  obtain ⟨c, hc⟩ := e_cell C (k + 2) ns 0 (by decide)
  obtain ⟨xs, l1, l2, l3⟩ := e_draws C (k + 1) c 1000 4 (by decide) (by decide) (by decide)
  have ic := mod_nn (xs.getD 0 0) 16 (by decide)
  have i4 := mod_nn (xs.getD 3 0) 4 (by decide)
  have v4 := V4_in.at (i := ((xs.getD 3 0) % 4).toNat) (by show _ < 4; omega)
  obtain ⟨ps, q1, q2, q3, q4⟩ := e_pattern C (k + 2) (xs.getD 1 0)
  have i12 := mod_nn (xs.getD 1 0) 12 (by decide)
  have i5 := mod_nn (xs.getD 1 0) 5 (by decide)
  obtain ⟨kA, a1, a2, a3⟩ := e_sized C k ns 1 (13 + (xs.getD 1 0) % 12).toNat (by decide) (by omega)
  obtain ⟨kB, b1, b2, b3⟩ := e_sized C k ns 1 (8 + (xs.getD 1 0) % 5).toNat (by decide) (by omega)
  obtain ⟨kC, c1, c2, c3⟩ := e_sized C k ns 1 7 (by decide) (by decide)
  obtain ⟨kD, d1, d2, d3, d4⟩ := e_kinds C k ns 1 6 (by decide) (by decide) (by decide)
  rw [show ((13 + (xs.getD 1 0) % 12).toNat : Int) = 13 + (xs.getD 1 0) % 12 by omega] at a3
  rw [show ((8 + (xs.getD 1 0) % 5).toNat : Int) = 8 + (xs.getD 1 0) % 5 by omega] at b3
  have go : ∀ (ks : List Int), evSs (wc (Phi39 C) (CA C (k + 3))) [.ite (.and (.cmp .GtE (.loc 2) (.cst (.int 8))) (.cmp .LtE (.loc 2) (.cst (.int 12)))) [.asg (.fz [1]) 3 (.sub (.lst [(.cst (.int 1)), (.cst (.int 7)), (.cst (.int 333)), (.cst (.int 999))]) (.bin .Mod (.bi .int [(.sub (.loc 1) (.cst (.int 3)))]) (.cst (.int 4)))), .ret (.fz [1, 4, 3]) (.lc (.bin .Mod (.bi .int [(.bin .Add (.sub (.loc 1) (.cst (.int 2))) (.bin .Mult (.loc 4) (.loc 3)))]) (.cst (.int 1000))) [4] .vl [(.fn 18 [(.sub (.loc 1) (.cst (.int 1)))])] [])] [], .ite (.cmp .Eq (.loc 2) (.cst (.int 0))) [.ret (.fz [1]) (.fn 17 [(.loc 0), (.cst (.int 1)), (.bin .Add (.cst (.int 13)) (.bin .Mod (.bi .int [(.sub (.loc 1) (.cst (.int 1)))]) (.cst (.int 12))))])] [], .ite (.cmp .LtE (.loc 2) (.cst (.int 4))) [.ret (.fz [1]) (.fn 17 [(.loc 0), (.cst (.int 1)), (.bin .Add (.cst (.int 8)) (.bin .Mod (.bi .int [(.sub (.loc 1) (.cst (.int 1)))]) (.cst (.int 5))))])] [], .ite (.cmp .Eq (.loc 2) (.cst (.int 5))) [.ret .pl (.fn 17 [(.loc 0), (.cst (.int 1)), (.cst (.int 7))])] [], .ret .pl (.fn 11 [(.loc 0), (.cst (.int 1)), (.cst (.int 6))])] [.sh (.rol (ns.map .int)), .sh (.lst (xs.map .int)), .sh (.int ((xs.getD 0 0) % 16)), .no, .no] = some (.rn (ks.map .int)) →
      runF (wc (Phi39 C) (CA C (k + 3))) ⟨N19, ps19, ir19, none⟩ [.rol (ns.map .int)] = some (.new (ks.map .int)) := fun ks h => by
    refine runF_eq (γ := [.sh (.rol (ns.map .int)), .no, .no, .no, .no]) (o := .rn (ks.map .int)) rfl rfl ?_ rfl
    refine (st_nx (γ2 := [.sh (.rol (ns.map .int)), .sh (.lst (xs.map .int)), .no, .no, .no]) (asg_v (ex_pl ((fn_3 ((fn_2 (loc_v rfl) (cst_v _)).trans hc) (cst_v _) (cst_v _)).trans l3)))).trans ?_
    refine (st_nx (γ2 := [.sh (.rol (ns.map .int)), .sh (.lst (xs.map .int)), .sh (.int ((xs.getD 0 0) % 16)), .no, .no]) (asg_v (ex_fz (mod_i (int_i (sub_li (xs := xs) (loc_v rfl) (cst_v (.int 0)) (by decide) (by rw [l1]; decide))) (cst_v _) (by decide))))).trans ?_
    exact h
  generalize hcs : (xs.getD 0 0) % 16 = cs at go ic
  by_cases h8 : 8 ≤ cs
  · by_cases h12 : cs ≤ 12
    · refine ⟨kOf (xs.getD 2 0) (V4.getD ((xs.getD 3 0) % 4).toNat 0) ps, by rw [kOf_len]; exact q1, by rw [kOf_len]; omega, kOf_in _ _ _, go _ ?_⟩
      refine st_rn ((ite_t (and_t (ge_i (loc_v rfl) (cst_v _) (decide_eq_true h8)) (le_i (loc_v rfl) (cst_v _) (decide_eq_true h12)))).trans ?_)
      refine (st_nx (γ2 := [.sh (.rol (ns.map .int)), .sh (.lst (xs.map .int)), .sh (.int cs), .sh (.int (V4.getD ((xs.getD 3 0) % 4).toNat 0)), .no]) (asg_v (ex_fz (sub_ln (xs := V4) (lst_c (V4.map .int) (by decide)) (mod_i (int_i (sub_li (xs := xs) (loc_v rfl) (cst_v (.int 3)) (by decide) (by rw [l1]; decide))) (cst_v _) (by decide)) i4.1 (by show _ < 4; exact (Int.toNat_lt i4.1).mpr i4.2))))).trans ?_
      refine st_rn (ret_n (ex_fz ?_))
      rw [← kOf_D]
      refine lc_map (it_vl1 ((fn_1 (sub_li (xs := xs) (loc_v rfl) (cst_v (.int 1)) (by decide) (by rw [l1]; decide))).trans q4)) (by rw [List.length_map]; omega) fun d hd => ?_
      obtain ⟨p, hp, rfl⟩ := List.mem_map.mp hd
      have hp2 := q3 p hp
      exact ⟨_, rfl, mod_i (int_i (add_i (sub_li (xs := xs) (loc_v rfl) (cst_v (.int 2)) (by decide) (by rw [l1]; decide)) (mul_i (loc_v rfl) (loc_v rfl) (okMul_s (by omega) (by omega))))) (cst_v _) (by decide)⟩
    · refine ⟨kD, d1, by omega, d3, go _ ?_⟩
      refine (st_nx (ite_f0 (and_t (ge_i (loc_v rfl) (cst_v _) (decide_eq_true h8)) (le_i (loc_v rfl) (cst_v _) (decide_eq_false h12))))).trans ?_
      refine (st_nx (ite_f0 (eq_i (loc_v rfl) (cst_v _) (decide_eq_false (by omega))))).trans ?_
      refine (st_nx (ite_f0 (le_i (loc_v rfl) (cst_v _) (decide_eq_false (by omega))))).trans ?_
      refine (st_nx (ite_f0 (eq_i (loc_v rfl) (cst_v _) (decide_eq_false (by omega))))).trans ?_
      exact st_rn (ret_n (ex_pl ((fn_3 (loc_v rfl) (cst_v _) (cst_v _)).trans d4)))
  · have f0 := fun (r : List IS) (a : List IS) => st_nx (Φ := wc (Phi39 C) (CA C (k + 3))) (r := r) (ite_f0 (a := a) (γ := [.sh (.rol (ns.map .int)), .sh (.lst (xs.map .int)), .sh (.int cs), .no, .no]) (and_f (e1 := .cmp .GtE (.loc 2) (.cst (.int 8))) (e2 := .cmp .LtE (.loc 2) (.cst (.int 12))) (ge_i (loc_v rfl) (cst_v (.int 8)) (decide_eq_false h8))))
    by_cases hz : cs = 0
    · refine ⟨kA, by omega, by omega, a2, go _ ?_⟩
      refine (f0 _ _).trans ?_
      refine st_rn ((ite_t (eq_i (loc_v rfl) (cst_v _) (decide_eq_true hz))).trans ?_)
      exact st_rn (ret_n (ex_fz ((fn_3 (loc_v rfl) (cst_v _) (add_i (cst_v _) (mod_i (int_i (sub_li (xs := xs) (loc_v rfl) (cst_v (.int 1)) (by decide) (by rw [l1]; decide))) (cst_v _) (by decide)))).trans a3)))
    · by_cases h4 : cs ≤ 4
      · refine ⟨kB, by omega, by omega, b2, go _ ?_⟩
        refine (f0 _ _).trans ?_
        refine (st_nx (ite_f0 (eq_i (loc_v rfl) (cst_v _) (decide_eq_false hz)))).trans ?_
        refine st_rn ((ite_t (le_i (loc_v rfl) (cst_v _) (decide_eq_true h4))).trans ?_)
        exact st_rn (ret_n (ex_fz ((fn_3 (loc_v rfl) (cst_v _) (add_i (cst_v _) (mod_i (int_i (sub_li (xs := xs) (loc_v rfl) (cst_v (.int 1)) (by decide) (by rw [l1]; decide))) (cst_v _) (by decide)))).trans b3)))
      · by_cases h5 : cs = 5
        · refine ⟨kC, by omega, by omega, c2, go _ ?_⟩
          refine (f0 _ _).trans ?_
          refine (st_nx (ite_f0 (eq_i (loc_v rfl) (cst_v _) (decide_eq_false hz)))).trans ?_
          refine (st_nx (ite_f0 (le_i (loc_v rfl) (cst_v _) (decide_eq_false h4)))).trans ?_
          refine st_rn ((ite_t (eq_i (loc_v rfl) (cst_v _) (decide_eq_true h5))).trans ?_)
          exact st_rn (ret_n (ex_pl ((fn_3 (loc_v rfl) (cst_v _) (cst_v _)).trans c3)))
        · refine ⟨kD, d1, by omega, d3, go _ ?_⟩
          refine (f0 _ _).trans ?_
          refine (st_nx (ite_f0 (eq_i (loc_v rfl) (cst_v _) (decide_eq_false hz)))).trans ?_
          refine (st_nx (ite_f0 (le_i (loc_v rfl) (cst_v _) (decide_eq_false h4)))).trans ?_
          refine (st_nx (ite_f0 (eq_i (loc_v rfl) (cst_v _) (decide_eq_false h5)))).trans ?_
          exact st_rn (ret_n (ex_pl ((fn_3 (loc_v rfl) (cst_v _) (cst_v _)).trans d4)))
end L39
end

section
set_option autoImplicit false
set_option Elab.async false
set_option linter.all false
set_option maxRecDepth 100000
set_option maxHeartbeats 4000000
namespace L39
open PySem PySem.Spec L2 Pd Ev
section
variable {Φ : Phi} {γ : List S2} {e1 e2 : IE}
theorem att_v {C : Addr} {fs : List (Str × D)} {f : Str} {d : D} (h : ev Φ γ false e1 = some (.val (.obj C fs))) (hf : Φ.fld C f = true) (hl : fs.lookup f = some d) : ev Φ γ false (.att e1 f) = some (.val d) := by
  rw [ev_att, h, and_val, tst_f]
  show (if Φ.fld C f then (fs.lookup f).map RR.val else none) = _
  rw [if_pos hf, hl] <;> rfl
theorem sub_ti {xs : List Int} {i : Int} (h1 : ev Φ γ false e1 = some (.val (.tup (xs.map .int)))) (h2 : ev Φ γ false e2 = some (.val (.int i))) (h0 : 0 ≤ i) (h : i.toNat < xs.length) : ev Φ γ false (.sub e1 e2) = some (.val (.int (xs.getD i.toNat 0))) := sub_v h1 h2 (by show (atI _ i).map RR.val = _; rw [atI_int h0 h]; rfl)
theorem tup_2 {d1 d2 : D} (h1 : ev Φ γ false e1 = some (.val d1)) (h2 : ev Φ γ false e2 = some (.val d2)) : ev Φ γ false (.tup [e1, e2]) = some (.val (.tup [d1, d2])) := by
  rw [ev_tup, evL_cons, h1, and_val, evL_cons, h2, and_val, evL_nil, tst_f] <;> rfl
theorem lcGo2_map {F : D → Option (List D)} {f : D → List D} : ∀ {items : List D}, (∀ d ∈ items, F d = some (f d)) → lcGo2 F items = some (items.flatMap f)
  | [], _ => by unfold lcGo2; rfl
  | d :: r, h => by
    unfold lcGo2
    rw [h d (List.mem_cons_self ..), lcGo2_map fun x hx => h x (List.mem_cons_of_mem _ hx)] <;> rfl
theorem lc2_map {items : List D} {F : D → List D} {elt : IE} {t1 t2 : List Nat} {k1 k2 : IK} {its1 its2 : List IE} (hs : (evD Φ γ its1).bind (itms k1) = some items) (hz : items.length ≤ 300)
    (he : ∀ d ∈ items, ∃ γ2 bs, ∃ f2 : D → D, put t1 d (blk γ (t1 ++ t2)) = some γ2 ∧ (evD Φ γ2 its2).bind (itms k2) = some bs ∧ bs.length ≤ 300 ∧ F d = bs.map f2 ∧ ∀ b ∈ bs, ∃ γ3, put t2 b (blk γ2 t2) = some γ3 ∧ ev Φ γ3 false elt = some (.val (f2 b))) : ev Φ γ false (.lc2 elt t1 k1 its1 t2 k2 its2) = some (.new (items.flatMap F)) := by
  rw [ev_lc2, tst_f, hs]
  show (if items.length ≤ 300 then _ else _) = _
  rw [if_pos hz, lcGo2_map (f := F) fun d hd => ?_]
  · rfl
  · obtain ⟨γ2, bs, f2, h1, h2, h3, h4, h5⟩ := he d hd
    rw [h1]
    dsimp only
    rw [h2]
    dsimp only
    rw [if_pos h3, h4]
    refine lcGo_map (f := f2) fun b hb => ?_
    obtain ⟨γ3, q1, q2⟩ := h5 b hb
    rw [q1]
    dsimp only
    rw [q2]
    rfl
end
theorem fld_k (C : Addr) (g : Nat → List D → Option RR) {f : Str} (h : fldL.contains f = true) : (wc (Phi39 C) g).fld C f = true := by
  show (C == C && fldL.contains f) = true
  rw [h, beq_self_eq_true] <;> rfl
/-- a strand of these kinds -/
structure Str39 (ks : List Int) (fs : List (Str × D)) : Prop where
  kinds : fs.lookup ("kinds" : PySem.Str) = some (D.tup (ks.map .int))
  size : fs.lookup ("size" : PySem.Str) = some (D.int ks.length)
theorem e_between (C : Addr) (k : Nat) (ks : List Int) (fs : List (Str × D)) (S : Str39 ks fs) (i m j : Int) (h1 : 0 ≤ i) (h2 : 0 ≤ m) (h3 : 0 ≤ j) (g1 : i.toNat < ks.length) (g2 : m.toNat < ks.length) (g3 : j.toNat < ks.length) :
    CA C (k + 2) 3 [.obj C fs, .int i, .int m, .int j] = some (.val (.str (mkS (ks.getD i.toNat 0) (ks.getD m.toNat 0) (ks.getD j.toNat 0)))) := by
  rw [ca_fn (e := ⟨N3, ps3, ir3, none⟩) rfl rfl]
  refine runF_eq (γ := [.sh (.obj C fs), .sh (.int i), .sh (.int m), .sh (.int j)]) (o := .rt _) rfl rfl ?_ rfl
  have a : ∀ γ : List S2, γ[0]? = some (.sh (.obj C fs)) → ev (wc (Phi39 C) (CA C (k + 1))) γ false (.att (.loc 0) "kinds") = some (.val (.tup (ks.map .int))) := fun γ h => att_v (loc_v h) (fld_k C _ (by decide +kernel)) S.kinds
  exact st_rt (ret_v (ex_pl ((fn_3 (sub_ti (xs := ks) (a _ rfl) (loc_v rfl) h1 g1) (sub_ti (xs := ks) (a _ rfl) (loc_v rfl) h2 g2) (sub_ti (xs := ks) (a _ rfl) (loc_v rfl) h3 g3)).trans (e_markof C k _ _ _))))
theorem rg1 {a b : Int} (ha : -(2 ^ 62) ≤ a ∧ a < 2 ^ 62) (hb : -(2 ^ 62) ≤ b ∧ b < 2 ^ 62) : itms .rg [D.int a, D.int b] = some (rngD a (b - a).toNat) := by
  have z : itms .rg [D.int a, D.int b] = if okRg a ∧ okRg b then some (rngD a (b - a).toNat) else none := by rw [itms]
  rw [z, if_pos ⟨ha, hb⟩]
def spansF (n : Int) : D → List D
  | .int i => (rngD (i + 1) (n - (i + 1)).toNat).map fun b => .tup [.int i, b]
  | _ => []
theorem rngD_mem {a : Int} {m : Nat} {d : D} (h : d ∈ rngD a m) : ∃ i : Int, d = .int i ∧ a ≤ i ∧ i < a + m := by
  unfold rngD at h
  obtain ⟨x, hx, rfl⟩ := List.mem_map.mp h
  have := List.mem_range.mp hx
  exact ⟨_, rfl, by omega, by omega⟩
theorem rngD_len (a : Int) (m : Nat) : (rngD a m).length = m := by unfold rngD; rw [List.length_map, List.length_range]
theorem e_spans (C : Addr) (k : Nat) (ks : List Int) (fs : List (Str × D)) (S : Str39 ks fs) (hn : ks.length ≤ 24) : CA C (k + 1) 2 [.obj C fs] = some (.new ((rngD 0 ks.length).flatMap (spansF ks.length))) := by
  rw [ca_fn (e := ⟨N2, ps2, ir2, none⟩) rfl rfl]
  refine runF_eq (γ := [.sh (.obj C fs), .no, .no]) (o := .rn _) rfl rfl ?_ rfl
  have a : ∀ γ : List S2, γ[0]? = some (.sh (.obj C fs)) → ev (wc (Phi39 C) (CA C k)) γ false (.att (.loc 0) "size") = some (.val (.int ks.length)) := fun γ h => att_v (loc_v h) (fld_k C _ (by decide +kernel)) S.size
  refine st_rn (ret_n (ex_fz ?_))
  refine lc2_map (items := rngD 0 ks.length) ?_ (by rw [rngD_len]; omega) fun d hd => ?_
  · rw [evD1_v (a _ rfl), Option.bind_some]
    exact it_rg0 (by omega)
  · obtain ⟨i, rfl, h1, h2⟩ := rngD_mem hd
    refine ⟨_, rngD (i + 1) ((ks.length : Int) - (i + 1)).toNat, fun b => .tup [.int i, b], rfl, ?_, by rw [rngD_len]; omega, rfl, fun b hb => ⟨_, rfl, tup_2 (loc_v rfl) (loc_v rfl)⟩⟩
    rw [evD2_v (add_i (loc_v (d := .int i) rfl) (cst_v (.int 1))) (a _ rfl), Option.bind_some]
    exact rg1 ⟨by omega, by omega⟩ ⟨by omega, by omega⟩
end L39
end

section
set_option autoImplicit false
set_option Elab.async false
set_option linter.all false
set_option maxRecDepth 100000
set_option maxHeartbeats 4000000
namespace L39
open PySem PySem.Spec L2 Pd Ev
section
variable {Φ : Phi} {γ : List S2} {e1 e2 : IE}
theorem gcd_v {a b : Int} (h1 : ev Φ γ false e1 = some (.val (.int a))) (h2 : ev Φ γ false e2 = some (.val (.int b))) : ev Φ γ false (.gcd [e1, e2]) = some (.val (.int (Nat.gcd a.natAbs b.natAbs : Nat))) := by
  rw [ev_gcd, evL_cons, h1, and_val, evL_cons, h2, and_val, evL_nil, tst_f] <;> rfl
theorem sub0 {x y : D} (h1 : ev Φ γ false e1 = some (.val (.tup [x, y]))) : ev Φ γ false (.sub e1 (.cst (.int 0))) = some (.val x) := sub_v h1 (cst_v _) rfl
theorem sub1 {x y : D} (h1 : ev Φ γ false e1 = some (.val (.tup [x, y]))) : ev Φ γ false (.sub e1 (.cst (.int 1))) = some (.val y) := sub_v h1 (cst_v _) rfl
end
def shT (n i j : Int) : Int × Int :=
  if i = 0 ∧ j = n - 1 then (1, j - i - 1)
  else if i = 0 ∨ j = n - 1 then (1, (j - i - 1) * (j - i - 1 + 1))
  else (2, (j - i - 1) * (j - i - 1 + 1) * (j - i - 1 + 2))
theorem e_share (C : Addr) (k : Nat) (n i j : Int) (hw : 0 ≤ j - i - 1) (hw2 : j - i - 1 < 100) : CA C (k + 1) 4 [.int n, .int i, .int j] = some (.val (.tup [.int (shT n i j).1, .int (shT n i j).2])) := by
  rw [ca_fn (e := ⟨N4, ps4, ir4, none⟩) rfl rfl]
  refine runF_eq (γ := [.sh (.int n), .sh (.int i), .sh (.int j), .no]) (o := .rt _) rfl rfl ?_ rfl
  refine (st_nx (γ2 := [.sh (.int n), .sh (.int i), .sh (.int j), .sh (.int (j - i - 1))]) (asg_v (ex_pl (sub_i (sub_i (loc_v rfl) (loc_v rfl)) (cst_v _))))).trans ?_
  unfold shT
  generalize hww : j - i - 1 = w at hw hw2
  have k1 : okMul w (w + 1) := okMul_s (by omega) (by omega)
  have hb : w * (w + 1) ≤ 100 * 101 := Int.mul_le_mul (by omega) (by omega) (by omega) (by decide)
  have hb0 : 0 ≤ w * (w + 1) := Int.mul_nonneg hw (by omega)
  have k2 : okMul (w * (w + 1)) (w + 2) := okMul_s (by omega) (by omega)
  by_cases hi : i = 0
  · by_cases hj : j = n - 1
    · rw [if_pos ⟨hi, hj⟩]
      exact st_rt ((ite_t (and_t (eq_i (loc_v rfl) (cst_v _) (decide_eq_true hi)) (eq_i (loc_v rfl) (sub_i (loc_v rfl) (cst_v _)) (decide_eq_true hj)))).trans (st_rt (ret_v (ex_fz (tup_2 (cst_v _) (loc_v rfl))))))
    · rw [if_neg (fun z => hj z.2), if_pos (.inl hi)]
      refine (st_nx (ite_f0 (and_t (eq_i (loc_v rfl) (cst_v _) (decide_eq_true hi)) (eq_i (loc_v rfl) (sub_i (loc_v rfl) (cst_v _)) (decide_eq_false hj))))).trans ?_
      exact st_rt ((ite_t (or_t (eq_i (loc_v rfl) (cst_v _) (decide_eq_true hi)))).trans (st_rt (ret_v (ex_fz (tup_2 (cst_v _) (mul_i (loc_v rfl) (add_i (loc_v rfl) (cst_v _)) k1))))))
  · rw [if_neg (fun z => hi z.1)]
    refine (st_nx (ite_f0 (and_f (eq_i (loc_v rfl) (cst_v _) (decide_eq_false hi))))).trans ?_
    by_cases hj : j = n - 1
    · rw [if_pos (.inr hj)]
      exact st_rt ((ite_t (or_f (eq_i (loc_v rfl) (cst_v _) (decide_eq_false hi)) (eq_i (loc_v rfl) (sub_i (loc_v rfl) (cst_v _)) (decide_eq_true hj)))).trans (st_rt (ret_v (ex_fz (tup_2 (cst_v _) (mul_i (loc_v rfl) (add_i (loc_v rfl) (cst_v _)) k1))))))
    · rw [if_neg (fun z => z.elim hi hj)]
      refine (st_nx (ite_f0 (or_f (eq_i (loc_v rfl) (cst_v _) (decide_eq_false hi)) (eq_i (loc_v rfl) (sub_i (loc_v rfl) (cst_v _)) (decide_eq_false hj))))).trans ?_
      exact st_rt (ret_v (ex_fz (tup_2 (cst_v _) (mul_i (mul_i (loc_v rfl) (add_i (loc_v rfl) (cst_v _)) k1) (add_i (loc_v rfl) (cst_v _)) k2))))
/-- a fraction, reduced -/
def frac (t b : Int) : D := .tup [.int (t / (Nat.gcd t.natAbs b.natAbs : Nat)), .int (b / (Nat.gcd t.natAbs b.natAbs : Nat))]
theorem e_frac (C : Addr) (k : Nat) (a b c d : Int) (m1 : okMul a d) (m2 : okMul c b) (m3 : okMul b d) (hg : okDiv (Nat.gcd (a * d + c * b).natAbs (b * d).natAbs : Nat)) : CA C (k + 1) 5 [.tup [.int a, .int b], .tup [.int c, .int d]] = some (.val (frac (a * d + c * b) (b * d))) := by
  rw [ca_fn (e := ⟨N5, ps5, ir5, none⟩) rfl rfl]
  refine runF_eq (γ := [.sh (.tup [.int a, .int b]), .sh (.tup [.int c, .int d]), .no, .no, .no]) (o := .rt _) rfl rfl ?_ rfl
  refine (st_nx (γ2 := [.sh (.tup [.int a, .int b]), .sh (.tup [.int c, .int d]), .sh (.int (a * d + c * b)), .no, .no]) (asg_v (ex_pl (add_i (mul_i (sub0 (loc_v rfl)) (sub1 (loc_v rfl)) m1) (mul_i (sub0 (loc_v rfl)) (sub1 (loc_v rfl)) m2))))).trans ?_
  refine (st_nx (γ2 := [.sh (.tup [.int a, .int b]), .sh (.tup [.int c, .int d]), .sh (.int (a * d + c * b)), .sh (.int (b * d)), .no]) (asg_v (ex_pl (mul_i (sub1 (loc_v rfl)) (sub1 (loc_v rfl)) m3)))).trans ?_
  generalize a * d + c * b = t at hg
  generalize b * d = u at hg
  refine (st_nx (γ2 := [.sh (.tup [.int a, .int b]), .sh (.tup [.int c, .int d]), .sh (.int t), .sh (.int u), .sh (.int (Nat.gcd t.natAbs u.natAbs : Nat))]) (asg_v (ex_fz (gcd_v (loc_v rfl) (loc_v rfl))))).trans ?_
  unfold frac
  generalize ((Nat.gcd t.natAbs u.natAbs : Nat) : Int) = g at hg
  exact st_rt (ret_v (ex_fz (tup_2 (div_i (loc_v rfl) (loc_v rfl) hg) (div_i (loc_v rfl) (loc_v rfl) hg))))
end L39
end

section
set_option autoImplicit false
set_option Elab.async false
set_option linter.all false
set_option maxRecDepth 100000
set_option maxHeartbeats 4000000
namespace L39
open PySem PySem.Spec L2 Pd Ev
/-! ### fractions of equal value -/
theorem red_eq {t b t' b' : Nat} (hb : 0 < b) (hb' : 0 < b') (h : t * b' = t' * b) : t / Nat.gcd t b = t' / Nat.gcd t' b' ∧ b / Nat.gcd t b = b' / Nat.gcd t' b' := by
  have g0 : 0 < Nat.gcd t b := Nat.gcd_pos_of_pos_right _ hb
  have g0' : 0 < Nat.gcd t' b' := Nat.gcd_pos_of_pos_right _ hb'
  have c : Nat.Coprime (t / Nat.gcd t b) (b / Nat.gcd t b) := Nat.coprime_div_gcd_div_gcd g0
  have c' : Nat.Coprime (t' / Nat.gcd t' b') (b' / Nat.gcd t' b') := Nat.coprime_div_gcd_div_gcd g0'
  have e1 : t / Nat.gcd t b * Nat.gcd t b = t := Nat.div_mul_cancel (Nat.gcd_dvd_left _ _)
  have e2 : b / Nat.gcd t b * Nat.gcd t b = b := Nat.div_mul_cancel (Nat.gcd_dvd_right _ _)
  have e3 : t' / Nat.gcd t' b' * Nat.gcd t' b' = t' := Nat.div_mul_cancel (Nat.gcd_dvd_left _ _)
  have e4 : b' / Nat.gcd t' b' * Nat.gcd t' b' = b' := Nat.div_mul_cancel (Nat.gcd_dvd_right _ _)
  generalize t / Nat.gcd t b = p at *
  generalize b / Nat.gcd t b = q at *
  generalize t' / Nat.gcd t' b' = p' at *
  generalize b' / Nat.gcd t' b' = q' at *
  generalize Nat.gcd t b = g at *
  generalize Nat.gcd t' b' = g' at *
  subst e1 e2 e3 e4
  have k : p * q' = p' * q := by
    have z : (g * g') * (p * q') = (g * g') * (p' * q) := by
      calc (g * g') * (p * q') = p * g * (q' * g') := by simp only [Nat.mul_assoc, Nat.mul_comm, Nat.mul_left_comm]
        _ = p' * g' * (q * g) := h
        _ = (g * g') * (p' * q) := by simp only [Nat.mul_assoc, Nat.mul_comm, Nat.mul_left_comm]
    exact Nat.eq_of_mul_eq_mul_left (Nat.mul_pos g0 g0') z
  have d1 : q ∣ q' := c.symm.dvd_of_dvd_mul_left ⟨p', by rw [k, Nat.mul_comm]⟩
  have d2 : q' ∣ q := c'.symm.dvd_of_dvd_mul_left ⟨p, by rw [← k, Nat.mul_comm]⟩
  have eq : q = q' := Nat.dvd_antisymm d1 d2
  subst eq
  refine ⟨?_, rfl⟩
  have hq : 0 < q := Nat.pos_of_ne_zero fun z => by subst z; simp at hb
  exact Nat.eq_of_mul_eq_mul_right hq k
theorem frac_nat (t b : Nat) : frac (t : Int) (b : Int) = .tup [.int ((t / Nat.gcd t b : Nat) : Int), .int ((b / Nat.gcd t b : Nat) : Int)] := by
  unfold frac
  rw [Int.natAbs_natCast, Int.natAbs_natCast, ← Int.natCast_ediv, ← Int.natCast_ediv]
theorem frac_eq {t b t' b' : Nat} (hb : 0 < b) (hb' : 0 < b') (h : t * b' = t' * b) : frac (t : Int) (b : Int) = frac (t' : Int) (b' : Int) := by
  obtain ⟨h1, h2⟩ := red_eq hb hb' h
  rw [frac_nat, frac_nat, h1, h2]
/-- one more summand: (A / N reduced) + c / d is (A + B) / N reduced, where B / N = c / d -/
theorem frac_step {A N B c d : Nat} (hN : 0 < N) (hd : 0 < d) (hB : B * d = c * N) : frac (((A / Nat.gcd A N * d + c * (N / Nat.gcd A N) : Nat)) : Int) ((N / Nat.gcd A N * d : Nat) : Int) = frac ((A + B : Nat) : Int) (N : Int) := by
  have g0 : 0 < Nat.gcd A N := Nat.gcd_pos_of_pos_right _ hN
  have e1 : A / Nat.gcd A N * Nat.gcd A N = A := Nat.div_mul_cancel (Nat.gcd_dvd_left _ _)
  have e2 : N / Nat.gcd A N * Nat.gcd A N = N := Nat.div_mul_cancel (Nat.gcd_dvd_right _ _)
  have hq : 0 < N / Nat.gcd A N := Nat.pos_of_ne_zero fun z => by rw [z] at e2; omega
  refine frac_eq (Nat.mul_pos hq hd) hN ?_
  generalize A / Nat.gcd A N = p at *
  generalize N / Nat.gcd A N = q at *
  generalize Nat.gcd A N = g at *
  subst e1 e2
  have z : B * d * q = c * (q * g) * q := by rw [hB]
  calc (p * d + c * q) * (q * g) = p * g * (q * d) + c * (q * g) * q := by
        rw [Nat.add_mul]; simp only [Nat.mul_assoc, Nat.mul_comm, Nat.mul_left_comm]
    _ = p * g * (q * d) + B * d * q := by rw [z]
    _ = (p * g + B) * (q * d) := by rw [Nat.add_mul]; simp only [Nat.mul_assoc, Nat.mul_comm, Nat.mul_left_comm]
end L39
end

section
set_option autoImplicit false
set_option Elab.async false
set_option linter.all false
set_option maxRecDepth 100000
set_option maxHeartbeats 4000000
namespace L39
open PySem PySem.Spec L2 Pd Ev
section
variable {Φ : Phi} {γ : List S2} {e1 e2 : IE}
theorem lcGo_fil {F : D → Option (Option D)} {p : D → Bool} : ∀ {items : List D}, (∀ d ∈ items, F d = some (if p d then some d else none)) → lcGo F items = some (items.filter p)
  | [], _ => by unfold lcGo; rfl
  | d :: r, h => by
    unfold lcGo
    rw [h d (List.mem_cons_self ..), lcGo_fil fun x hx => h x (List.mem_cons_of_mem _ hx), List.filter_cons]
    cases p d <;> rfl
theorem lc_fil {items : List D} {p : D → Bool} {elt c : IE} {tg : List Nat} {k : IK} {its : List IE} (hs : (evD Φ γ its).bind (itms k) = some items) (hz : items.length ≤ 50000) (he : ∀ d ∈ items, ∃ γ2, put tg d (blk γ tg) = some γ2 ∧ ev Φ γ2 true c = some (.val (.bl (p d))) ∧ ev Φ γ2 false elt = some (.val d)) : ev Φ γ false (.lc elt tg k its [c]) = some (.new (items.filter p)) := by
  rw [ev_lc, tst_f, hs]
  show (if items.length ≤ 50000 then _ else _) = _
  rw [if_pos hz, lcGo_fil (p := p) fun d hd => ?_]
  · rfl
  · obtain ⟨γ2, h1, h2, h3⟩ := he d hd
    rw [h1]
    dsimp only
    rw [evC_cons, h2, h3]
    cases p d <;> rfl
theorem tst_int {j : Nat} {v : Int} (h : γ[j]? = some (.sh (.int v))) : ev Φ γ true (.loc j) = some (.val (.bl (v != 0))) := by rw [ev_loc, h] <;> rfl
theorem len_n {ds : List D} (h : ev Φ γ false e1 = some (.new ds)) : ev Φ γ false (.bi .len [e1]) = some (.val (.int ds.length)) := bi1_n h rfl
theorem eq_s {a b : Str} {t : Bool} (h1 : ev Φ γ false e1 = some (.val (.str a))) (h2 : ev Φ γ false e2 = some (.val (.str b))) : ev Φ γ t (.cmp .Eq e1 e2) = some (.val (.bl (decide (a = b)))) := cmp_v h1 h2 rfl
end
def isM (ks : List Int) (m : Str) (i j : Int) : D → Bool
  | .int x => decide (mkS (ks.getD i.toNat 0) (ks.getD x.toNat 0) (ks.getD j.toNat 0) = m)
  | _ => false
def cnM (ks : List Int) (m : Str) (i j : Int) : Nat := ((rngD (i + 1) (j - (i + 1)).toNat).filter (isM ks m i j)).length
theorem cnM_le (ks : List Int) (m : Str) (i j : Int) : cnM ks m i j ≤ (j - (i + 1)).toNat := by
  unfold cnM
  exact Nat.le_trans (List.length_filter_le _ _) (by rw [rngD_len]; exact Nat.le_refl _)
def mnB : List IS := [.asg (.fz [8, 4, 3]) 5 (.bi .len [(.lc (.loc 8) [8] .rg [(.bin .Add (.loc 3) (.cst (.int 1))), (.loc 4)] [(.cmp .Eq (.fn 3 [(.loc 0), (.loc 3), (.loc 8), (.loc 4)]) (.loc 1))])]), .ite (.loc 5) [.asgs (.fz [3, 4]) [6, 7] (.fn 4 [(.att (.loc 0) ("size" : PySem.Str)), (.loc 3), (.loc 4)]), .asg (.fz [2, 7, 5, 6]) 2 (.fn 5 [(.loc 2), (.tup [(.bin .Mult (.loc 5) (.loc 6)), (.loc 7)])])] []]
theorem fn_4 {Φ : Phi} {γ : List S2} {f : Nat} {e1 e2 e3 e4 : IE} {d1 d2 d3 d4 : D} (h1 : ev Φ γ false e1 = some (.val d1)) (h2 : ev Φ γ false e2 = some (.val d2)) (h3 : ev Φ γ false e3 = some (.val d3)) (h4 : ev Φ γ false e4 = some (.val d4)) : ev Φ γ false (.fn f [e1, e2, e3, e4]) = Φ.call f [d1, d2, d3, d4] := by rw [ev_fn, evL_cons, h1, and_val, evL_cons, h2, and_val, evL_cons, h3, and_val, evL_cons, h4, and_val, evL_nil, tst_f]
/-- how many beads of the span have the mark -/
theorem mn_cnt (C : Addr) (k : Nat) (ks : List Int) (fs : List (Str × D)) (S : Str39 ks fs) (hn : ks.length ≤ 24) (m : Str) (i j : Int) (h0 : 0 ≤ i) (h1 : i < j) (h2 : j < ks.length) (tot : D) (x5 x6 x7 : S2) :
    evS (wc (Phi39 C) (CA C (k + 2))) (.asg (.fz [8, 4, 3]) 5 (.bi .len [(.lc (.loc 8) [8] .rg [(.bin .Add (.loc 3) (.cst (.int 1))), (.loc 4)] [(.cmp .Eq (.fn 3 [(.loc 0), (.loc 3), (.loc 8), (.loc 4)]) (.loc 1))])])) [.sh (.obj C fs), .sh (.str m), .sh tot, .sh (.int i), .sh (.int j), x5, x6, x7, .no]
      = some (.nx [.sh (.obj C fs), .sh (.str m), .sh tot, .sh (.int i), .sh (.int j), .sh (.int (cnM ks m i j)), x6, x7, .no]) := by
  refine asg_v (ex_fz (len_n (lc_fil (items := rngD (i + 1) (j - (i + 1)).toNat) (p := isM ks m i j) ?_ (by rw [rngD_len]; omega) fun d hd => ?_)))
  · rw [evD2_v (add_i (loc_v (d := .int i) rfl) (cst_v (.int 1))) (loc_v (d := .int j) rfl), Option.bind_some]
    exact rg1 ⟨by omega, by omega⟩ ⟨by omega, by omega⟩
  · obtain ⟨x, rfl, q1, q2⟩ := rngD_mem hd
    refine ⟨_, rfl, eq_s ((fn_4 (loc_v rfl) (loc_v rfl) (loc_v rfl) (loc_v rfl)).trans (e_between C k ks fs S i x j h0 (by omega) (by omega) (by omega) (by omega) (by omega))) (loc_v rfl), loc_v rfl⟩
end L39
end

section
set_option autoImplicit false
set_option Elab.async false
set_option linter.all false
set_option maxRecDepth 100000
set_option maxHeartbeats 4000000
namespace L39
open PySem PySem.Spec L2 Pd Ev
theorem shT_pos (n i j : Int) (h : 0 ≤ i) (h1 : i + 1 < j) (h2 : j < n) (hn : n ≤ 24) : 1 ≤ (shT n i j).1 ∧ (shT n i j).1 ≤ 2 ∧ 1 ≤ (shT n i j).2 ∧ (shT n i j).2 ≤ 100000 := by
  unfold shT
  generalize hw : j - i - 1 = w
  have w1 : 1 ≤ w := by omega
  have w2 : w ≤ 24 := by omega
  have a : w * (w + 1) ≤ 24 * 25 := Int.mul_le_mul w2 (by omega) (by omega) (by decide)
  have a0 : 1 ≤ w * (w + 1) := by
    have := Int.mul_le_mul w1 (show (1 : Int) ≤ w + 1 by omega) (by decide) (by omega)
    omega
  have b : w * (w + 1) * (w + 2) ≤ 24 * 25 * 26 := Int.mul_le_mul a (by omega) (by omega) (by decide)
  have b0 : 1 ≤ w * (w + 1) * (w + 2) := by
    have := Int.mul_le_mul a0 (show (1 : Int) ≤ w + 2 by omega) (by decide) (by omega)
    omega
  split
  · exact ⟨by show (1 : Int) ≤ 1; decide, by show (1 : Int) ≤ 2; decide, w1, by show w ≤ 100000; omega⟩
  · split
    · exact ⟨by show (1 : Int) ≤ 1; decide, by show (1 : Int) ≤ 2; decide, a0, by show w * (w + 1) ≤ _; omega⟩
    · exact ⟨by show (1 : Int) ≤ 2; decide, by show (2 : Int) ≤ 2; decide, b0, by show w * (w + 1) * (w + 2) ≤ _; omega⟩
/-- a span that has such beads -/
theorem mn_add (C : Addr) (k : Nat) (ks : List Int) (fs : List (Str × D)) (S : Str39 ks fs) (hn : ks.length ≤ 24) (m : Str) (i j : Int) (h0 : 0 ≤ i) (h1 : i + 1 < j) (h2 : j < ks.length) (A N sh v : Nat) (hN : 0 < N) (hN2 : N < 2 ^ 100) (hA : A < 2 ^ 200) (hv : v ≤ 24)
    (hsh : sh * (shT ks.length i j).2.toNat = (shT ks.length i j).1.toNat * N) (x6 x7 : S2) :
    evSs (wc (Phi39 C) (CA C (k + 2))) [.asgs (.fz [3, 4]) [6, 7] (.fn 4 [(.att (.loc 0) ("size" : PySem.Str)), (.loc 3), (.loc 4)]), .asg (.fz [2, 7, 5, 6]) 2 (.fn 5 [(.loc 2), (.tup [(.bin .Mult (.loc 5) (.loc 6)), (.loc 7)])])] [.sh (.obj C fs), .sh (.str m), .sh (frac A N), .sh (.int i), .sh (.int j), .sh (.int v), x6, x7, .no]
      = some (.nx [.sh (.obj C fs), .sh (.str m), .sh (frac ((A + v * sh : Nat) : Int) N), .sh (.int i), .sh (.int j), .sh (.int v), .sh (.int (shT ks.length i j).1), .sh (.int (shT ks.length i j).2), .no]) := by
  have sp := shT_pos ks.length i j h0 h1 h2 (by omega)
  have es := e_share C (k + 1) ks.length i j (by omega) (by omega)
  have fs_ := frac_step (A := A) (N := N) (B := v * sh) (c := v * (shT ks.length i j).1.toNat) (d := (shT ks.length i j).2.toNat) hN (by omega) (by rw [Nat.mul_assoc, hsh, Nat.mul_assoc])
  generalize shT ks.length i j = tb at *
  obtain ⟨t, b⟩ := tb
  dsimp only at *
  obtain ⟨s1, s2, s3, s4⟩ := sp
  obtain ⟨tn, rfl⟩ : ∃ tn : Nat, t = tn := ⟨t.toNat, by omega⟩
  obtain ⟨bn, rfl⟩ : ∃ bn : Nat, b = bn := ⟨b.toNat, by omega⟩
  rw [Int.toNat_natCast, Int.toNat_natCast] at fs_
  have gp : 0 < Nat.gcd A N := Nat.gcd_pos_of_pos_right _ hN
  have a1 : A / Nat.gcd A N ≤ A := Nat.div_le_self _ _
  have n1 : N / Nat.gcd A N ≤ N := Nat.div_le_self _ _
  have e2 : N / Nat.gcd A N * Nat.gcd A N = N := Nat.div_mul_cancel (Nat.gcd_dvd_right _ _)
  have q0 : 0 < N / Nat.gcd A N := Nat.pos_of_ne_zero fun z => by rw [z] at e2; omega
  rw [frac_nat]
  generalize A / Nat.gcd A N = p at *
  generalize N / Nat.gcd A N = q at *
  have p200 : (2 : Nat) ^ 200 < 2 ^ 250 := by decide
  have p100 : (2 : Nat) ^ 100 < 2 ^ 250 := by decide
  have p17 : (100000 : Nat) < 2 ^ 250 := by decide
  have p48 : (48 : Nat) < 2 ^ 250 := by decide
  have vt : v * tn ≤ 24 * 2 := Nat.mul_le_mul hv (by omega)
  have mv : okMul (v : Int) (tn : Int) := okMul_s (by rw [Int.natAbs_natCast]; omega) (by rw [Int.natAbs_natCast]; omega)
  have qb : q * bn < 2 ^ 250 := Nat.lt_of_le_of_lt (Nat.mul_le_mul (Nat.le_trans n1 (Nat.le_of_lt hN2)) (show bn ≤ 100000 by omega)) (by decide)
  have m1 : okMul (p : Int) (bn : Int) := okMul_of (by rw [Int.natAbs_natCast]; exact Nat.lt_of_le_of_lt a1 (Nat.lt_trans hA p200)) (by rw [Int.natAbs_natCast]; exact Nat.lt_of_le_of_lt (show bn ≤ 100000 by omega) p17)
  have m2 : okMul ((v : Int) * (tn : Int)) (q : Int) := okMul_of (by rw [← Int.natCast_mul, Int.natAbs_natCast]; exact Nat.lt_of_le_of_lt vt p48) (by rw [Int.natAbs_natCast]; exact Nat.lt_of_le_of_lt n1 (Nat.lt_trans hN2 p100))
  have m3 : okMul (q : Int) (bn : Int) := okMul_of (by rw [Int.natAbs_natCast]; exact Nat.lt_of_le_of_lt n1 (Nat.lt_trans hN2 p100)) (by rw [Int.natAbs_natCast]; exact Nat.lt_of_le_of_lt (show bn ≤ 100000 by omega) p17)
  have eq1 : (p : Int) * bn + (v : Int) * tn * q = ((p * bn + v * tn * q : Nat) : Int) := by simp only [Int.natCast_add, Int.natCast_mul]
  have eq2 : (q : Int) * bn = ((q * bn : Nat) : Int) := by simp only [Int.natCast_mul]
  have qbp : 0 < q * bn := Nat.mul_pos q0 (by omega)
  have hg : okDiv (Nat.gcd ((p : Int) * bn + (v : Int) * tn * q).natAbs ((q : Int) * bn).natAbs : Nat) := by
    rw [eq1, eq2, Int.natAbs_natCast, Int.natAbs_natCast]
    have g1 := Nat.gcd_pos_of_pos_right (p * bn + v * tn * q) qbp
    have g2 := Nat.gcd_le_right (p * bn + v * tn * q) qbp
    exact okDiv_of (by omega) (by rw [Int.natAbs_natCast]; exact Nat.lt_of_le_of_lt g2 qb)
  have ef := e_frac C (k + 1) p q ((v : Int) * tn) bn m1 m2 m3 hg
  rw [eq1, eq2, fs_] at ef
  refine (st_nx (γ2 := [.sh (.obj C fs), .sh (.str m), .sh (.tup [.int p, .int q]), .sh (.int i), .sh (.int j), .sh (.int v), .sh (.int tn), .sh (.int bn), .no]) (asgs_v (d := .tup [.int tn, .int bn]) (ex_fz ((fn_3 (f := 4) (Φ := wc (Phi39 C) (CA C (k + 2))) (att_v (loc_v rfl) (fld_k C _ (by decide +kernel)) S.size) (loc_v rfl) (loc_v rfl)).trans es)) rfl)).trans ?_
  refine (st_nx (asg_v (ex_fz ((fn_2 (loc_v rfl) (tup_2 (mul_i (loc_v (d := .int (v : Int)) rfl) (loc_v (d := .int (tn : Int)) rfl) mv) (loc_v rfl))).trans ef)))).trans ?_
  rw [evSs_nil]
  rfl
end L39
end

section
set_option autoImplicit false
set_option Elab.async false
set_option linter.all false
set_option maxRecDepth 100000
set_option maxHeartbeats 4000000
namespace L39
open PySem PySem.Spec L2 Pd Ev
def pD (p : Int × Int) : D := .tup [.int p.1, .int p.2]
def sumA (sh : Int → Int → Nat) (ks : List Int) (m : Str) (sp : List (Int × Int)) : Nat := (sp.map fun p => cnM ks m p.1 p.2 * sh p.1 p.2).sum
theorem mn_go (C : Addr) (k : Nat) (ks : List Int) (fs : List (Str × D)) (S : Str39 ks fs) (hn : ks.length ≤ 24) (m : Str) (N : Nat) (sh : Int → Int → Nat) (hN : 0 < N) (hN2 : N < 2 ^ 100)
    (hsh : ∀ i j : Int, 0 ≤ i → i + 1 < j → j < ks.length → sh i j * (shT ks.length i j).2.toNat = (shT ks.length i j).1.toNat * N) :
    ∀ (sp : List (Int × Int)), (∀ p ∈ sp, 0 ≤ p.1 ∧ p.1 < p.2 ∧ p.2 < ks.length) → ∀ (A : Nat) (x3 x4 x5 x6 x7 : S2), A + sumA sh ks m sp < 2 ^ 200 → ∃ y3 y4 y5 y6 y7,
      forGo (put [3, 4]) (fun γ => evSs (wc (Phi39 C) (CA C (k + 2))) mnB γ) (sp.map pD) [.sh (.obj C fs), .sh (.str m), .sh (frac A N), x3, x4, x5, x6, x7, .no] = some (.nx [.sh (.obj C fs), .sh (.str m), .sh (frac ((A + sumA sh ks m sp : Nat) : Int) N), y3, y4, y5, y6, y7, .no]) := by
  intro sp
  induction sp with
  | nil => exact fun _ A x3 x4 x5 x6 x7 _ => ⟨x3, x4, x5, x6, x7, by rw [List.map_nil, forGo_nil] <;> rfl⟩
  | cons p sp ih =>
    intro hp A x3 x4 x5 x6 x7 hA
    obtain ⟨h0, h1, h2⟩ := hp p (List.mem_cons_self ..)
    have hsp := fun q hq => hp q (List.mem_cons_of_mem _ hq)
    have es : sumA sh ks m (p :: sp) = cnM ks m p.1 p.2 * sh p.1 p.2 + sumA sh ks m sp := by
      unfold sumA
      rw [List.map_cons, List.sum_cons]
    have cle := cnM_le ks m p.1 p.2
    have ct := fun (x5 x6 x7 : S2) => mn_cnt C k ks fs S hn m p.1 p.2 h0 h1 h2 (frac A N) x5 x6 x7
    rw [es] at hA ⊢
    have hput : put [3, 4] (pD p) [.sh (.obj C fs), .sh (.str m), .sh (frac A N), x3, x4, x5, x6, x7, .no] = some [.sh (.obj C fs), .sh (.str m), .sh (frac A N), .sh (.int p.1), .sh (.int p.2), x5, x6, x7, .no] := rfl
    rw [List.map_cons]
    by_cases hc : cnM ks m p.1 p.2 = 0
    · rw [hc, Nat.zero_mul, Nat.zero_add] at hA ⊢
      obtain ⟨y3, y4, y5, y6, y7, e⟩ := ih hsp A (.sh (.int p.1)) (.sh (.int p.2)) (.sh (.int (cnM ks m p.1 p.2))) x6 x7 hA
      refine ⟨y3, y4, y5, y6, y7, (forGo_nx _ _ _ _ _ _ _ hput ?_).trans e⟩
      refine (st_nx (ct x5 x6 x7)).trans ?_
      refine (st_nx (ite_f0 ((tst_int (v := (cnM ks m p.1 p.2 : Nat)) rfl).trans ?_))).trans (evSs_nil _ _)
      rw [hc] <;> rfl
    · have h1' : p.1 + 1 < p.2 := by omega
      have ad := mn_add C k ks fs S hn m p.1 p.2 h0 h1' h2 A N (sh p.1 p.2) (cnM ks m p.1 p.2) hN hN2 (by omega) (by omega) (hsh _ _ h0 h1' h2) x6 x7
      obtain ⟨y3, y4, y5, y6, y7, e⟩ := ih hsp (A + cnM ks m p.1 p.2 * sh p.1 p.2) (.sh (.int p.1)) (.sh (.int p.2)) (.sh (.int (cnM ks m p.1 p.2))) (.sh (.int (shT ks.length p.1 p.2).1)) (.sh (.int (shT ks.length p.1 p.2).2)) (by omega)
      rw [Nat.add_assoc] at e
      refine ⟨y3, y4, y5, y6, y7, (forGo_nx _ _ _ _ _ _ _ hput ?_).trans e⟩
      refine (st_nx (ct x5 x6 x7)).trans ?_
      refine (st_nx ((ite_t ((tst_int (v := (cnM ks m p.1 p.2 : Nat)) rfl).trans ?_)).trans ad)).trans (evSs_nil _ _)
      have z : (((cnM ks m p.1 p.2 : Nat) : Int) != 0) = true := by
        rw [bne_iff_ne]
        omega
      rw [z]
/-- the spans of n beads -/
def spans (n : Nat) : List (Int × Int) := (List.range n).flatMap fun i => (List.range (n - (i + 1))).map fun (x : Nat) => ((i : Int), ((i : Int) + 1 + (x : Int)))
theorem spans_D (n : Nat) : (rngD 0 n).flatMap (spansF n) = (spans n).map pD := by
  unfold spans rngD
  rw [List.flatMap_map, List.map_flatMap]
  congr 1
  funext i
  show ((List.range ((n : Int) - (0 + (i : Int) + 1)).toNat).map _).map _ = _
  rw [List.map_map, List.map_map, show ((n : Int) - (0 + (i : Int) + 1)).toNat = n - (i + 1) by omega]
  apply List.map_congr_left
  intro x _
  show D.tup [.int (0 + (i : Int)), .int (0 + (i : Int) + 1 + (x : Int))] = _
  rw [Int.zero_add]
  rfl
theorem spans_ok (n : Nat) : ∀ p ∈ spans n, 0 ≤ p.1 ∧ p.1 < p.2 ∧ p.2 < n := by
  intro p hp
  unfold spans at hp
  obtain ⟨i, hi, hp⟩ := List.mem_flatMap.mp hp
  obtain ⟨x, hx, rfl⟩ := List.mem_map.mp hp
  have := List.mem_range.mp hi
  have := List.mem_range.mp hx
  exact ⟨by show (0 : Int) ≤ (i : Int); omega, by show (i : Int) < (i : Int) + 1 + (x : Int); omega, by show (i : Int) + 1 + (x : Int) < (n : Int); omega⟩
end L39
end

section
set_option autoImplicit false
set_option Elab.async false
set_option linter.all false
set_option maxRecDepth 100000
set_option maxHeartbeats 4000000
namespace L39
open PySem PySem.Spec L2 Pd Ev
theorem frac0 {N : Nat} (hN : 0 < N) : frac ((0 : Nat) : Int) (N : Int) = .tup [.int 0, .int 1] := by
  rw [frac_nat, Nat.gcd_zero_left, Nat.zero_div, Nat.div_self hN] <;> rfl
theorem e_meanof (C : Addr) (k : Nat) (ks : List Int) (fs : List (Str × D)) (S : Str39 ks fs) (hn : ks.length ≤ 24) (m : Str) (N : Nat) (sh : Int → Int → Nat) (hN : 0 < N) (hN2 : N < 2 ^ 100)
    (hsh : ∀ i j : Int, 0 ≤ i → i + 1 < j → j < ks.length → sh i j * (shT ks.length i j).2.toNat = (shT ks.length i j).1.toNat * N) (hA : sumA sh ks m (spans ks.length) < 2 ^ 200) :
    CA C (k + 3) 6 [.obj C fs, .str m] = some (.val (frac ((sumA sh ks m (spans ks.length) : Nat) : Int) N)) := by
  rw [ca_fn (e := ⟨N6, ps6, ir6, none⟩) rfl rfl]
  obtain ⟨y3, y4, y5, y6, y7, e⟩ := mn_go C k ks fs S hn m N sh hN hN2 hsh (spans ks.length) (spans_ok _) 0 .no .no .no .no .no (by rw [Nat.zero_add]; exact hA)
  rw [Nat.zero_add, frac0 hN] at e
  refine runF_eq (γ := [.sh (.obj C fs), .sh (.str m), .no, .no, .no, .no, .no, .no, .no]) (o := .rt _) rfl rfl ?_ rfl
  refine (st_nx (γ2 := [.sh (.obj C fs), .sh (.str m), .sh (.tup [.int 0, .int 1]), .no, .no, .no, .no, .no, .no]) (asg_v (ex_pl (tup_2 (cst_v _) (cst_v _))))).trans ?_
  refine (st_nx ((for_ (items := (spans ks.length).map pD) (body := mnB) ?_).trans e)).trans ?_
  · rw [evD1_n (ds := (spans ks.length).map pD) ((fn_1 (f := 2) (Φ := wc (Phi39 C) (CA C (k + 2))) (loc_v rfl)).trans ((e_spans C (k + 1) ks fs S hn).trans (by rw [spans_D]))), Option.bind_some]
    rfl
  · exact st_rt (ret_v (ex_fz (loc_v rfl)))
def tlF (sh : Int → Int → Nat) (ks : List Int) (N : Nat) : D → D
  | .str m => frac ((sumA sh ks m (spans ks.length) : Nat) : Int) N
  | d => d
theorem e_tally (C : Addr) (k : Nat) (ks : List Int) (fs : List (Str × D)) (S : Str39 ks fs) (hn : ks.length ≤ 24) (N : Nat) (sh : Int → Int → Nat) (hN : 0 < N) (hN2 : N < 2 ^ 100)
    (hsh : ∀ i j : Int, 0 ≤ i → i + 1 < j → j < ks.length → sh i j * (shT ks.length i j).2.toNat = (shT ks.length i j).1.toNat * N) (hA : ∀ m, sumA sh ks m (spans ks.length) < 2 ^ 200) :
    CA C (k + 4) 7 [.obj C fs] = some (.val (.tup (MK.map (tlF sh ks N)))) := by
  rw [ca_fn (e := ⟨N7, ps7, ir7, none⟩) rfl rfl]
  refine runF_eq (γ := [.sh (.obj C fs), .no]) (o := .rt _) rfl rfl ?_ rfl
  refine st_rt (ret_v (ex_fz (bi1_n (lc_map (items := MK) (f := tlF sh ks N) ?_ (by decide) fun d hd => ?_) rfl)))
  · rw [evD1_v (d := marksD) (by rw [ev_glo, tst_f] <;> rfl), Option.bind_some] <;> rfl
  · obtain ⟨m, rfl⟩ : ∃ m, d = .str m := by
      simp only [MK, List.mem_cons, List.not_mem_nil, or_false] at hd
      rcases hd with rfl | rfl | rfl | rfl <;> exact ⟨_, rfl⟩
    exact ⟨_, rfl, (fn_2 (f := 6) (Φ := wc (Phi39 C) (CA C (k + 3))) (loc_v rfl) (loc_v rfl)).trans (e_meanof C k ks fs S hn m N sh hN hN2 hsh (hA m))⟩
end L39
end

section
set_option autoImplicit false
set_option Elab.async false
set_option linter.all false
set_option maxRecDepth 100000
set_option maxHeartbeats 4000000
namespace L39
open PySem PySem.Spec L2 Pd Ev
def lwB : List IS := [.ite (.cmp .Eq (.loc 3) (.cst (.int 0))) [.brk] [], .asg (.fz [3, 2]) 5 (.bin .Mod (.bi .int [(.loc 2)]) (.loc 3)), .asg (.fz [3]) 2 (.loc 3), .asg (.fz [5]) 3 (.loc 5)]
theorem lw_brk (Φ : Phi) (t b : Int) (h : Nat) (x4 x5 : S2) : evSs Φ lwB [.sh (.int t), .sh (.int b), .sh (.int h), .sh (.int 0), x4, x5] = some (.bk [.sh (.int t), .sh (.int b), .sh (.int h), .sh (.int 0), x4, x5]) :=
  st_bk ((ite_t (eq_i (loc_v rfl) (cst_v _) rfl)).trans (st_bk (by rw [evS_brk])))
theorem lw_nx (Φ : Phi) (t b : Int) (h l : Nat) (hl : 0 < l) (x4 x5 : S2) : evSs Φ lwB [.sh (.int t), .sh (.int b), .sh (.int h), .sh (.int l), x4, x5] = some (.nx [.sh (.int t), .sh (.int b), .sh (.int l), .sh (.int (h % l : Nat)), x4, .sh (.int (h % l : Nat))]) := by
  refine (st_nx (ite_f0 (eq_i (loc_v rfl) (cst_v _) (decide_eq_false (by omega))))).trans ?_
  refine (st_nx (γ2 := [.sh (.int t), .sh (.int b), .sh (.int h), .sh (.int l), x4, .sh (.int (h % l : Nat))]) (asg_v (ex_fz ((mod_i (int_i (loc_v rfl)) (loc_v rfl) (by omega)).trans (by rw [Int.natCast_emod]))))).trans ?_
  refine (st_nx (γ2 := [.sh (.int t), .sh (.int b), .sh (.int l), .sh (.int l), x4, .sh (.int (h % l : Nat))]) (asg_v (ex_fz (loc_v rfl)))).trans ?_
  refine (st_nx (asg_v (ex_fz (loc_v rfl)))).trans ?_
  rw [evSs_nil]
  rfl
theorem half_mod {l r : Nat} (h0 : 0 < r) (h : r ≤ l) : 2 * (l % r) < l + 1 ∧ l % r < r := by
  have h1 := Nat.mod_lt l h0
  have h2 := Nat.div_add_mod l r
  have h3 : 1 ≤ l / r := (Nat.le_div_iff_mul_le h0).mpr (by omega)
  have h4 : r * 1 ≤ r * (l / r) := Nat.mul_le_mul_left _ h3
  exact ⟨by omega, h1⟩
theorem lw_go (Φ : Phi) (t b : Int) : ∀ (m : Nat) (js : List Int), 2 * m + 1 ≤ js.length → ∀ (h l : Nat), l < 2 ^ m → ∀ (x4 x5 : S2), ∃ y3 y4 y5, forGo (put [4]) (fun γ => evSs Φ lwB γ) (js.map .int) [.sh (.int t), .sh (.int b), .sh (.int h), .sh (.int l), x4, x5] = some (.nx [.sh (.int t), .sh (.int b), .sh (.int (Nat.gcd h l : Nat)), y3, y4, y5]) := by
  have zero : ∀ (js : List Int), 1 ≤ js.length → ∀ (h : Nat) (x4 x5 : S2), ∃ y3 y4 y5, forGo (put [4]) (fun γ => evSs Φ lwB γ) (js.map .int) [.sh (.int t), .sh (.int b), .sh (.int h), .sh (.int (0 : Nat)), x4, x5] = some (.nx [.sh (.int t), .sh (.int b), .sh (.int (Nat.gcd h 0 : Nat)), y3, y4, y5]) := fun js hj h x4 x5 => by
    cases js with
    | nil => simp at hj
    | cons j js =>
      refine ⟨.sh (.int 0), .sh (.int j), x5, ?_⟩
      rw [List.map_cons, Nat.gcd_zero_right]
      exact forGo_bk _ _ _ _ _ _ _ rfl (lw_brk Φ t b h (.sh (.int j)) x5)
  intro m
  induction m with
  | zero =>
    intro js hj h l hl x4 x5
    obtain rfl : l = 0 := by simpa using hl
    exact zero js (by omega) h x4 x5
  | succ m ih =>
    intro js hj h l hl x4 x5
    by_cases l0 : l = 0
    · subst l0
      exact zero js (by omega) h x4 x5
    · match js, hj with
      | j :: js, hj =>
        simp only [List.length_cons] at hj
        have st1 := forGo_nx (put [4]) (fun γ => evSs Φ lwB γ) (.int j) (js.map .int) [.sh (.int t), .sh (.int b), .sh (.int h), .sh (.int l), x4, x5] _ _ rfl (lw_nx Φ t b h l (by omega) (.sh (.int j)) x5)
        rw [List.map_cons]
        have hg : Nat.gcd h l = Nat.gcd l (h % l) := by rw [Nat.gcd_comm h l, Nat.gcd_rec l h, Nat.gcd_comm]
        have hr := Nat.mod_lt h (show 0 < l by omega)
        by_cases r0 : h % l = 0
        · obtain ⟨y3, y4, y5, e⟩ := zero js (by omega) l (.sh (.int j)) (.sh (.int (h % l : Nat)))
          rw [r0] at st1 hg e
          rw [hg]
          exact ⟨y3, y4, y5, st1.trans e⟩
        · match js, hj with
          | j2 :: js, hj =>
            simp only [List.length_cons] at hj
            have st2 := forGo_nx (put [4]) (fun γ => evSs Φ lwB γ) (.int j2) (js.map .int) [.sh (.int t), .sh (.int b), .sh (.int l), .sh (.int (h % l : Nat)), .sh (.int j), .sh (.int (h % l : Nat))] _ _ rfl (lw_nx Φ t b l (h % l) (by omega) (.sh (.int j2)) (.sh (.int (h % l : Nat))))
            have hg2 : Nat.gcd l (h % l) = Nat.gcd (h % l) (l % (h % l)) := by rw [Nat.gcd_comm l (h % l), Nat.gcd_rec (h % l) l, Nat.gcd_comm]
            have hf := half_mod (l := l) (r := h % l) (by omega) (by omega)
            have hs : l % (h % l) < 2 ^ m := by
              rw [Nat.pow_succ] at hl
              omega
            obtain ⟨y3, y4, y5, e⟩ := ih js (by omega) (h % l) (l % (h % l)) hs (.sh (.int j2)) (.sh (.int (l % (h % l) : Nat)))
            rw [hg, hg2]
            rw [List.map_cons] at st1
            exact ⟨y3, y4, y5, (st1.trans st2).trans e⟩
          | [], hj => simp at hj
      | [], hj => simp at hj
theorem e_lowest (C : Addr) (k : Nat) (t b : Nat) (hb : 0 < b) (ht : t < 2 ^ 199) (hb2 : b < 2 ^ 199) : CA C (k + 1) 21 [.int t, .int b] = some (.val (frac t b)) := by
  rw [ca_fn (e := ⟨N21, ps21, ir21, none⟩) rfl rfl]
  obtain ⟨y3, y4, y5, e⟩ := lw_go (wc (Phi39 C) (CA C k)) t b 199 ((List.range 400).map fun i : Nat => (i : Int)) (by rw [List.length_map, List.length_range]; decide) b t ht .no .no
  rw [← rng0] at e
  refine runF_eq (γ := [.sh (.int t), .sh (.int b), .no, .no, .no, .no]) (o := .rt _) rfl rfl ?_ rfl
  refine (st_nx (γ2 := [.sh (.int t), .sh (.int b), .sh (.int b), .no, .no, .no]) (asg_v (ex_pl (loc_v rfl)))).trans ?_
  refine (st_nx (γ2 := [.sh (.int t), .sh (.int b), .sh (.int b), .sh (.int t), .no, .no]) (asg_v (ex_pl (loc_v rfl)))).trans ?_
  refine (st_nx ((for1 (d := .int ((400 : Nat) : Int)) (body := lwB) (items := rngD 0 400) (cst_v _) (it_rg0 (by decide))).trans e)).trans ?_
  have g0 := Nat.gcd_pos_of_pos_left t hb
  have gl := Nat.gcd_le_left t hb
  have hg : okDiv (Nat.gcd b t : Nat) := okDiv_of (by omega) (by rw [Int.natAbs_natCast]; exact Nat.lt_of_le_of_lt gl (Nat.lt_trans hb2 (by decide)))
  unfold frac
  rw [Int.natAbs_natCast, Int.natAbs_natCast, Nat.gcd_comm t b]
  generalize ((Nat.gcd b t : Nat) : Int) = g at hg
  exact st_rt (ret_v (ex_fz (tup_2 (div_i (loc_v rfl) (loc_v rfl) hg) (div_i (loc_v rfl) (loc_v rfl) hg))))
end L39
end

section
set_option autoImplicit false
set_option Elab.async false
set_option linter.all false
set_option maxRecDepth 100000
set_option maxHeartbeats 4000000
namespace L39
open PySem PySem.Spec L2 Pd Ev
section
variable {Φ : Phi} {γ : List S2} {e1 e2 : IE} {t : Bool}
theorem inb_v {d : D} {ty n : String} {q : Bool} (h : ev Φ γ false e1 = some (.val d)) (ht : d.tyN = some ty) (hk : kitB ty n = some q) : ev Φ γ t (.inb e1 n) = some (.val (.bl q)) := by
  rw [ev_inb, h, and_val, ht]
  dsimp only
  rw [hk]
  rfl
theorem isc_v {d c : D} {q : Bool} (h : ev Φ γ false e1 = some (.val d)) (hk : iscD c d = some q) : ev Φ γ t (.isc false e1 c) = some (.val (.bl q)) := by
  rw [ev_isc, h, and_val, hk]
  rfl
theorem ne_b {p q r : Bool} (h1 : ev Φ γ false e1 = some (.val (.bl p))) (h2 : ev Φ γ false e2 = some (.val (.bl q))) (h : (!decide (p = q)) = r) : ev Φ γ t (.cmp .NotEq e1 e2) = some (.val (.bl r)) := cmp_v h1 h2 (by subst h; rfl)
theorem ne_i {p q : Int} {r : Bool} (h1 : ev Φ γ false e1 = some (.val (.int p))) (h2 : ev Φ γ false e2 = some (.val (.int q))) (h : (!decide (p = q)) = r) : ev Φ γ t (.cmp .NotEq e1 e2) = some (.val (.bl r)) := cmp_v h1 h2 (by subst h; rfl)
theorem fnT {f : Nat} {as : List IE} {q : Bool} (h : ev Φ γ false (.fn f as) = some (.val (.bl q))) : ev Φ γ true (.fn f as) = some (.val (.bl q)) := by
  rw [ev_fn, tst_f] at h
  rw [ev_fn, h]
  rfl
theorem len_t {ds : List D} (h : ev Φ γ false e1 = some (.val (.tup ds))) : ev Φ γ false (.bi .len [e1]) = some (.val (.int ds.length)) := bi1_v h rfl
end
theorem k_ii : kitB "int" "int" = some true := by decide +kernel
theorem k_ib : kitB "int" "bool" = some false := by decide +kernel
theorem k_ti : kitB "tuple" "int" = some false := by decide +kernel
theorem k_ts : kitB "tuple" "str" = some false := by decide +kernel
theorem k_tl : kitB "tuple" "list" = some false := by decide +kernel
theorem k_tt : kitB "tuple" "tuple" = some true := by decide +kernel
theorem k_si : kitB "str" "int" = some false := by decide +kernel
theorem k_ss : kitB "str" "str" = some true := by decide +kernel
theorem e_isint (C : Addr) (k : Nat) (a : Int) : CA C (k + 1) 15 [.int a] = some (.val (.bl true)) := by
  rw [ca_fn (e := ⟨N15, ps15, ir15, none⟩) rfl rfl]
  refine runF_eq (γ := [.sh (.int a)]) (o := .rt (.bl true)) rfl rfl ?_ rfl
  exact st_rt (ret_v (ex_pl (and_t (inb_v (loc_v rfl) rfl k_ii) (not_v (inb_v (loc_v rfl) rfl k_ib)))))
/-- the two told things are the same -/
def Sm (C : Addr) (k : Nat) (d : D) : Prop := CA C k 16 [d, d] = some (.val (.bl true))
theorem e_same_i (C : Addr) (k : Nat) (a : Int) : Sm C (k + 2) (.int a) := by
  unfold Sm
  rw [ca_fn (e := ⟨N16, ps16, ir16, none⟩) rfl rfl]
  refine runF_eq (γ := [.sh (.int a), .sh (.int a), .no]) (o := .rt (.bl true)) rfl rfl ?_ rfl
  refine (st_nx (ite_f0 (isc_v (loc_v rfl) rfl))).trans ?_
  refine (st_nx (ite_f0 (isc_v (loc_v rfl) rfl))).trans ?_
  refine (st_nx (ite_f0 (isc_v (loc_v rfl) rfl))).trans ?_
  refine st_rt ((ite_t (inb_v (loc_v rfl) rfl k_ii)).trans (st_rt (ret_v (ex_pl (and_t ((fn_1 (d1 := .int a) (loc_v rfl)).trans (e_isint C k a)) (eq_i (loc_v rfl) (loc_v rfl) (decide_eq_true rfl)))))))
theorem e_same_s (C : Addr) (k : Nat) (a : Str) : Sm C (k + 1) (.str a) := by
  unfold Sm
  rw [ca_fn (e := ⟨N16, ps16, ir16, none⟩) rfl rfl]
  refine runF_eq (γ := [.sh (.str a), .sh (.str a), .no]) (o := .rt (.bl true)) rfl rfl ?_ rfl
  refine (st_nx (ite_f0 (isc_v (loc_v rfl) rfl))).trans ?_
  refine (st_nx (ite_f0 (isc_v (loc_v rfl) rfl))).trans ?_
  refine (st_nx (ite_f0 (isc_v (loc_v rfl) rfl))).trans ?_
  refine (st_nx (ite_f0 (inb_v (loc_v rfl) rfl k_si))).trans ?_
  refine st_rt ((ite_t (inb_v (loc_v rfl) rfl k_ss)).trans (st_rt (ret_v (ex_pl (and_t (inb_v (loc_v rfl) rfl k_ss) ((eq_s (loc_v rfl) (loc_v rfl)).trans ?_))))))
  rw [decide_eq_true rfl]
def smB : List IS := [.ite (.not (.fn 16 [(.sub (.loc 0) (.loc 2)), (.sub (.loc 1) (.loc 2))])) [.ret .pl (.cst (.bl false))] []]
theorem sm_go (C : Addr) (k : Nat) (ds : List D) (h : ∀ d ∈ ds, Sm C k d) : ∀ (js : List Int), (∀ j ∈ js, 0 ≤ j ∧ j.toNat < ds.length) → ∀ x2 : S2, ∃ y2, forGo (put [2]) (fun γ => evSs (wc (Phi39 C) (CA C k)) smB γ) (js.map .int) [.sh (.tup ds), .sh (.tup ds), x2] = some (.nx [.sh (.tup ds), .sh (.tup ds), y2]) := by
  intro js
  induction js with
  | nil => exact fun _ x2 => ⟨x2, by rw [List.map_nil, forGo_nil]⟩
  | cons j js ih =>
    intro hj x2
    obtain ⟨h0, h1⟩ := hj j (List.mem_cons_self ..)
    obtain ⟨y2, e⟩ := ih (fun q hq => hj q (List.mem_cons_of_mem _ hq)) (.sh (.int j))
    refine ⟨y2, ?_⟩
    rw [List.map_cons]
    have ha : atI ds j = some ds[j.toNat] := by
      unfold atI ixN
      have : j < (ds.length : Int) := by omega
      simp [h0, this]
    have hs : subD (.tup ds) (.int j) = some (.val ds[j.toNat]) := by
      show (atI ds j).map RR.val = _
      rw [ha]; rfl
    refine (forGo_nx _ _ _ _ _ _ _ rfl ?_).trans e
    have z : ∀ γ : List S2, γ[0]? = some (.sh (.tup ds)) → γ[1]? = some (.sh (.tup ds)) → γ[2]? = some (.sh (.int j)) → ev (wc (Phi39 C) (CA C k)) γ false (.fn 16 [(.sub (.loc 0) (.loc 2)), (.sub (.loc 1) (.loc 2))]) = some (.val (.bl true)) := fun γ a b c => (fn_2 (sub_v (loc_v a) (loc_v c) hs) (sub_v (loc_v b) (loc_v c) hs)).trans (h _ (List.getElem_mem h1))
    exact (st_nx (ite_f0 (not_v (q := true) (fnT (z _ rfl rfl rfl))))).trans (evSs_nil _ _)
theorem e_same_t (C : Addr) (k : Nat) (ds : List D) (hz : ds.length < 1000) (h : ∀ d ∈ ds, Sm C k d) : Sm C (k + 1) (.tup ds) := by
  unfold Sm
  rw [ca_fn (e := ⟨N16, ps16, ir16, none⟩) rfl rfl]
  obtain ⟨y2, e⟩ := sm_go C k ds h ((List.range ds.length).map fun i : Nat => (i : Int)) (fun j hj => by
    obtain ⟨i, hi, rfl⟩ := List.mem_map.mp hj
    have := List.mem_range.mp hi
    exact ⟨by omega, by omega⟩) .no
  rw [← rng0] at e
  refine runF_eq (γ := [.sh (.tup ds), .sh (.tup ds), .no]) (o := .rt (.bl true)) rfl rfl ?_ rfl
  refine (st_nx (ite_f0 (isc_v (loc_v rfl) rfl))).trans ?_
  refine (st_nx (ite_f0 (isc_v (loc_v rfl) rfl))).trans ?_
  refine (st_nx (ite_f0 (isc_v (loc_v rfl) rfl))).trans ?_
  refine (st_nx (ite_f0 (inb_v (loc_v rfl) rfl k_ti))).trans ?_
  refine (st_nx (ite_f0 (inb_v (loc_v rfl) rfl k_ts))).trans ?_
  refine (st_nx (ite_f0 (or_f (ne_b (inb_v (loc_v rfl) rfl k_tl) (inb_v (loc_v rfl) rfl k_tl) rfl) (ne_b (inb_v (loc_v rfl) rfl k_tt) (inb_v (loc_v rfl) rfl k_tt) rfl)))).trans ?_
  refine (st_nx (ite_f0 (and_t (not_v (inb_v (loc_v rfl) rfl k_tl)) (not_v (inb_v (loc_v rfl) rfl k_tt))))).trans ?_
  refine (st_nx (ite_f0 (ne_i (len_t (ds := ds) (loc_v rfl)) (len_t (ds := ds) (loc_v rfl)) (by rw [decide_eq_true rfl]; rfl)))).trans ?_
  refine (st_nx ((for1 (d := .int (ds.length : Int)) (body := smB) (items := rngD 0 ds.length) (len_t (loc_v rfl)) (it_rg0 hz)).trans e)).trans ?_
  exact st_rt (ret_v (ex_pl (cst_v _)))
end L39
end

section
set_option autoImplicit false
set_option Elab.async false
set_option linter.all false
set_option maxRecDepth 100000
set_option maxHeartbeats 4000000
namespace L39
open PySem PySem.Spec L2 Pd Ev
theorem ne_ii {Φ : Phi} {γ : List S2} {e1 e2 : IE} {t : Bool} {p q : Int} (h1 : ev Φ γ false e1 = some (.val (.int p))) (h2 : ev Φ γ false e2 = some (.val (.int q))) : ev Φ γ t (.cmp .NotEq e1 e2) = some (.val (.bl (!decide (p = q)))) := cmp_v h1 h2 rfl
def unP (ks : List Int) : D → Bool
  | .int x => !decide (ks.getD x.toNat 0 = ks.getD ((x + 1) % (ks.length : Int)).toNat 0)
  | _ => false
theorem e_unlike (C : Addr) (k : Nat) (ks : List Int) (h1 : 2 ≤ ks.length) (h2 : ks.length ≤ 24) : CA C (k + 1) 0 [.tup (ks.map .int)] = some (.new ((rngD 0 ks.length).filter (unP ks))) := by
  rw [ca_fn (e := ⟨N0, ps0, ir0, none⟩) rfl rfl]
  refine runF_eq (γ := [.sh (.tup (ks.map .int)), .no, .no]) (o := .rn _) rfl rfl ?_ rfl
  refine (st_nx (γ2 := [.sh (.tup (ks.map .int)), .sh (.int ks.length), .no]) (asg_v (ex_pl ((len_t (loc_v rfl)).trans (by rw [List.length_map]))))).trans ?_
  refine st_rn (ret_n (ex_fz (lc_fil (items := rngD 0 ks.length) (p := unP ks) ?_ (by rw [rngD_len]; omega) fun d hd => ?_)))
  · rw [evD1_v (d := .int ks.length) (loc_v rfl), Option.bind_some]
    exact it_rg0 (by omega)
  · obtain ⟨x, rfl, q1, q2⟩ := rngD_mem hd
    have hm := mod_nn (x + 1) ks.length (by omega)
    have hmt : ((x + 1) % (ks.length : Int)).toNat < ks.length := by
      generalize (x + 1) % (ks.length : Int) = z at *
      omega
    exact ⟨_, rfl, ne_ii (sub_ti (xs := ks) (loc_v rfl) (loc_v rfl) q1 (by omega)) (sub_ti (xs := ks) (loc_v rfl) (mod_i (add_i (loc_v (d := .int x) rfl) (cst_v (.int 1))) (loc_v (d := .int ks.length) rfl) (by omega)) hm.1 hmt), loc_v rfl⟩
end L39
end

section
set_option autoImplicit false
set_option Elab.async false
set_option linter.all false
set_option maxRecDepth 100000
set_option maxHeartbeats 4000000
namespace L39
open PySem PySem.Spec L2 Pd Ev
section
variable {Φ : Phi} {γ γ1 : List S2} {e1 e2 e3 : IE} {t : Bool}
theorem chn_t {x y z : Int} (h1 : ev Φ γ false e1 = some (.val (.int x))) (h2 : ev Φ γ false e2 = some (.val (.int y))) (h3 : ev Φ γ false e3 = some (.val (.int z))) (a : x ≤ y) (b : y ≤ z) : ev Φ γ t (.chn .LtE .LtE e1 e2 e3) = some (.val (.bl true)) := by
  rw [ev_chn, h1, and_val, h2, and_val]
  have c1 : cmpD .LtE (.int x) (.int y) = some true := by
    show some (decide (x ≤ y)) = _
    rw [decide_eq_true a]
  have c2 : cmpD .LtE (.int y) (.int z) = some true := by
    show some (decide (y ≤ z)) = _
    rw [decide_eq_true b]
  rw [c1]
  dsimp only
  rw [h3, and_val, c2]
  rfl
theorem fld_v {v : Vw} {f : Str} {C : Addr} {fs : List (Str × D)} {d : D} (h : evP Φ γ v e1 = some (γ1, .val d)) (h0 : γ1[0]? = some (.ob C fs)) (hl : fs.length < 1000) (hf : Φ.fld C f = true) : evS Φ (.fld v f e1) γ = some (.nx (γ1.set 0 (.ob C (putFD f d fs)))) := by
  rw [evS_fld, h]
  dsimp only
  rw [h0]
  exact if_pos ⟨hl, hf⟩
end
def inB : List IS := [.ite (.not (.chn .LtE .LtE (.cst (.int 0)) (.loc 3) (.con 0 ("TOP_KIND" : PySem.Str)))) [.raise (.fz [2]) 1 (.loc 2)] []]
theorem con_top (C : Addr) (g : Nat → List D → Option RR) (γ : List S2) : ev (wc (Phi39 C) g) γ false (.con 0 ("TOP_KIND" : PySem.Str)) = some (.val (.int 999)) := by
  rw [ev_con, tst_f]
  rfl
theorem con_most (C : Addr) (g : Nat → List D → Option RR) (γ : List S2) : ev (wc (Phi39 C) g) γ false (.con 0 ("MOST" : PySem.Str)) = some (.val (.int 24)) := by
  rw [ev_con, tst_f]
  rfl
theorem in_go (C : Addr) (g : Nat → List D → Option RR) (fs : List (Str × D)) (x : D) : ∀ (ps : List (Int × Int)), (∀ p ∈ ps, 0 ≤ p.2 ∧ p.2 < 1000) → ∀ (x2 x3 : S2), ∃ y2 y3, forGo (put [2, 3]) (fun γ => evSs (wc (Phi39 C) g) inB γ) (ps.map pD) [.ob C fs, .sh x, x2, x3] = some (.nx [.ob C fs, .sh x, y2, y3]) := by
  intro ps
  induction ps with
  | nil => exact fun _ x2 x3 => ⟨x2, x3, by rw [List.map_nil, forGo_nil]⟩
  | cons p ps ih =>
    intro hp x2 x3
    obtain ⟨h0, h1⟩ := hp p (List.mem_cons_self ..)
    obtain ⟨y2, y3, e⟩ := ih (fun q hq => hp q (List.mem_cons_of_mem _ hq)) (.sh (.int p.1)) (.sh (.int p.2))
    refine ⟨y2, y3, ?_⟩
    rw [List.map_cons]
    refine (forGo_nx _ _ _ _ _ _ _ rfl ?_).trans e
    exact (st_nx (ite_f0 (not_v (q := true) (chn_t (cst_v _) (loc_v rfl) (con_top C g _) h0 (by omega))))).trans (evSs_nil _ _)
end L39
end

section
set_option autoImplicit false
set_option Elab.async false
set_option linter.all false
set_option maxRecDepth 100000
set_option maxHeartbeats 4000000
namespace L39
open PySem PySem.Spec L2 Pd Ev
theorem ca_in {C : Addr} {k : Nat} {ds : List D} : CA C (k + 1) 27 ds = runI (wc (Phi39 C) (CA C k)) ⟨N27, ps27, ir27, some 0⟩ C ds := rfl
theorem runI_eq {Φ : Phi} {e : En} {C : Addr} {ds : List D} {γ γ2 : List S2} {fs : List (Str × D)} (h : ds.length + 1 = e.ps.length) (hg : stI e.N C ds = γ) (ho : evSs Φ e.ir γ = some (.nx γ2)) (hr : γ2[0]? = some (.ob C fs)) : runI Φ e C ds = some (.val (.obj C fs)) := by
  unfold runI
  rw [if_pos h, hg, ho, Option.bind_some]
  show (match (γ2[0]? : Option S2) with
    | some (S2.ob C' fs) => if C' = C then some (RR.val (.obj C fs)) else none
    | _ => none) = _
  rw [hr]
  exact if_pos rfl
theorem ints_map : ∀ ks : List Int, ints? (ks.map D.int) = some ks
  | [] => rfl
  | k :: r => by
    rw [List.map_cons]
    unfold ints?
    rw [ints_map r] <;> rfl
def f1 (ks : List Int) : List (Str × D) := [("kinds", .tup (ks.map .int))]
def f2 (ks : List Int) : List (Str × D) := [("kinds", .tup (ks.map .int)), ("size", .int ks.length)]
def f3 (ks : List Int) (u : Int) : List (Str × D) := [("kinds", .tup (ks.map .int)), ("size", .int ks.length), ("unlike_pairs", .int u)]
def f4 (ks : List Int) (u e : Int) : List (Str × D) := [("kinds", .tup (ks.map .int)), ("size", .int ks.length), ("unlike_pairs", .int u), ("ends_unlike", .int e)]
def f5 (ks : List Int) (u e w : Int) : List (Str × D) := [("kinds", .tup (ks.map .int)), ("size", .int ks.length), ("unlike_pairs", .int u), ("ends_unlike", .int e), ("variety", .int w)]
theorem lkK (d : D) (l : List (Str × D)) : List.lookup ("kinds" : PySem.Str) (("kinds", d) :: l) = some d := by simp [List.lookup]
theorem f5_ok (ks : List Int) (u e w : Int) : Str39 ks (f5 ks u e w) := ⟨rfl, rfl⟩
theorem e_init (C : Addr) (k : Nat) (ks : List Int) (h1 : 2 ≤ ks.length) (h2 : ks.length ≤ 24) (hk : In 0 1000 ks) (X : D) (hx1 : biD .len [X] = iv ks.length) (hx2 : biD .tuple [X] = some (.val (.tup (ks.map .int)))) (hx3 : itms .en [X] = some (enD (ks.map .int))) : ∃ fs, Str39 ks fs ∧ CA C (k + 2) 27 [X] = some (.val (.obj C fs)) := by
  have hen : enD (ks.map D.int) = ((List.range ks.length).map fun (i : Nat) => ((i : Int), ks.getD i 0)).map pD := by
    unfold enD
    rw [List.map_map, List.length_map]
    apply List.map_congr_left
    intro i hi
    have := List.mem_range.mp hi
    show D.tup [.int (i : Int), (ks.map D.int).getD i .non] = _
    rw [List.getD_eq_getElem?_getD, List.getElem?_map, List.getElem?_eq_getElem this]
    show _ = D.tup [.int (i : Int), .int (ks.getD i 0)]
    rw [List.getD_eq_getElem?_getD, List.getElem?_eq_getElem this] <;> rfl
  obtain ⟨y2, y3, e⟩ := in_go C (CA C (k + 1)) [] X ((List.range ks.length).map fun (i : Nat) => ((i : Int), ks.getD i 0)) (fun p hp => by
    obtain ⟨i, hi, rfl⟩ := List.mem_map.mp hp
    exact hk.at (List.mem_range.mp hi)) .no .no
  rw [← hen] at e
  have hu := e_unlike C k ks h1 h2
  generalize hun : (rngD 0 ks.length).filter (unP ks) = us at hu
  refine ⟨f5 ks us.length (if ks.getD 0 0 ≠ ks.getD (ks.length - 1) 0 then 1 else 0) (kinds ks).length, f5_ok _ _ _ _, ?_⟩
  rw [ca_in]
  refine runI_eq (γ := [.ob C [], .sh X, .no, .no]) (γ2 := [.ob C (f5 ks us.length (if ks.getD 0 0 ≠ ks.getD (ks.length - 1) 0 then 1 else 0) (kinds ks).length), .sh X, y2, y3]) rfl rfl ?_ rfl
  have ak : ∀ (γ : List S2) (fs : List (Str × D)), fs.lookup ("kinds" : PySem.Str) = some (D.tup (ks.map .int)) → γ[0]? = some (.sh (.obj C fs)) → ev (wc (Phi39 C) (CA C (k + 1))) γ false (.att (.loc 0) ("kinds" : PySem.Str)) = some (.val (.tup (ks.map .int))) := fun γ fs q h => att_v (loc_v h) (fld_k C _ (by decide +kernel)) q
  refine (st_nx (ite_f0 (not_v (q := true) (chn_t (cst_v _) (bi1_v (loc_v rfl) hx1) (con_most C _ _) (by omega) (by omega))))).trans ?_
  refine (st_nx ((for1 (body := inB) (items := enD (ks.map .int)) (loc_v (d := X) rfl) hx3).trans e)).trans ?_
  refine (st_nx (γ2 := [.ob C (f1 ks), .sh X, y2, y3]) (fld_v (f := "kinds") (C := C) (fs := []) (ex_pl (bi1_v (loc_v (d := X) rfl) hx2)) rfl (by decide) (fld_k C _ (by decide +kernel)))).trans ?_
  refine (st_nx (γ2 := [.ob C (f2 ks), .sh X, y2, y3]) (fld_v (f := "size") (C := C) (fs := f1 ks) (ex_vo ((len_t (ak _ (f1 ks) (lkK _ _) rfl)).trans (by rw [List.length_map])) rfl) rfl (by show 1 < 1000; decide) (fld_k C _ (by decide +kernel)))).trans ?_
  have h1u : ∀ γ : List S2, γ[0]? = some (.sh (.obj C (f2 ks))) → ev (wc (Phi39 C) (CA C (k + 1))) γ false (.fn 0 [.att (.loc 0) ("kinds" : PySem.Str)]) = some (.new us) := fun γ h => by
    rw [fn_1 (f := 0) (ak γ (f2 ks) (lkK _ _) h), wc_call]
    exact hu
  refine (st_nx (γ2 := [.ob C (f3 ks us.length), .sh X, y2, y3]) (fld_v (f := "unlike_pairs") (C := C) (fs := f2 ks) (d := .int (us.length : Int)) (ex_vo (x := .val (.int (us.length : Int))) (len_n (ds := us) (h1u _ rfl)) rfl) rfl (by show 2 < 1000; decide) (fld_k C _ (by decide +kernel)))).trans ?_
  have hl : subD (.tup (ks.map .int)) (.int (-1)) = some (.val (.int (ks.getD (ks.length - 1) 0))) := by
    show (atI (ks.map D.int) (-1)).map RR.val = _
    have z : atI (ks.map D.int) (-1) = some (.int (ks.getD (ks.length - 1) 0)) := by
      unfold atI ixN
      have a : ¬ (0 : Int) ≤ -1 := by decide
      have b : ks.length - 1 < ks.length := by omega
      have c : ((ks.map D.int).length : Int) + -1 = ((ks.length - 1 : Nat) : Int) := by rw [List.length_map]; omega
      simp [List.getD_eq_getElem?_getD, List.getElem?_eq_getElem b]
      have e1 : (1 : Int) ≤ (ks.length : Int) := by omega
      have e2 : (-1 + (ks.length : Int)).toNat = ks.length - 1 := by omega
      rw [if_pos e1, Option.bind_some, e2, List.getElem?_eq_getElem b, Option.map_some]
    rw [z] <;> rfl
  have cmp : ∀ (γ : List S2) (t : Bool), γ[0]? = some (.sh (.obj C (f3 ks us.length))) → ev (wc (Phi39 C) (CA C (k + 1))) γ t (.cmp .NotEq (.sub (.att (.loc 0) ("kinds" : PySem.Str)) (.cst (.int 0))) (.sub (.att (.loc 0) ("kinds" : PySem.Str)) (.neg (.cst (.int 1))))) = some (.val (.bl (!decide (ks.getD 0 0 = ks.getD (ks.length - 1) 0)))) := fun γ t h =>
    ne_ii (sub_ti (xs := ks) (ak γ _ (lkK _ _) h) (cst_v (.int 0)) (by decide) (by show 0 < _; omega)) (sub_v (ak γ _ (lkK _ _) h) (by rw [ev_neg, cst_v, and_val, tst_f] <;> rfl) hl)
  refine (st_nx (γ2 := [.ob C (f4 ks us.length (if ks.getD 0 0 ≠ ks.getD (ks.length - 1) 0 then 1 else 0)), .sh X, y2, y3]) (fld_v (f := "ends_unlike") (C := C) (fs := f3 ks us.length) (d := .int (if ks.getD 0 0 ≠ ks.getD (ks.length - 1) 0 then 1 else 0)) (ex_vo ?_ rfl) rfl (by show 3 < 1000; decide) (fld_k C _ (by decide +kernel)))).trans ?_
  · by_cases q : ks.getD 0 0 = ks.getD (ks.length - 1) 0
    · rw [if_neg (fun z => z q)]
      exact ife_f ((cmp _ true rfl).trans (by rw [decide_eq_true q] <;> rfl)) (cst_v _)
    · rw [if_pos q]
      exact ife_t ((cmp _ true rfl).trans (by rw [decide_eq_false q] <;> rfl)) (cst_v _)
  · refine (st_nx (fld_v (f := "variety") (C := C) (fs := f4 ks us.length (if ks.getD 0 0 ≠ ks.getD (ks.length - 1) 0 then 1 else 0)) (d := .int (kinds ks).length) (ex_vo (bi1_v (ak _ (f4 ks us.length (if ks.getD 0 0 ≠ ks.getD (ks.length - 1) 0 then 1 else 0)) (lkK _ _) rfl) ?_) rfl) rfl (by show 4 < 1000; decide) (fld_k C _ (by decide +kernel)))).trans ?_
    · show (ints? (ks.map D.int)).bind _ = _
      rw [ints_map, Option.bind_some]
      exact if_pos (by omega)
    · rw [evSs_nil]
      rfl
end L39
end

section
set_option autoImplicit false
set_option Elab.async false
set_option linter.all false
set_option maxRecDepth 100000
set_option maxHeartbeats 4000000
namespace L39
open PySem PySem.Spec L2 Pd Ev
def lsh (N w e : Int) : Int := if e = 2 then N / w else if e = 1 then N / (w * (w + 1)) else 2 * N / (w * (w + 1) * (w + 2))
theorem e_lshare (C : Addr) (k : Nat) (N w e : Int) (h1 : 1 ≤ w) (h2 : w ≤ 24) (hN : N.natAbs < 2 ^ 100) : CA C (k + 1) 23 [.int N, .int w, .int e] = some (.val (.int (lsh N w e))) := by
  rw [ca_fn (e := ⟨N23, ps23, ir23, none⟩) rfl rfl]
  refine runF_eq (γ := [.sh (.int N), .sh (.int w), .sh (.int e)]) (o := .rt _) rfl rfl ?_ rfl
  have a : w * (w + 1) ≤ 24 * 25 := Int.mul_le_mul h2 (by omega) (by omega) (by decide)
  have a0 : 1 ≤ w * (w + 1) := by
    have := Int.mul_le_mul h1 (show (1 : Int) ≤ w + 1 by omega) (by decide) (by omega)
    omega
  have b : w * (w + 1) * (w + 2) ≤ 24 * 25 * 26 := Int.mul_le_mul a (by omega) (by omega) (by decide)
  have b0 : 1 ≤ w * (w + 1) * (w + 2) := by
    have := Int.mul_le_mul a0 (show (1 : Int) ≤ w + 2 by omega) (by decide) (by omega)
    omega
  have k1 : okMul w (w + 1) := okMul_s (by omega) (by omega)
  have k2 : okMul (w * (w + 1)) (w + 2) := okMul_s (by omega) (by omega)
  have k3 : okMul 2 N := okMul_of (by decide) (Nat.lt_trans hN (by decide))
  unfold lsh
  by_cases q : e = 2
  · rw [if_pos q]
    exact st_rt ((ite_t (eq_i (loc_v rfl) (cst_v _) (decide_eq_true q))).trans (st_rt (ret_v (ex_pl (div_i (loc_v rfl) (loc_v rfl) (okDiv_s (by omega) (by omega)))))))
  · rw [if_neg q]
    refine (st_nx (ite_f0 (eq_i (loc_v rfl) (cst_v _) (decide_eq_false q)))).trans ?_
    by_cases q2 : e = 1
    · rw [if_pos q2]
      exact st_rt ((ite_t (eq_i (loc_v rfl) (cst_v _) (decide_eq_true q2))).trans (st_rt (ret_v (ex_pl (div_i (loc_v rfl) (mul_i (loc_v rfl) (add_i (loc_v rfl) (cst_v _)) k1) (okDiv_s (by omega) (by omega)))))))
    · rw [if_neg q2]
      refine (st_nx (ite_f0 (eq_i (loc_v rfl) (cst_v _) (decide_eq_false q2)))).trans ?_
      exact st_rt (ret_v (ex_pl (div_i (mul_i (cst_v _) (loc_v rfl) k3) (mul_i (mul_i (loc_v rfl) (add_i (loc_v rfl) (cst_v _)) k1) (add_i (loc_v rfl) (cst_v _)) k2) (okDiv_s (by omega) (by omega)))))
end L39
end

section
set_option autoImplicit false
set_option Elab.async false
set_option linter.all false
set_option maxRecDepth 100000
set_option maxHeartbeats 4000000
namespace L39
open PySem PySem.Spec L2 Pd Ev
def ins (x : Int) (r : List Int) : List (List Int) := (List.range (r.length + 1)).map fun a => r.take a ++ x :: r.drop a
def ords (xs : List Int) : List (List Int) := xs.foldl (fun rows x => rows.flatMap (ins x)) [[]]
theorem e_ord2 (C : Addr) (k : Nat) : CA C (k + 1) 14 [.lst (([] : List Int).map .int)] = some (.val (.lst ((ords []).map fun r => .lst (r.map .int)))) := by kernel_rfl
theorem e_ord3 (C : Addr) (k : Nat) : CA C (k + 1) 14 [.lst (([1] : List Int).map .int)] = some (.val (.lst ((ords [1]).map fun r => .lst (r.map .int)))) := by kernel_rfl
theorem e_ord4 (C : Addr) (k : Nat) : CA C (k + 1) 14 [.lst (([1, 2] : List Int).map .int)] = some (.val (.lst ((ords [1, 2]).map fun r => .lst (r.map .int)))) := by kernel_rfl
theorem e_ord5 (C : Addr) (k : Nat) : CA C (k + 1) 14 [.lst (([1, 2, 3] : List Int).map .int)] = some (.val (.lst ((ords [1, 2, 3]).map fun r => .lst (r.map .int)))) := by kernel_rfl
theorem e_ord6 (C : Addr) (k : Nat) : CA C (k + 1) 14 [.lst (([1, 2, 3, 4] : List Int).map .int)] = some (.val (.lst ((ords [1, 2, 3, 4]).map fun r => .lst (r.map .int)))) := by kernel_rfl
theorem e_ord7 (C : Addr) (k : Nat) : CA C (k + 1) 14 [.lst (([1, 2, 3, 4, 5] : List Int).map .int)] = some (.val (.lst ((ords [1, 2, 3, 4, 5]).map fun r => .lst (r.map .int)))) := by kernel_rfl
end L39
end

section
set_option autoImplicit false
set_option Elab.async false
set_option linter.all false
set_option maxRecDepth 100000
set_option maxHeartbeats 4000000
namespace L39
open PySem PySem.Spec L2 Pd Ev
/-! ### the law's own sums over the spans -/
def intsF (a : Int) : Nat → List Int
  | 0 => []
  | n + 1 => a :: intsF (a + 1) n
theorem rngD_succ (a : Int) (n : Nat) : rngD a (n + 1) = .int a :: rngD (a + 1) n := by
  unfold rngD
  rw [List.range_succ_eq_map, List.map_cons, List.map_map]
  congr 1
  · simp
  · apply List.map_congr_left
    intro x _
    show D.int (a + ((x + 1 : Nat) : Int)) = D.int (a + 1 + (x : Int))
    congr 1
    omega
theorem rngD_ints : ∀ (n : Nat) (a : Int), rngD a n = (intsF a n).map .int
  | 0, a => rfl
  | n + 1, a => by rw [rngD_succ, rngD_ints n (a + 1)] <;> rfl
theorem intsF_mem : ∀ {n : Nat} {a x : Int}, x ∈ intsF a n → a ≤ x ∧ x < a + n
  | n + 1, a, x, h => by
    rcases List.mem_cons.mp h with rfl | h
    · omega
    · have := intsF_mem h
      omega
theorem intsF_len : ∀ (n : Nat) (a : Int), (intsF a n).length = n
  | 0, _ => rfl
  | n + 1, a => by show (intsF (a + 1) n).length + 1 = _; rw [intsF_len n]
theorem ints_range : ∀ (n : Nat) (a : Int), intsF a n = (List.range n).map fun (x : Nat) => a + (x : Int)
  | 0, a => rfl
  | n + 1, a => by
    rw [List.range_succ_eq_map, List.map_cons, List.map_map]
    show a :: intsF (a + 1) n = _
    rw [ints_range n (a + 1)]
    congr 1
    · simp
    · apply List.map_congr_left
      intro x _
      show a + 1 + (x : Int) = a + ((x + 1 : Nat) : Int)
      omega
def fct : Nat → Nat
  | 0 => 1
  | n + 1 => fct n * (n + 1)
theorem fct_lt : ∀ n : Nat, n < 25 → fct n < 2 ^ 90 := by decide +kernel
theorem fct_pos : ∀ n : Nat, 0 < fct n
  | 0 => by decide
  | n + 1 => Nat.mul_pos (fct_pos n) (by omega)
def fcB : List IS := [.asg (.fz [2, 3]) 2 (.bin .Mult (.loc 2) (.loc 3))]
theorem fc_go (Φ : Phi) (L : D) (n : Int) : ∀ (c a : Nat), a + c < 25 → ∀ (x3 : S2), ∃ y3, forGo (put [3]) (fun γ => evSs Φ fcB γ) (rngD ((a : Int) + 1) c) [.sh L, .sh (.int n), .sh (.int (fct a)), x3, .no, .no, .no, .no, .no, .no] = some (.nx [.sh L, .sh (.int n), .sh (.int (fct (a + c))), y3, .no, .no, .no, .no, .no, .no]) := by
  intro c
  induction c with
  | zero => exact fun a _ x3 => ⟨x3, by rw [show rngD ((a : Int) + 1) 0 = [] from rfl, forGo_nil] <;> rfl⟩
  | succ c ih =>
    intro a ha x3
    obtain ⟨y3, e⟩ := ih (a + 1) (by omega) (.sh (.int ((a : Int) + 1)))
    rw [show (((a + 1 : Nat) : Int) + 1) = (a : Int) + 1 + 1 by omega, show a + 1 + c = a + (c + 1) by omega] at e
    refine ⟨y3, ?_⟩
    rw [rngD_succ]
    refine (forGo_nx _ _ _ _ _ _ _ rfl ?_).trans e
    have b := fct_lt a (by omega)
    have m : okMul (fct a : Int) ((a : Int) + 1) := okMul_of (by rw [Int.natAbs_natCast]; exact Nat.lt_trans b (by decide)) (by
      have : ((a : Int) + 1).natAbs < 100 := by omega
      exact Nat.lt_trans this (by decide))
    refine (st_nx (asg_v (ex_fz ((mul_i (loc_v (d := .int (fct a : Int)) rfl) (loc_v (d := .int ((a : Int) + 1)) rfl) m).trans (show _ = some (RR.val (.int (fct (a + 1) : Nat))) from ?_))))).trans (evSs_nil _ _)
    show some (RR.val (.int ((fct a : Int) * ((a : Int) + 1)))) = some (RR.val (.int ((fct a * (a + 1) : Nat) : Int)))
    rw [Int.natCast_mul] <;> rfl
section
variable {Φ : Phi} {γ γ1 : List S2} {e e1 e2 ix : IE}
theorem bm_n {b : BM} {ds : List D} {y : D} {r : RR} (h1 : ev Φ γ false e1 = some (.new ds)) (h2 : ev Φ γ false e2 = some (.val y)) (ht : bmT b (.lst ds) = true) (hr : bmD b (.lst ds) [y] = some r) : ev Φ γ false (.bm b e1 [e2]) = some r := by
  rw [ev_bm, h1, and_new, if_pos ht, evL_cons, h2, and_val, evL_nil, tst_f, hr]
theorem bm_l {b : BM} {ds : List D} {y : D} {r : RR} (h1 : ev Φ γ false e1 = some (.val (.lst ds))) (h2 : ev Φ γ false e2 = some (.val y)) (ht : bmT b (.lst ds) = true) (hr : bmD b (.lst ds) [y] = some r) : ev Φ γ false (.bm b e1 [e2]) = some r := by
  rw [ev_bm, h1, and_val, if_pos ht, evL_cons, h2, and_val, evL_nil, tst_f, hr]
theorem seti_ {v : Vw} {i n : Nat} {j : Int} {d : D} {ds : List D} (h : evP Φ γ v e = some (γ1, .val d)) (hx : ev Φ (γ1.map S2.vwO) false ix = some (.val (.int j))) (hi : γ1[i]? = some (.ow ds)) (hn : ixN ds.length j = some n) : evS Φ (.seti v i ix e) γ = some (.nx (γ1.set i (.ow (ds.set n d)))) := by
  rw [evS_seti, h]
  dsimp only
  rw [hx, hi]
  show (ixN ds.length j).map _ = _
  rw [hn] <;> rfl
theorem mks_v {C : Addr} {k : Nat} {γ : List S2} : ev (wc (Phi39 C) (CA C (k + 1))) γ false (.fnk 20 0 [] []) = some (.new MK) := by
  rw [ev_fnk, evL_nil, evL_nil, tst_f]
  exact e_marks C k
end
def tt (f : Str → Nat) : List D := [.int (f "quiet" : Nat), .int (f "odd" : Nat), .int (f "edge" : Nat), .int (f "strife" : Nat)]
def upd (f : Str → Nat) (m : Str) (s : Nat) : Str → Nat := fun x => if m = x then f x + s else f x
theorem mkS4 (a b c : Int) : mkS a b c = "quiet" ∨ mkS a b c = "odd" ∨ mkS a b c = "edge" ∨ mkS a b c = "strife" := by
  unfold mkS
  split
  · split
    · exact .inl rfl
    · exact .inr (.inl rfl)
  · split
    · exact .inr (.inr (.inl rfl))
    · exact .inr (.inr (.inr rfl))
def ixM (m : Str) : Nat := if m = "quiet" then 0 else if m = "odd" then 1 else if m = "edge" then 2 else 3
theorem ix_MK {a b c : Int} : bmD .index (.lst MK) [.str (mkS a b c)] = some (.val (.int (ixM (mkS a b c) : Nat))) := by
  rcases mkS4 a b c with h | h | h | h <;> rw [h] <;> kernel_rfl
theorem ne1 : (("quiet" : Str) = "odd") = False := by simp only [eq_iff_iff, iff_false]; decide +kernel
theorem ne2 : (("quiet" : Str) = "edge") = False := by simp only [eq_iff_iff, iff_false]; decide +kernel
theorem ne3 : (("quiet" : Str) = "strife") = False := by simp only [eq_iff_iff, iff_false]; decide +kernel
theorem ne4 : (("odd" : Str) = "quiet") = False := by simp only [eq_iff_iff, iff_false]; decide +kernel
theorem ne5 : (("odd" : Str) = "edge") = False := by simp only [eq_iff_iff, iff_false]; decide +kernel
theorem ne6 : (("odd" : Str) = "strife") = False := by simp only [eq_iff_iff, iff_false]; decide +kernel
theorem ne7 : (("edge" : Str) = "quiet") = False := by simp only [eq_iff_iff, iff_false]; decide +kernel
theorem ne8 : (("edge" : Str) = "odd") = False := by simp only [eq_iff_iff, iff_false]; decide +kernel
theorem ne9 : (("edge" : Str) = "strife") = False := by simp only [eq_iff_iff, iff_false]; decide +kernel
theorem ne10 : (("strife" : Str) = "quiet") = False := by simp only [eq_iff_iff, iff_false]; decide +kernel
theorem ne11 : (("strife" : Str) = "odd") = False := by simp only [eq_iff_iff, iff_false]; decide +kernel
theorem ne12 : (("strife" : Str) = "edge") = False := by simp only [eq_iff_iff, iff_false]; decide +kernel
theorem tt_at (f : Str → Nat) {a b c : Int} : subD (.lst (tt f)) (.int (ixM (mkS a b c) : Nat)) = some (.val (.int (f (mkS a b c) : Nat))) := by
  rcases mkS4 a b c with h | h | h | h <;> rw [h] <;> simp only [ixM, ne1, ne2, ne3, ne4, ne5, ne6, ne7, ne8, ne9, ne10, ne11, ne12, if_true, if_false] <;> rfl
theorem tt_ix (f : Str → Nat) {a b c : Int} : ixN (tt f).length (ixM (mkS a b c) : Nat) = some (ixM (mkS a b c)) := by
  rcases mkS4 a b c with h | h | h | h <;> rw [h] <;> simp only [ixM, ne1, ne2, ne3, ne4, ne5, ne6, ne7, ne8, ne9, ne10, ne11, ne12, if_true, if_false] <;> rfl
theorem tt_upd (f : Str → Nat) (s : Nat) {a b c : Int} : (tt f).set (ixM (mkS a b c)) (.int ((f (mkS a b c) : Int) + s)) = tt (upd f (mkS a b c) s) := by
  rcases mkS4 a b c with h | h | h | h <;> rw [h] <;> simp only [ixM, tt, upd, List.set_cons_zero, List.set_cons_succ, ne1, ne2, ne3, ne4, ne5, ne6, ne7, ne8, ne9, ne10, ne11, ne12, if_true, if_false, Int.natCast_add]
end L39
end

section
set_option autoImplicit false
set_option Elab.async false
set_option linter.all false
set_option maxRecDepth 100000
set_option maxHeartbeats 4000000
namespace L39
open PySem PySem.Spec L2 Pd Ev
abbrev S24 (ks : List Int) (N : Nat) (x3 : S2) (f : Str → Nat) (x5 x6 x7 x8 : S2) : List S2 := [.sh (.lst (ks.map .int)), .sh (.int ks.length), .sh (.int N), x3, .ow (tt f), x5, x6, x7, x8, .no]
def sxB : List IS := [.asg (.fz [5, 3, 6]) 8 (.bm .index (.fnk 20 0 [] []) [(.fn 12 [(.sub (.loc 0) (.loc 5)), (.sub (.loc 0) (.loc 3)), (.sub (.loc 0) (.loc 6))])]), .seti .vw 4 (.loc 8) (.bin .Add (.sub (.loc 4) (.loc 8)) (.loc 7))]
/-- a bead between -/
theorem sx_step (C : Addr) (k : Nat) (ks : List Int) (N s : Nat) (f : Str → Nat) (i j x : Int) (h1 : 0 ≤ i) (h2 : 0 ≤ j) (h3 : 0 ≤ x) (g1 : i.toNat < ks.length) (g2 : j.toNat < ks.length) (g3 : x.toNat < ks.length) (x8 : S2) :
    ∃ y8, evSs (wc (Phi39 C) (CA C (k + 1))) sxB (S24 ks N (.sh (.int x)) f (.sh (.int i)) (.sh (.int j)) (.sh (.int s)) x8)
      = some (.nx (S24 ks N (.sh (.int x)) (upd f (mkS (ks.getD i.toNat 0) (ks.getD x.toNat 0) (ks.getD j.toNat 0)) s) (.sh (.int i)) (.sh (.int j)) (.sh (.int s)) y8)) := by
  have em := e_mark C k (ks.getD i.toNat 0) (ks.getD x.toNat 0) (ks.getD j.toNat 0)
  have ix := ix_MK (a := ks.getD i.toNat 0) (b := ks.getD x.toNat 0) (c := ks.getD j.toNat 0)
  have ta := tt_at f (a := ks.getD i.toNat 0) (b := ks.getD x.toNat 0) (c := ks.getD j.toNat 0)
  have ti := tt_ix f (a := ks.getD i.toNat 0) (b := ks.getD x.toNat 0) (c := ks.getD j.toNat 0)
  have tu := tt_upd f s (a := ks.getD i.toNat 0) (b := ks.getD x.toNat 0) (c := ks.getD j.toNat 0)
  have hm : ∀ γ : List S2, γ[0]? = some (.sh (.lst (ks.map .int))) → γ[3]? = some (.sh (.int x)) → γ[5]? = some (.sh (.int i)) → γ[6]? = some (.sh (.int j)) → ev (wc (Phi39 C) (CA C (k + 1))) γ false (.fn 12 [(.sub (.loc 0) (.loc 5)), (.sub (.loc 0) (.loc 3)), (.sub (.loc 0) (.loc 6))]) = some (.val (.str (mkS (ks.getD i.toNat 0) (ks.getD x.toNat 0) (ks.getD j.toNat 0)))) := fun γ a b c d =>
    (fn_3 (sub_li (xs := ks) (loc_v a) (loc_v c) h1 g1) (sub_li (xs := ks) (loc_v a) (loc_v b) h3 g3) (sub_li (xs := ks) (loc_v a) (loc_v d) h2 g2)).trans em
  generalize mkS (ks.getD i.toNat 0) (ks.getD x.toNat 0) (ks.getD j.toNat 0) = m at *
  refine ⟨.sh (.int (ixM m : Nat)), ?_⟩
  refine (st_nx (γ2 := S24 ks N (.sh (.int x)) f (.sh (.int i)) (.sh (.int j)) (.sh (.int s)) (.sh (.int (ixM m : Nat)))) (asg_v (ex_fz (bm_n mks_v (hm _ rfl rfl rfl rfl) rfl ix)))).trans ?_
  refine (st_nx (seti_ (γ1 := S24 ks N (.sh (.int x)) f (.sh (.int i)) (.sh (.int j)) (.sh (.int s)) (.sh (.int (ixM m : Nat)))) (n := ixM m) (ds := tt f) (d := .int ((f m : Int) + s)) (ex_vw (x := .val (.int ((f m : Int) + s))) (add_i (sub_v (d1 := .lst (tt f)) (d2 := .int (ixM m : Nat)) (loc_v rfl) (loc_v rfl) ta) (loc_v (d := .int (s : Int)) rfl)) rfl) (loc_v rfl) rfl ti)).trans ?_
  rw [tu, evSs_nil]
  rfl
def cnt (ks : List Int) (m : Str) (i j : Int) (xs : List Int) : Nat := (xs.filter fun x => decide (mkS (ks.getD i.toNat 0) (ks.getD x.toNat 0) (ks.getD j.toNat 0) = m)).length
theorem sx_go (C : Addr) (k : Nat) (ks : List Int) (N s : Nat) (i j : Int) (h1 : 0 ≤ i) (h2 : 0 ≤ j) (g1 : i.toNat < ks.length) (g2 : j.toNat < ks.length) : ∀ (xs : List Int), (∀ x ∈ xs, 0 ≤ x ∧ x.toNat < ks.length) → ∀ (f : Str → Nat) (x3 x8 : S2), ∃ y3 y8,
    forGo (put [3]) (fun γ => evSs (wc (Phi39 C) (CA C (k + 1))) sxB γ) (xs.map .int) (S24 ks N x3 f (.sh (.int i)) (.sh (.int j)) (.sh (.int s)) x8) = some (.nx (S24 ks N y3 (fun m => f m + cnt ks m i j xs * s) (.sh (.int i)) (.sh (.int j)) (.sh (.int s)) y8)) := by
  intro xs
  induction xs with
  | nil => exact fun _ f x3 x8 => ⟨x3, x8, by
      rw [List.map_nil, forGo_nil, show (fun m => f m + cnt ks m i j [] * s) = f from funext fun m => by
        show f m + 0 * s = f m
        omega]⟩
  | cons x xs ih =>
    intro hx f x3 x8
    obtain ⟨h3, g3⟩ := hx x (List.mem_cons_self ..)
    obtain ⟨z8, e1⟩ := sx_step C k ks N s f i j x h1 h2 h3 g1 g2 g3 x8
    obtain ⟨y3, y8, e⟩ := ih (fun q hq => hx q (List.mem_cons_of_mem _ hq)) (upd f (mkS (ks.getD i.toNat 0) (ks.getD x.toNat 0) (ks.getD j.toNat 0)) s) (.sh (.int x)) z8
    refine ⟨y3, y8, ?_⟩
    rw [List.map_cons]
    have fe : (fun m => upd f (mkS (ks.getD i.toNat 0) (ks.getD x.toNat 0) (ks.getD j.toNat 0)) s m + cnt ks m i j xs * s) = fun m => f m + cnt ks m i j (x :: xs) * s := funext fun m => by
      unfold cnt upd
      rw [List.filter_cons]
      by_cases q : mkS (ks.getD i.toNat 0) (ks.getD x.toNat 0) (ks.getD j.toNat 0) = m
      · rw [if_pos q, if_pos (decide_eq_true q), List.length_cons, Nat.add_mul]
        omega
      · rw [if_neg q, if_neg (by rw [decide_eq_false q]; decide)]
    rw [fe] at e
    exact (forGo_nx _ _ _ _ _ _ _ rfl e1).trans e
theorem cn_cnt (ks : List Int) (m : Str) (i j : Int) : cnM ks m i j = cnt ks m i j (intsF (i + 1) (j - (i + 1)).toNat) := by
  unfold cnM cnt
  rw [rngD_ints, List.filter_map, List.length_map]
  rfl
/-! ### one span -/
def endsF (n i j : Int) : Int := (if decide (i = 0) = true then 1 else 0) + (if decide (j = n - 1) = true then 1 else 0)
def shF (n : Nat) (N : Nat) (i j : Int) : Nat := (lsh N (j - i - 1) (endsF n i j)).toNat
theorem lsh_nn (N : Nat) (w e : Int) (hw : 0 ≤ w) : 0 ≤ lsh N w e := by
  unfold lsh
  have a : 0 ≤ w * (w + 1) := Int.mul_nonneg hw (by omega)
  have b : 0 ≤ w * (w + 1) * (w + 2) := Int.mul_nonneg a (by omega)
  split
  · exact Int.ediv_nonneg (by omega) hw
  · split
    · exact Int.ediv_nonneg (by omega) a
    · exact Int.ediv_nonneg (by omega) b
theorem intb {Φ : Phi} {γ : List S2} {e1 : IE} {b : Bool} (h : ev Φ γ false e1 = some (.val (.bl b))) : ev Φ γ false (.bi .int [e1]) = some (.val (.int (if b then 1 else 0))) := bi1_v h rfl
def sjB : List IS := [.asg (.fz [2, 6, 5, 1]) 7 (.fn 23 [(.loc 2), (.bin .Sub (.bin .Sub (.loc 6) (.loc 5)) (.cst (.int 1))), (.bin .Add (.bi .int [(.cmp .Eq (.loc 5) (.cst (.int 0)))]) (.bi .int [(.cmp .Eq (.loc 6) (.bin .Sub (.loc 1) (.cst (.int 1))))]))]), .for [6, 5] [3] .rg [(.bin .Add (.loc 5) (.cst (.int 1))), (.loc 6)] sxB]
theorem sj_step (C : Addr) (k : Nat) (ks : List Int) (hn : ks.length ≤ 24) (N : Nat) (hN : N < 2 ^ 100) (i j : Int) (h1 : 0 ≤ i) (h2 : i + 2 ≤ j) (h3 : j < ks.length) (f : Str → Nat) (x3 x7 x8 : S2) : ∃ y3 y7 y8,
    evSs (wc (Phi39 C) (CA C (k + 1))) sjB (S24 ks N x3 f (.sh (.int i)) (.sh (.int j)) x7 x8) = some (.nx (S24 ks N y3 (fun m => f m + cnM ks m i j * shF ks.length N i j) (.sh (.int i)) (.sh (.int j)) y7 y8)) := by
  have es := e_lshare C k N (j - i - 1) (endsF ks.length i j) (by omega) (by omega) (by rw [Int.natAbs_natCast]; exact hN)
  have nn := lsh_nn N (j - i - 1) (endsF ks.length i j) (by omega)
  obtain ⟨y3, y8, e⟩ := sx_go C k ks N (shF ks.length N i j) i j h1 (by omega) (by omega) (by omega) (intsF (i + 1) (j - (i + 1)).toNat) (fun x hx => by
    have := intsF_mem hx
    exact ⟨by omega, by omega⟩) f x3 x8
  rw [← rngD_ints] at e
  have fe : (fun m => f m + cnt ks m i j (intsF (i + 1) (j - (i + 1)).toNat) * shF ks.length N i j) = fun m => f m + cnM ks m i j * shF ks.length N i j := funext fun m => by rw [cn_cnt]
  rw [fe] at e
  have sv : lsh N (j - i - 1) (endsF ks.length i j) = ((shF ks.length N i j : Nat) : Int) := by
    unfold shF
    rw [Int.toNat_of_nonneg nn]
  rw [sv] at es
  generalize shF ks.length N i j = s at *
  refine ⟨y3, .sh (.int (s : Nat)), y8, ?_⟩
  refine (st_nx (γ2 := S24 ks N x3 f (.sh (.int i)) (.sh (.int j)) (.sh (.int (s : Nat))) x8) (asg_v (ex_fz ((fn_3 (d1 := .int (N : Nat)) (d2 := .int (j - i - 1)) (d3 := .int (endsF ks.length i j)) (loc_v rfl) (sub_i (sub_i (loc_v rfl) (loc_v rfl)) (cst_v _)) (add_i (intb (eq_i (loc_v (d := .int i) rfl) (cst_v (.int 0)) rfl)) (intb (eq_i (loc_v (d := .int j) rfl) (sub_i (loc_v (d := .int ks.length) rfl) (cst_v (.int 1))) rfl)))).trans es)))).trans ?_
  exact (st_nx ((for2 (d := .int (i + 1)) (d2 := .int j) (body := sxB) (items := rngD (i + 1) (j - (i + 1)).toNat) (add_i (loc_v (d := .int i) rfl) (cst_v (.int 1))) (loc_v rfl) (rg1 ⟨by omega, by omega⟩ ⟨by omega, by omega⟩)).trans e)).trans (evSs_nil _ _)
def sumJ (ks : List Int) (N : Nat) (m : Str) (i : Int) (js : List Int) : Nat := (js.map fun j => cnM ks m i j * shF ks.length N i j).sum
theorem sj_go (C : Addr) (k : Nat) (ks : List Int) (hn : ks.length ≤ 24) (N : Nat) (hN : N < 2 ^ 100) (i : Int) (h1 : 0 ≤ i) : ∀ (js : List Int), (∀ j ∈ js, i + 2 ≤ j ∧ j < ks.length) → ∀ (f : Str → Nat) (x3 x6 x7 x8 : S2), ∃ y3 y6 y7 y8,
    forGo (put [6]) (fun γ => evSs (wc (Phi39 C) (CA C (k + 1))) sjB γ) (js.map .int) (S24 ks N x3 f (.sh (.int i)) x6 x7 x8) = some (.nx (S24 ks N y3 (fun m => f m + sumJ ks N m i js) (.sh (.int i)) y6 y7 y8)) := by
  intro js
  induction js with
  | nil => exact fun _ f x3 x6 x7 x8 => ⟨x3, x6, x7, x8, by rw [List.map_nil, forGo_nil] <;> rfl⟩
  | cons j js ih =>
    intro hj f x3 x6 x7 x8
    obtain ⟨h2, h3⟩ := hj j (List.mem_cons_self ..)
    obtain ⟨z3, z7, z8, e1⟩ := sj_step C k ks hn N hN i j h1 h2 h3 f x3 x7 x8
    obtain ⟨y3, y6, y7, y8, e⟩ := ih (fun q hq => hj q (List.mem_cons_of_mem _ hq)) (fun m => f m + cnM ks m i j * shF ks.length N i j) z3 (.sh (.int j)) z7 z8
    refine ⟨y3, y6, y7, y8, ?_⟩
    rw [List.map_cons]
    have fe : (fun m => f m + cnM ks m i j * shF ks.length N i j + sumJ ks N m i js) = fun m => f m + sumJ ks N m i (j :: js) := funext fun m => by
      unfold sumJ
      rw [List.map_cons, List.sum_cons, Nat.add_assoc]
    rw [fe] at e
    exact (forGo_nx _ _ _ _ _ _ _ rfl e1).trans e
def siB : List IS := [.for [1, 5] [6] .rg [(.bin .Add (.loc 5) (.cst (.int 2))), (.loc 1)] sjB]
def sumI (ks : List Int) (N : Nat) (m : Str) (is : List Int) : Nat := (is.map fun i => sumJ ks N m i (intsF (i + 2) ((ks.length : Int) - (i + 2)).toNat)).sum
theorem si_go (C : Addr) (k : Nat) (ks : List Int) (hn : ks.length ≤ 24) (N : Nat) (hN : N < 2 ^ 100) : ∀ (is : List Int), (∀ i ∈ is, 0 ≤ i ∧ i < ks.length) → ∀ (f : Str → Nat) (x3 x5 x6 x7 x8 : S2), ∃ y3 y5 y6 y7 y8,
    forGo (put [5]) (fun γ => evSs (wc (Phi39 C) (CA C (k + 1))) siB γ) (is.map .int) (S24 ks N x3 f x5 x6 x7 x8) = some (.nx (S24 ks N y3 (fun m => f m + sumI ks N m is) y5 y6 y7 y8)) := by
  intro is
  induction is with
  | nil => exact fun _ f x3 x5 x6 x7 x8 => ⟨x3, x5, x6, x7, x8, by rw [List.map_nil, forGo_nil] <;> rfl⟩
  | cons i is ih =>
    intro hi f x3 x5 x6 x7 x8
    obtain ⟨h1, h2⟩ := hi i (List.mem_cons_self ..)
    obtain ⟨z3, z6, z7, z8, e1⟩ := sj_go C k ks hn N hN i h1 (intsF (i + 2) ((ks.length : Int) - (i + 2)).toNat) (fun j hj => by
      have := intsF_mem hj
      exact ⟨by omega, by omega⟩) f x3 x6 x7 x8
    rw [← rngD_ints] at e1
    obtain ⟨y3, y5, y6, y7, y8, e⟩ := ih (fun q hq => hi q (List.mem_cons_of_mem _ hq)) (fun m => f m + sumJ ks N m i (intsF (i + 2) ((ks.length : Int) - (i + 2)).toNat)) z3 (.sh (.int i)) z6 z7 z8
    refine ⟨y3, y5, y6, y7, y8, ?_⟩
    rw [List.map_cons]
    have fe : (fun m => f m + sumJ ks N m i (intsF (i + 2) ((ks.length : Int) - (i + 2)).toNat) + sumI ks N m is) = fun m => f m + sumI ks N m (i :: is) := funext fun m => by
      unfold sumI
      rw [List.map_cons, List.sum_cons, Nat.add_assoc]
    rw [fe] at e
    refine (forGo_nx _ _ _ _ _ _ _ rfl ?_).trans e
    exact (st_nx ((for2 (γ := S24 ks N x3 f (.sh (.int i)) x6 x7 x8) (d := .int (i + 2)) (d2 := .int ks.length) (body := sjB) (items := rngD (i + 2) ((ks.length : Int) - (i + 2)).toNat) (add_i (loc_v (d := .int i) rfl) (cst_v (.int 2))) (loc_v rfl) (rg1 ⟨by omega, by omega⟩ ⟨by omega, by omega⟩)).trans e1)).trans (evSs_nil _ _)
end L39
end

section
set_option autoImplicit false
set_option Elab.async false
set_option linter.all false
set_option maxRecDepth 100000
set_option maxHeartbeats 4000000
namespace L39
open PySem PySem.Spec L2 Pd Ev
/-! ### the sums are the same -/
theorem sumA_flat (sh : Int → Int → Nat) (ks : List Int) (m : Str) (g : Nat → List (Int × Int)) : ∀ l : List Nat, sumA sh ks m (l.flatMap g) = (l.map fun a => sumA sh ks m (g a)).sum
  | [] => rfl
  | a :: l => by
    have ih := sumA_flat sh ks m g l
    unfold sumA at ih ⊢
    rw [List.flatMap_cons, List.map_append, List.sum_append, ih, List.map_cons, List.sum_cons]
theorem cnM_0 (ks : List Int) (m : Str) (i : Int) : cnM ks m i (i + 1) = 0 := by
  rw [cn_cnt, show (i + 1 - (i + 1)).toNat = 0 by omega]
  rfl
theorem sum_row (sh : Int → Int → Nat) (ks : List Int) (m : Str) (i : Int) (c : Nat) : sumA sh ks m ((List.range c).map fun (x : Nat) => (i, i + 1 + (x : Int))) = ((intsF (i + 1) c).map fun j => cnM ks m i j * sh i j).sum := by
  unfold sumA
  rw [ints_range, List.map_map, List.map_map]
  rfl
theorem sum_row2 (sh : Int → Int → Nat) (ks : List Int) (m : Str) (i : Int) : ∀ c : Nat, ((intsF (i + 1) c).map fun j => cnM ks m i j * sh i j).sum = ((intsF (i + 2) (c - 1)).map fun j => cnM ks m i j * sh i j).sum
  | 0 => rfl
  | c + 1 => by
    show (((i + 1) :: intsF (i + 1 + 1) c).map _).sum = _
    rw [List.map_cons, List.sum_cons, cnM_0, Nat.zero_mul, Nat.zero_add, show i + 1 + 1 = i + 2 by omega] <;> rfl
theorem sum_all (ks : List Int) (N : Nat) (m : Str) : sumI ks N m (intsF 0 ks.length) = sumA (shF ks.length N) ks m (spans ks.length) := by
  unfold spans
  rw [sumA_flat]
  unfold sumI
  rw [ints_range, List.map_map]
  congr 1
  apply List.map_congr_left
  intro i hi
  have := List.mem_range.mp hi
  show sumJ ks N m (0 + (i : Int)) _ = _
  rw [sum_row, sum_row2]
  unfold sumJ
  show ((intsF (0 + (i : Int) + 2) ((ks.length : Int) - (0 + (i : Int) + 2)).toNat).map fun j => cnM ks m (0 + (i : Int)) j * shF ks.length N (0 + (i : Int)) j).sum = _
  rw [Int.zero_add, show ((ks.length : Int) - ((i : Int) + 2)).toNat = ks.length - (i + 1) - 1 by omega]
/-! ### the shares are whole -/
theorem dv3 : ∀ n : Nat, n < 25 → ∀ w : Nat, w < 25 → 1 ≤ w → w + 2 ≤ n → w * (w + 1) * (w + 2) ∣ fct n := by decide +kernel
theorem dv2 {n w : Nat} (h : n < 25) (h1 : 1 ≤ w) (h2 : w + 2 ≤ n) : w * (w + 1) ∣ fct n := Nat.dvd_trans (Nat.dvd_mul_right _ _) (dv3 n h w (by omega) h1 h2)
theorem dv1 {n w : Nat} (h : n < 25) (h1 : 1 ≤ w) (h2 : w + 2 ≤ n) : w ∣ fct n := Nat.dvd_trans (Nat.dvd_mul_right _ _) (dv2 h h1 h2)
theorem ends2 {n i j : Int} (a : i = 0) (b : j = n - 1) : endsF n i j = 2 := by
  unfold endsF
  rw [if_pos (decide_eq_true a), if_pos (decide_eq_true b)] <;> rfl
theorem ends1 {n i j : Int} (a : i = 0) (b : ¬ j = n - 1) : endsF n i j = 1 := by
  unfold endsF
  rw [if_pos (decide_eq_true a), if_neg (fun z => b (of_decide_eq_true z))] <;> rfl
theorem ends1' {n i j : Int} (a : ¬ i = 0) (b : j = n - 1) : endsF n i j = 1 := by
  unfold endsF
  rw [if_neg (fun z => a (of_decide_eq_true z)), if_pos (decide_eq_true b)] <;> rfl
theorem ends0 {n i j : Int} (a : ¬ i = 0) (b : ¬ j = n - 1) : endsF n i j = 0 := by
  unfold endsF
  rw [if_neg (fun z => a (of_decide_eq_true z)), if_neg (fun z => b (of_decide_eq_true z))] <;> rfl
theorem lsh2 (N w : Int) : lsh N w 2 = N / w := by unfold lsh; rw [if_pos rfl]
theorem lsh1 (N w : Int) : lsh N w 1 = N / (w * (w + 1)) := by unfold lsh; rw [if_neg (by decide), if_pos rfl]
theorem lsh0 (N w : Int) : lsh N w 0 = 2 * N / (w * (w + 1) * (w + 2)) := by unfold lsh; rw [if_neg (by decide), if_neg (by decide)]
theorem sh_ok {n : Nat} (hn : n < 25) (N : Nat) (hN : N = fct n) (i j : Int) (h0 : 0 ≤ i) (h1 : i + 1 < j) (h2 : j < n) : shF n N i j * (shT n i j).2.toNat = (shT n i j).1.toNat * N := by
  subst hN
  obtain ⟨w, hw⟩ : ∃ w : Nat, j - i - 1 = w := ⟨(j - i - 1).toNat, by omega⟩
  have w1 : 1 ≤ w := by omega
  have w2 : w + 2 ≤ n := by omega
  have c2 : ((w : Int) * (w + 1)) = ((w * (w + 1) : Nat) : Int) := by rw [Int.natCast_mul]; rfl
  have c3 : ((w : Int) * (w + 1) * (w + 2)) = ((w * (w + 1) * (w + 2) : Nat) : Int) := by rw [Int.natCast_mul, Int.natCast_mul]; rfl
  have cf : (2 * (fct n : Int)) = ((2 * fct n : Nat) : Int) := by rw [Int.natCast_mul]; rfl
  unfold shF shT
  rw [hw]
  by_cases a : i = 0
  · by_cases b : j = n - 1
    · rw [ends2 a b, lsh2, if_pos ⟨a, b⟩]
      show ((fct n : Int) / (w : Int)).toNat * (w : Int).toNat = (1 : Int).toNat * fct n
      rw [← Int.natCast_ediv, Int.toNat_natCast, Int.toNat_natCast, Nat.div_mul_cancel (dv1 hn w1 w2)]
      show _ = 1 * _
      rw [Nat.one_mul]
    · rw [ends1 a b, lsh1, if_neg (fun z => b z.2), if_pos (.inl a)]
      show ((fct n : Int) / ((w : Int) * (w + 1))).toNat * ((w : Int) * (w + 1)).toNat = (1 : Int).toNat * fct n
      rw [c2, ← Int.natCast_ediv, Int.toNat_natCast, Int.toNat_natCast, Nat.div_mul_cancel (dv2 hn w1 w2)]
      show _ = 1 * _
      rw [Nat.one_mul]
  · by_cases b : j = n - 1
    · rw [ends1' a b, lsh1, if_neg (fun z => a z.1), if_pos (.inr b)]
      show ((fct n : Int) / ((w : Int) * (w + 1))).toNat * ((w : Int) * (w + 1)).toNat = (1 : Int).toNat * fct n
      rw [c2, ← Int.natCast_ediv, Int.toNat_natCast, Int.toNat_natCast, Nat.div_mul_cancel (dv2 hn w1 w2)]
      show _ = 1 * _
      rw [Nat.one_mul]
    · rw [ends0 a b, lsh0, if_neg (fun z => a z.1), if_neg (fun z => z.elim a b)]
      show (2 * (fct n : Int) / ((w : Int) * (w + 1) * (w + 2))).toNat * ((w : Int) * (w + 1) * (w + 2)).toNat = (2 : Int).toNat * fct n
      rw [c3, cf, ← Int.natCast_ediv, Int.toNat_natCast, Int.toNat_natCast, Nat.div_mul_cancel (Nat.dvd_trans (dv3 n hn w (by omega) w1 w2) (Nat.dvd_mul_left _ _))]
      rfl
/-! ### no sum is large -/
theorem spans_len : ∀ n : Nat, n < 25 → (spans n).length < 1000 := by decide +kernel
theorem sum_le (B : Nat) : ∀ l : List Nat, (∀ x ∈ l, x ≤ B) → l.sum ≤ l.length * B
  | [], _ => by simp
  | x :: l, h => by
    rw [List.sum_cons, List.length_cons, Nat.add_mul, Nat.one_mul]
    have := sum_le B l fun y hy => h y (List.mem_cons_of_mem _ hy)
    have := h x (List.mem_cons_self ..)
    omega
theorem sumA_lt (sh : Int → Int → Nat) (ks : List Int) (hn : ks.length ≤ 24) (m : Str) (B : Nat) (hB : ∀ i j : Int, 0 ≤ i → i + 1 < j → j < ks.length → sh i j ≤ B) : sumA sh ks m (spans ks.length) ≤ 1000 * (24 * B) := by
  unfold sumA
  refine Nat.le_trans (sum_le (24 * B) _ fun x hx => ?_) (Nat.mul_le_mul_right _ (by rw [List.length_map]; exact Nat.le_of_lt (spans_len _ (by omega))))
  obtain ⟨p, hp, rfl⟩ := List.mem_map.mp hx
  obtain ⟨h0, h1, h2⟩ := spans_ok _ p hp
  have c := cnM_le ks m p.1 p.2
  by_cases q : p.1 + 1 < p.2
  · exact Nat.mul_le_mul (by omega) (hB _ _ h0 q h2)
  · have z : cnM ks m p.1 p.2 = 0 := by omega
    rw [z, Nat.zero_mul]
    exact Nat.zero_le _
theorem shF_le {n N : Nat} (i j : Int) (h1 : i + 1 < j) : shF n N i j ≤ 2 * N := by
  obtain ⟨w, hw⟩ : ∃ w : Nat, j - i - 1 = w := ⟨(j - i - 1).toNat, by omega⟩
  unfold shF lsh
  rw [hw]
  split
  · rw [← Int.natCast_ediv, Int.toNat_natCast]
    exact Nat.le_trans (Nat.div_le_self _ _) (by omega)
  · split
    · rw [show ((w : Int) * (w + 1)) = ((w * (w + 1) : Nat) : Int) by rw [Int.natCast_mul]; rfl, ← Int.natCast_ediv, Int.toNat_natCast]
      exact Nat.le_trans (Nat.div_le_self _ _) (by omega)
    · rw [show ((w : Int) * (w + 1) * (w + 2)) = ((w * (w + 1) * (w + 2) : Nat) : Int) by rw [Int.natCast_mul, Int.natCast_mul]; rfl, show (2 * (N : Int)) = ((2 * N : Nat) : Int) by rw [Int.natCast_mul]; rfl, ← Int.natCast_ediv, Int.toNat_natCast]
      exact Nat.div_le_self _ _
/-! ### by shares -/
theorem lw_all (C : Addr) (k : Nat) (f : Str → Nat) (N : Nat) (hN : 0 < N) (hN2 : N < 2 ^ 199) (hf : ∀ m, f m < 2 ^ 199) : ∀ d ∈ tt f, CA C (k + 1) 21 [d, .int N] = some (.val (match d with
    | .int t => frac t N
    | d => d)) := by
  intro d hd
  unfold tt at hd
  simp only [List.mem_cons, List.not_mem_nil, or_false] at hd
  rcases hd with rfl | rfl | rfl | rfl
  · exact e_lowest C k _ _ hN (hf _) hN2
  · exact e_lowest C k _ _ hN (hf _) hN2
  · exact e_lowest C k _ _ hN (hf _) hN2
  · exact e_lowest C k _ _ hN (hf _) hN2
def fcS (N : Nat) : D → D
  | .int t => frac t N
  | d => d
theorem tt_tl (sh : Int → Int → Nat) (ks : List Int) (N : Nat) (f : Str → Nat) (hf : ∀ m, f m = sumA sh ks m (spans ks.length)) : (tt f).map (fcS N) = MK.map (tlF sh ks N) := by
  unfold tt MK
  simp only [List.map_cons, List.map_nil, fcS, tlF, hf]
theorem e_byshares (C : Addr) (k : Nat) (ks : List Int) (h2 : 2 ≤ ks.length) (hn : ks.length ≤ 24) : CA C (k + 2) 24 [.lst (ks.map .int)] = some (.val (.tup (MK.map (tlF (shF ks.length (fct ks.length)) ks (fct ks.length))))) := by
  have hN1 := fct_pos ks.length
  have hN2 := fct_lt ks.length (by omega)
  have hN3 : fct ks.length < 2 ^ 100 := Nat.lt_trans hN2 (by decide)
  rw [ca_fn (e := ⟨N24, ps24, ir24, none⟩) rfl rfl]
  obtain ⟨y3, e1⟩ := fc_go (wc (Phi39 C) (CA C (k + 1))) (.lst (ks.map .int)) ks.length (ks.length - 1) 1 (by omega) .no
  obtain ⟨z3, z5, z6, z7, z8, e2⟩ := si_go C k ks hn (fct ks.length) hN3 (intsF 0 ks.length) (fun i hi => by
    have := intsF_mem hi
    exact ⟨by omega, by omega⟩) (fun _ => 0) y3 .no .no .no .no
  rw [show 1 + (ks.length - 1) = ks.length by omega] at e1
  rw [← rngD_ints] at e2
  generalize hf : (fun m => 0 + sumI ks (fct ks.length) m (intsF 0 ks.length)) = f at e2
  have hs : ∀ m, f m = sumA (shF ks.length (fct ks.length)) ks m (spans ks.length) := fun m => by
    rw [← hf]
    show 0 + _ = _
    rw [Nat.zero_add, sum_all]
  have hb : ∀ m, sumA (shF ks.length (fct ks.length)) ks m (spans ks.length) < 2 ^ 199 := fun m => by
    refine Nat.lt_of_le_of_lt (sumA_lt _ ks hn m (2 * fct ks.length) fun i j a b c => shF_le i j b) ?_
    have : fct ks.length < 2 ^ 90 := hN2
    omega
  clear hf
  generalize fct ks.length = N at *
  have tl := tt_tl (shF ks.length N) ks N f hs
  have lw := lw_all C k f N hN1 (Nat.lt_trans hN3 (by decide)) (fun m => by rw [hs]; exact hb m)
  refine runF_eq (γ := [.sh (.lst (ks.map .int)), .no, .no, .no, .no, .no, .no, .no, .no, .no]) (o := .rt _) rfl rfl ?_ rfl
  refine (st_nx (γ2 := [.sh (.lst (ks.map .int)), .sh (.int ks.length), .no, .no, .no, .no, .no, .no, .no, .no]) (asg_v (ex_pl ((bi1_v (d1 := .lst (ks.map .int)) (loc_v rfl) rfl).trans (by rw [List.length_map]))))).trans ?_
  refine (st_nx (γ2 := [.sh (.lst (ks.map .int)), .sh (.int ks.length), .sh (.int 1), .no, .no, .no, .no, .no, .no, .no]) (asg_v (ex_pl (cst_v _)))).trans ?_
  refine (st_nx ((for2 (d := .int 2) (d2 := .int (ks.length + 1)) (body := fcB) (items := rngD 2 (ks.length - 1)) (cst_v _) (add_i (loc_v (d := .int ks.length) rfl) (cst_v (.int 1))) ((rg1 ⟨by omega, by omega⟩ ⟨by omega, by omega⟩).trans (by rw [show ((ks.length : Int) + 1 - 2).toNat = ks.length - 1 by omega]))).trans e1)).trans ?_
  refine (st_nx (γ2 := S24 ks N y3 (fun _ => 0) .no .no .no .no) (asg_n (ds := tt fun _ => 0) (ex_pl (lst_c [.int 0, .int 0, .int 0, .int 0] (by decide))))).trans ?_
  refine (st_nx ((for1 (γ := S24 ks N y3 (fun _ => 0) .no .no .no .no) (d := .int ks.length) (body := siB) (items := rngD 0 ks.length) (loc_v rfl) (it_rg0 (by omega))).trans e2)).trans ?_
  refine st_rt (ret_v (ex_fz (bi1_n (d1 := (tt f).map (fcS N)) (lc_map (items := tt f) (f := fcS N) (it_vl1 (loc_v rfl)) (by show 4 ≤ 50000; decide) fun d hd => ?_) ?_)))
  · exact ⟨_, rfl, (fn_2 (f := 21) (d1 := d) (d2 := .int N) (loc_v rfl) (loc_v rfl)).trans (lw d hd)⟩
  · show some (RR.val (.tup _)) = _
    rw [tl]
end L39
end

section
set_option autoImplicit false
set_option Elab.async false
set_option linter.all false
set_option maxRecDepth 100000
set_option maxHeartbeats 4000000
namespace L39
open PySem PySem.Spec L2 Pd Ev
/-! ### an order walked -/
def trip : List Int → List Int → Option (List (Int × Int × Int))
  | _, [] => some []
  | st, b :: r => if 0 < st.idxOf b ∧ st.idxOf b + 1 < st.length then (trip (st.take (st.idxOf b) ++ st.drop (st.idxOf b + 1)) r).map ((st.getD (st.idxOf b - 1) 0, b, st.getD (st.idxOf b + 1) 0) :: ·) else none
def mk3 (ks : List Int) (t : Int × Int × Int) : Str := mkS (ks.getD t.1.toNat 0) (ks.getD t.2.1.toNat 0) (ks.getD t.2.2.toNat 0)
theorem cut_lo (ds : List D) (a : Nat) (h : a ≤ ds.length) : cutD ds none (some (a : Int)) = ds.take a := by
  unfold cutD
  have e : HT.sIx ds.length ds.length (some (a : Int)) = a := by
    simp [HT.sIx]
    rw [if_neg (by omega)]
    omega
  have e0 : HT.sIx ds.length 0 none = 0 := by simp [HT.sIx]
  rw [e, e0]
  simp
theorem cut_hi (ds : List D) (a : Nat) (h : a ≤ ds.length) : cutD ds (some (a : Int)) none = ds.drop a := by
  unfold cutD
  have e : HT.sIx ds.length 0 (some (a : Int)) = a := by
    simp [HT.sIx]
    rw [if_neg (by omega)]
    omega
  have e0 : HT.sIx ds.length ds.length none = ds.length := by simp [HT.sIx]
  rw [e, e0]
  rw [List.take_of_length_le]
  simp
section
variable {Φ : Phi} {γ γ1 : List S2} {e1 e2 e3 : IE}
theorem evO_v {i : Int} (h : ev Φ γ false e1 = some (.val (.int i))) : evO Φ γ [e1] = some (some i) := by rw [evO_cons, h] <;> rfl
theorem slc_l {ds : List D} {a : Nat} (h1 : ev Φ γ false e1 = some (.val (.lst ds))) (h2 : ev Φ γ false e2 = some (.val (.int (a : Int)))) (h : a ≤ ds.length) : ev Φ γ false (.slc e1 [] [e2]) = some (.new (ds.take a)) := by
  rw [ev_slc, h1, and_val, evO_nil, evO_v h2, tst_f]
  show some (RR.new (cutD ds none (some (a : Int)))) = _
  rw [cut_lo ds a h]
theorem slc_h {ds : List D} {a : Nat} (h1 : ev Φ γ false e1 = some (.val (.lst ds))) (h2 : ev Φ γ false e2 = some (.val (.int (a : Int)))) (h : a ≤ ds.length) : ev Φ γ false (.slc e1 [e2] []) = some (.new (ds.drop a)) := by
  rw [ev_slc, h1, and_val, evO_nil, evO_v h2, tst_f]
  show some (RR.new (cutD ds (some (a : Int)) none)) = _
  rw [cut_hi ds a h]
theorem add_nn {a b : List D} (h1 : ev Φ γ false e1 = some (.new a)) (h2 : ev Φ γ false e2 = some (.new b)) (h : a.length + b.length ≤ 100000) : ev Φ γ false (.bin .Add e1 e2) = some (.new (a ++ b)) := by
  rw [ev_bin, h1, and_new, h2, and_new, tst_f]
  exact if_pos h
theorem tup_3 {d1 d2 d3 : D} (h1 : ev Φ γ false e1 = some (.val d1)) (h2 : ev Φ γ false e2 = some (.val d2)) (h3 : ev Φ γ false e3 = some (.val d3)) : ev Φ γ false (.tup [e1, e2, e3]) = some (.val (.tup [d1, d2, d3])) := by
  rw [ev_tup, evL_cons, h1, and_val, evL_cons, h2, and_val, evL_cons, h3, and_val, evL_nil, tst_f] <;> rfl
end
def wkB : List IS := [.asg (.fz [5, 2]) 6 (.bm .index (.loc 2) [(.loc 5)]), .asg (.fz [2, 6]) 7 (.sub (.loc 2) (.bin .Sub (.loc 6) (.cst (.int 1)))), .asg (.fz [2, 6]) 8 (.sub (.loc 2) (.bin .Add (.loc 6) (.cst (.int 1)))), .app (.fz [7, 5, 8]) 3 (.fn 12 [(.sub (.loc 0) (.loc 7)), (.sub (.loc 0) (.loc 5)), (.sub (.loc 0) (.loc 8))]), .app (.fz [7, 8]) 4 (.tup [(.loc 7), (.loc 8)]), .asg (.fz [2, 6]) 2 (.bin .Add (.slc (.loc 2) [] [(.loc 6)]) (.slc (.loc 2) [(.bin .Add (.loc 6) (.cst (.int 1)))] []))]
theorem getD_mem {st : List Int} {a : Nat} (h : a < st.length) : st.getD a 0 ∈ st := by
  rw [List.getD_eq_getElem?_getD, List.getElem?_eq_getElem h]
  exact List.getElem_mem h
theorem wk_step (C : Addr) (k : Nat) (ks : List Int) (R : D) (st : List Int) (ms : List Str) (ps : List D) (b : Int) (hb1 : 0 < st.idxOf b) (hb2 : st.idxOf b + 1 < st.length) (hst : ∀ x ∈ st, 0 ≤ x ∧ x.toNat < ks.length) (hl : st.length ≤ 24) (hm : ms.length < 1000) (hp : ps.length < 1000) (x6 x7 x8 : S2) : ∃ y6 y7 y8,
    evSs (wc (Phi39 C) (CA C (k + 1))) wkB [.sh (.lst (ks.map .int)), .sh R, .ow (st.map .int), .ow (ms.map .str), .ow ps, .sh (.int b), x6, x7, x8, .no]
      = some (.nx [.sh (.lst (ks.map .int)), .sh R, .ow ((st.take (st.idxOf b) ++ st.drop (st.idxOf b + 1)).map .int), .ow ((ms ++ [mk3 ks (st.getD (st.idxOf b - 1) 0, b, st.getD (st.idxOf b + 1) 0)]).map .str), .ow (ps ++ [.tup [.int (st.getD (st.idxOf b - 1) 0), .int (st.getD (st.idxOf b + 1) 0)]]), .sh (.int b), y6, y7, y8, .no]) := by
  have hbm : b ∈ st := List.idxOf_lt_length_iff.mp (by omega)
  have ix : bmD .index (.lst (st.map .int)) [.int b] = some (.val (.int (st.idxOf b : Nat))) := by
    show (ints? (st.map D.int)).bind _ = _
    rw [ints_map, Option.bind_some]
    exact if_pos (by omega)
  generalize st.idxOf b = a at *
  have q1 := hst _ (getD_mem (st := st) (a := a - 1) (by omega))
  have q2 := hst _ (getD_mem hb2)
  have q3 := hst _ hbm
  have hl2 : (st.map D.int).length = st.length := List.length_map ..
  generalize hL : st.getD (a - 1) 0 = L at *
  generalize hR : st.getD (a + 1) 0 = Rr at *
  have sL : ∀ γ : List S2, γ[2]? = some (.sh (.lst (st.map .int))) → γ[6]? = some (.sh (.int (a : Int))) → ev (wc (Phi39 C) (CA C (k + 1))) γ false (.sub (.loc 2) (.bin .Sub (.loc 6) (.cst (.int 1)))) = some (.val (.int L)) := fun γ u v => by
    have z := sub_li (xs := st) (loc_v (Φ := wc (Phi39 C) (CA C (k + 1))) u) (sub_i (loc_v v) (cst_v (.int 1))) (by omega) (by omega)
    rw [show ((a : Int) - 1).toNat = a - 1 by omega, hL] at z
    exact z
  have sR : ∀ γ : List S2, γ[2]? = some (.sh (.lst (st.map .int))) → γ[6]? = some (.sh (.int (a : Int))) → ev (wc (Phi39 C) (CA C (k + 1))) γ false (.sub (.loc 2) (.bin .Add (.loc 6) (.cst (.int 1)))) = some (.val (.int Rr)) := fun γ u v => by
    have z := sub_li (xs := st) (loc_v (Φ := wc (Phi39 C) (CA C (k + 1))) u) (add_i (loc_v v) (cst_v (.int 1))) (by omega) (by omega)
    rw [show ((a : Int) + 1).toNat = a + 1 by omega, hR] at z
    exact z
  have hc : ∀ γ : List S2, γ[6]? = some (.sh (.int (a : Int))) → ev (wc (Phi39 C) (CA C (k + 1))) γ false (.bin .Add (.loc 6) (.cst (.int 1))) = some (.val (.int ((a + 1 : Nat) : Int))) := fun γ v => (add_i (loc_v v) (cst_v (.int 1))).trans (by rw [Int.natCast_add] <;> rfl)
  have em := e_mark C k (ks.getD L.toNat 0) (ks.getD b.toNat 0) (ks.getD Rr.toNat 0)
  refine ⟨.sh (.int (a : Nat)), .sh (.int L), .sh (.int Rr), ?_⟩
  refine (st_nx (γ2 := [.sh (.lst (ks.map .int)), .sh R, .sh (.lst (st.map .int)), .ow (ms.map .str), .ow ps, .sh (.int b), .sh (.int (a : Nat)), x7, x8, .no]) (asg_v (ex_fz (bm_l (ds := st.map .int) (loc_v rfl) (loc_v rfl) rfl ix)))).trans ?_
  refine (st_nx (γ2 := [.sh (.lst (ks.map .int)), .sh R, .sh (.lst (st.map .int)), .ow (ms.map .str), .ow ps, .sh (.int b), .sh (.int (a : Nat)), .sh (.int L), x8, .no]) (asg_v (ex_fz (sL _ rfl rfl)))).trans ?_
  refine (st_nx (γ2 := [.sh (.lst (ks.map .int)), .sh R, .sh (.lst (st.map .int)), .ow (ms.map .str), .ow ps, .sh (.int b), .sh (.int (a : Nat)), .sh (.int L), .sh (.int Rr), .no]) (asg_v (ex_fz (sR _ rfl rfl)))).trans ?_
  refine (st_nx (γ2 := [.sh (.lst (ks.map .int)), .sh R, .sh (.lst (st.map .int)), .ow (ms.map .str ++ [.str (mk3 ks (L, b, Rr))]), .ow ps, .sh (.int b), .sh (.int (a : Nat)), .sh (.int L), .sh (.int Rr), .no]) (app_ (d := .str (mk3 ks (L, b, Rr))) (ex_fz ((fn_3 (sub_li (xs := ks) (loc_v rfl) (loc_v rfl) q1.1 q1.2) (sub_li (xs := ks) (loc_v rfl) (loc_v rfl) q3.1 q3.2) (sub_li (xs := ks) (loc_v rfl) (loc_v rfl) q2.1 q2.2)).trans em)) rfl rfl (by rw [List.length_map]; omega))).trans ?_
  refine (st_nx (γ2 := [.sh (.lst (ks.map .int)), .sh R, .sh (.lst (st.map .int)), .ow (ms.map .str ++ [.str (mk3 ks (L, b, Rr))]), .ow (ps ++ [.tup [.int L, .int Rr]]), .sh (.int b), .sh (.int (a : Nat)), .sh (.int L), .sh (.int Rr), .no]) (app_ (d := .tup [.int L, .int Rr]) (ex_fz (tup_2 (loc_v rfl) (loc_v rfl))) rfl rfl (by omega))).trans ?_
  refine (st_nx (asg_n (ex_fz (add_nn (slc_l (a := a) (ds := st.map .int) (loc_v rfl) (loc_v rfl) (by omega)) (slc_h (a := a + 1) (ds := st.map .int) (loc_v rfl) (hc _ rfl) (by omega)) (by rw [List.length_take, List.length_drop]; omega))))).trans ?_
  rw [evSs_nil, List.map_append, List.map_append, List.map_take, List.map_drop]
  rfl
theorem wk_go (C : Addr) (k : Nat) (ks : List Int) (R : D) : ∀ (run st : List Int) (ts : List (Int × Int × Int)), trip st run = some ts → (∀ x ∈ st, 0 ≤ x ∧ x.toNat < ks.length) → st.length ≤ 24 → ∀ (ms : List Str) (ps : List D), ms.length + run.length < 1000 → ps.length + run.length < 1000 → ∀ (x5 x6 x7 x8 : S2), ∃ (st' : List Int) (ps' : List D) (y5 y6 y7 y8 : S2),
    forGo (put [5]) (fun γ => evSs (wc (Phi39 C) (CA C (k + 1))) wkB γ) (run.map .int) [.sh (.lst (ks.map .int)), .sh R, .ow (st.map .int), .ow (ms.map .str), .ow ps, x5, x6, x7, x8, .no]
      = some (.nx [.sh (.lst (ks.map .int)), .sh R, .ow (st'.map .int), .ow ((ms ++ ts.map (mk3 ks)).map .str), .ow ps', y5, y6, y7, y8, .no]) := by
  intro run
  induction run with
  | nil =>
    intro st ts ht _ _ ms ps _ _ x5 x6 x7 x8
    have e : some [] = some ts := ht
    cases e
    exact ⟨st, ps, x5, x6, x7, x8, by rw [List.map_nil, List.map_nil, List.append_nil, forGo_nil]⟩
  | cons b run ih =>
    intro st ts ht hst hl ms ps hm hp x5 x6 x7 x8
    rw [trip] at ht
    split at ht
    · next hb =>
      obtain ⟨ts', ht', rfl⟩ := Option.map_eq_some_iff.mp ht
      simp only [List.length_cons] at hm hp
      obtain ⟨z6, z7, z8, e1⟩ := wk_step C k ks R st ms ps b hb.1 hb.2 hst hl (by omega) (by omega) x6 x7 x8
      have hst' : ∀ x ∈ st.take (st.idxOf b) ++ st.drop (st.idxOf b + 1), 0 ≤ x ∧ x.toNat < ks.length := fun x hx => by
        rcases List.mem_append.mp hx with h | h
        · exact hst x (List.mem_of_mem_take h)
        · exact hst x (List.mem_of_mem_drop h)
      obtain ⟨st', ps', y5, y6, y7, y8, e⟩ := ih _ ts' ht' hst' (by rw [List.length_append, List.length_take, List.length_drop]; omega) (ms ++ [mk3 ks (st.getD (st.idxOf b - 1) 0, b, st.getD (st.idxOf b + 1) 0)]) (ps ++ [.tup [.int (st.getD (st.idxOf b - 1) 0), .int (st.getD (st.idxOf b + 1) 0)]]) (by rw [List.length_append, List.length_singleton]; omega) (by rw [List.length_append, List.length_singleton]; omega) (.sh (.int b)) z6 z7 z8
      refine ⟨st', ps', y5, y6, y7, y8, ?_⟩
      rw [List.append_assoc, List.singleton_append] at e
      rw [List.map_cons, List.map_cons]
      exact (forGo_nx _ _ _ _ _ _ _ rfl e1).trans e
    · cases ht
theorem e_walk (C : Addr) (k : Nat) (ks run : List Int) (ts : List (Int × Int × Int)) (h1 : 2 ≤ ks.length) (hn : ks.length ≤ 24) (hr : run.length < 100) (ht : trip (intsF 0 ks.length) run = some ts) : ∃ p s, CA C (k + 2) 13 [.lst (ks.map .int), .lst (run.map .int)] = some (.val (.tup [.lst ((ts.map (mk3 ks)).map .str), p, s])) := by
  rw [ca_fn (e := ⟨N13, ps13, ir13, none⟩) rfl rfl]
  have hlc : ∀ γ : List S2, γ[0]? = some (.sh (.lst (ks.map .int))) → ev (wc (Phi39 C) (CA C (k + 1))) γ false (.bi .len [(.loc 0)]) = some (.val (.int ks.length)) := fun γ h => (bi1_v (d1 := .lst (ks.map .int)) (loc_v h) rfl).trans (by rw [List.length_map])
  obtain ⟨st', ps', y5, y6, y7, y8, e⟩ := wk_go C k ks (.lst (run.map .int)) run (intsF 0 ks.length) ts ht (fun x hx => by
    have := intsF_mem hx
    exact ⟨by omega, by omega⟩) (by rw [intsF_len]; exact hn) [] ((rngD 0 (ks.length - 1)).map fun d => match d with
      | .int x => .tup [.int x, .int (x + 1)]
      | d => d) (by rw [List.length_nil]; omega) (by rw [List.length_map, rngD_len]; omega) .no .no .no .no
  rw [List.nil_append] at e
  refine ⟨.lst ps', .lst (st'.map .int), ?_⟩
  refine runF_eq (γ := [.sh (.lst (ks.map .int)), .sh (.lst (run.map .int)), .no, .no, .no, .no, .no, .no, .no, .no]) (o := .rt _) rfl rfl ?_ rfl
  refine (st_nx (γ2 := [.sh (.lst (ks.map .int)), .sh (.lst (run.map .int)), .ow ((intsF 0 ks.length).map .int), .no, .no, .no, .no, .no, .no, .no]) (asg_n (ex_pl ?_))).trans ?_
  · rw [ev_lrg, evL_cons, hlc _ rfl, and_val, evL_nil, tst_f]
    show (if okRg (ks.length : Int) ∧ (ks.length : Int).toNat ≤ 50000 then some (RR.new (rngD 0 (ks.length : Int).toNat)) else none) = _
    rw [if_pos ⟨okr (by omega), by omega⟩, Int.toNat_natCast, rngD_ints]
  · refine (st_nx (γ2 := [.sh (.lst (ks.map .int)), .sh (.lst (run.map .int)), .ow ((intsF 0 ks.length).map .int), .ow [], .no, .no, .no, .no, .no, .no]) (asg_n (ex_pl (ev_new0 _ _)))).trans ?_
    refine (st_nx (asg_n (γ1 := [.sh (.lst (ks.map .int)), .sh (.lst (run.map .int)), .ow ((intsF 0 ks.length).map .int), .ow [], .no, .no, .no, .no, .no, .no]) (ex_fz (lc_map (items := rngD 0 (ks.length - 1)) (f := fun d => match d with
      | .int x => .tup [.int x, .int (x + 1)]
      | d => d) ?_ (by rw [rngD_len]; omega) fun d hd => ?_)))).trans ?_
    · rw [evD1_v (sub_i (hlc _ rfl) (cst_v (.int 1))), Option.bind_some, show ((ks.length : Int) - 1) = ((ks.length - 1 : Nat) : Int) by omega]
      exact it_rg0 (by omega)
    · obtain ⟨x, rfl, _, _⟩ := rngD_mem hd
      exact ⟨_, rfl, tup_2 (loc_v rfl) (add_i (loc_v (d := .int x) rfl) (cst_v (.int 1)))⟩
    · refine (st_nx ((for1 (d := .lst (run.map .int)) (body := wkB) (items := run.map .int) (loc_v rfl) rfl).trans e)).trans ?_
      exact st_rt (ret_v (ex_fz (tup_3 (loc_v rfl) (loc_v rfl) (loc_v rfl))))
end L39
end

section
set_option autoImplicit false
set_option Elab.async false
set_option linter.all false
set_option maxRecDepth 100000
set_option maxHeartbeats 4000000
namespace L39
open PySem PySem.Spec L2 Pd Ev
/-! ### all orders of a few beads -/
def ORD (n : Nat) : List (List Int) := ords (intsF 1 (n - 2))
theorem e_ords (C : Addr) (k n : Nat) (h : 2 ≤ n) (h2 : n < 8) : CA C (k + 1) 14 [.lst ((intsF 1 (n - 2)).map .int)] = some (.val (.lst ((ORD n).map fun r => .lst (r.map .int)))) := by
  match n, h, h2 with
  | 2, _, _ => exact e_ord2 C k
  | 3, _, _ => exact e_ord3 C k
  | 4, _, _ => exact e_ord4 C k
  | 5, _, _ => exact e_ord5 C k
  | 6, _, _ => exact e_ord6 C k
  | 7, _, _ => exact e_ord7 C k
  | n + 8, _, h2 => omega
def tr (n : Nat) (r : List Int) : List (Int × Int × Int) := (trip (intsF 0 n) r).getD []
def trL (n : Nat) : List (Int × Int × Int) := (ORD n).flatMap (tr n)
def shO (n : Nat) (i j : Int) : Nat := (shT n i j).1.toNat * (ORD n).length / (shT n i j).2.toNat
def trR (n : Nat) : List (Int × Int × Int) := (spans n).flatMap fun p => (intsF (p.1 + 1) (p.2 - (p.1 + 1)).toNat).flatMap fun x => List.replicate (shO n p.1 p.2) (p.1, x, p.2)
theorem ord_ok : ∀ n : Nat, n < 8 → 2 ≤ n → ∀ r ∈ ORD n, (trip (intsF 0 n) r).isSome = true ∧ r.length < 100 := by decide +kernel
theorem ord_len : ∀ n : Nat, n < 8 → 2 ≤ n → 0 < (ORD n).length ∧ (ORD n).length < 1000 := by decide +kernel
theorem sh_okO : ∀ n : Nat, n < 8 → 2 ≤ n → ∀ p ∈ spans n, p.1 + 1 < p.2 → shO n p.1 p.2 * (shT n p.1 p.2).2.toNat = (shT n p.1 p.2).1.toNat * (ORD n).length := by decide +kernel
theorem pm7 : ∀ n : Nat, n < 8 → 2 ≤ n → (trL n).isPerm (trR n) = true := by decide +kernel
end L39
end

section
set_option autoImplicit false
set_option Elab.async false
set_option linter.all false
set_option maxRecDepth 100000
set_option maxHeartbeats 4000000
namespace L39
open PySem PySem.Spec L2 Pd Ev
theorem strs_map : ∀ xs : List Str, Ev.strs? (xs.map D.str) = some xs
  | [] => rfl
  | k :: r => by
    rw [List.map_cons]
    unfold Ev.strs?
    rw [strs_map r] <;> rfl
/-- how many triples have the mark -/
def cM (ks : List Int) (m : Str) (ts : List (Int × Int × Int)) : Nat := (ts.map (mk3 ks)).count m
theorem cM_P (ks : List Int) (m : Str) (ts : List (Int × Int × Int)) : cM ks m ts = ts.countP fun t => mk3 ks t == m := by
  unfold cM
  rw [List.count, List.countP_map]
  rfl
theorem cM_perm {ks : List Int} {m : Str} {a b : List (Int × Int × Int)} (h : a.Perm b) : cM ks m a = cM ks m b := by
  rw [cM_P, cM_P, h.countP_eq]
theorem cM_app (ks : List Int) (m : Str) (a b : List (Int × Int × Int)) : cM ks m (a ++ b) = cM ks m a + cM ks m b := by
  rw [cM_P, cM_P, cM_P, List.countP_append]
theorem cM_rep (ks : List Int) (m : Str) (c : Nat) (t : Int × Int × Int) : cM ks m (List.replicate c t) = if mk3 ks t = m then c else 0 := by
  rw [cM_P, List.countP_replicate]
  by_cases h : mk3 ks t = m
  · rw [if_pos h, if_pos (by rw [h]; exact beq_self_eq_true m)]
  · rw [if_neg h, if_neg (fun z => h (eq_of_beq z))]
theorem cM_row (ks : List Int) (m : Str) (i j : Int) (s : Nat) : ∀ xs : List Int, cM ks m (xs.flatMap fun x => List.replicate s (i, x, j)) = cnt ks m i j xs * s
  | [] => by
    show 0 = 0 * s
    omega
  | x :: xs => by
    rw [List.flatMap_cons, cM_app, cM_row ks m i j s xs, cM_rep]
    unfold cnt mk3
    rw [List.filter_cons]
    by_cases q : mkS (ks.getD i.toNat 0) (ks.getD x.toNat 0) (ks.getD j.toNat 0) = m
    · rw [if_pos q, if_pos (decide_eq_true q), List.length_cons, Nat.add_mul]
      omega
    · rw [if_neg q, if_neg (by rw [decide_eq_false q]; decide)]
      omega
theorem cM_flat (ks : List Int) (m : Str) (sh : Int → Int → Nat) : ∀ l : List (Int × Int), cM ks m (l.flatMap fun p => (intsF (p.1 + 1) (p.2 - (p.1 + 1)).toNat).flatMap fun x => List.replicate (sh p.1 p.2) (p.1, x, p.2)) = sumA sh ks m l
  | [] => rfl
  | p :: l => by
    rw [List.flatMap_cons, cM_app, cM_flat ks m sh l, cM_row, ← cn_cnt]
    unfold sumA
    rw [List.map_cons, List.sum_cons]
theorem cM_all (ks : List Int) (m : Str) (n : Nat) (h : 2 ≤ n) (h2 : n < 8) : cM ks m (trL n) = sumA (shO n) ks m (spans n) :=
  (cM_perm (List.isPerm_iff.mp (pm7 n h2 h))).trans (cM_flat ks m (shO n) (spans n))
def cO (ks : List Int) (m : Str) (rs : List (List Int)) : Nat := (rs.map fun r => cM ks m (tr ks.length r)).sum
theorem cO_flat (ks : List Int) (m : Str) : ∀ rs : List (List Int), cO ks m rs = cM ks m (rs.flatMap (tr ks.length))
  | [] => rfl
  | r :: rs => by
    rw [List.flatMap_cons, cM_app, ← cO_flat ks m rs]
    unfold cO
    rw [List.map_cons, List.sum_cons]
/-! ### the loop over the orders -/
def boB : List IS := [.asg (.fz [3]) 4 (.sub (.fn 13 [(.loc 0), (.loc 3)]) (.cst (.int 0))), .asg (.fz [1, 5, 4]) 1 (.lc (.bin .Add (.sub (.loc 1) (.loc 5)) (.bm .count (.loc 4) [(.sub (.fnk 20 0 [] []) (.loc 5))])) [5] .rg [(.cst (.int 4))] [])]
def MS4 : List Str := ["quiet", "odd", "edge", "strife"]
theorem bo_step (C : Addr) (k : Nat) (ks : List Int) (h1 : 2 ≤ ks.length) (hn : ks.length ≤ 24) (r : List Int) (hr : r.length < 100) (ht : (trip (intsF 0 ks.length) r).isSome = true) (O : D) (f : Str → Nat) (x4 : S2) : ∃ y4,
    evSs (wc (Phi39 C) (CA C (k + 2))) boB [.sh (.lst (ks.map .int)), .ow (tt f), .sh O, .sh (.lst (r.map .int)), x4, .no, .no] = some (.nx [.sh (.lst (ks.map .int)), .ow (tt fun m => f m + cM ks m (tr ks.length r)), .sh O, .sh (.lst (r.map .int)), y4, .no, .no]) := by
  obtain ⟨ts, hts⟩ := Option.isSome_iff_exists.mp ht
  have htr : tr ks.length r = ts := by unfold tr; rw [hts] <;> rfl
  rw [htr]
  obtain ⟨p, s, e⟩ := e_walk C k ks r ts h1 hn hr hts
  refine ⟨.sh (.lst ((ts.map (mk3 ks)).map .str)), ?_⟩
  have h13 : ∀ γ : List S2, γ[0]? = some (.sh (.lst (ks.map .int))) → γ[3]? = some (.sh (.lst (r.map .int))) → ev (wc (Phi39 C) (CA C (k + 2))) γ false (.fn 13 [(.loc 0), (.loc 3)]) = some (.val (.tup [.lst ((ts.map (mk3 ks)).map .str), p, s])) := fun γ a b => by
    rw [fn_2 (loc_v a) (loc_v b), wc_call]
    exact e
  refine (st_nx (γ2 := [.sh (.lst (ks.map .int)), .ow (tt f), .sh O, .sh (.lst (r.map .int)), .sh (.lst ((ts.map (mk3 ks)).map .str)), .no, .no]) (asg_v (ex_fz (sub_v (d1 := .tup [.lst ((ts.map (mk3 ks)).map .str), p, s]) (h13 _ rfl rfl) (cst_v (.int 0)) rfl)))).trans ?_
  have key : ∀ x : Int, 0 ≤ x → x < 4 → ∃ γ2, put [5] (.int x) (blk (frz [.sh (.lst (ks.map .int)), .ow (tt f), .sh O, .sh (.lst (r.map .int)), .sh (.lst ((ts.map (mk3 ks)).map .str)), .no, .no] [1, 5, 4]) [5]) = some γ2 ∧ ev (wc (Phi39 C) (CA C (k + 2))) γ2 false (.bin .Add (.sub (.loc 1) (.loc 5)) (.bm .count (.loc 4) [(.sub (.fnk 20 0 [] []) (.loc 5))])) = some (.val (.int ((f (MS4.getD x.toNat "") : Int) + (cM ks (MS4.getD x.toNat "") ts : Nat)))) := fun x a b => by
    refine ⟨[.sh (.lst (ks.map .int)), .sh (.lst (tt f)), .sh O, .sh (.lst (r.map .int)), .sh (.lst ((ts.map (mk3 ks)).map .str)), .sh (.int x), .no], rfl, ?_⟩
    have c1 : subD (.lst (tt f)) (.int x) = some (.val (.int (f (MS4.getD x.toNat "") : Nat))) := by
      have : x = 0 ∨ x = 1 ∨ x = 2 ∨ x = 3 := by omega
      rcases this with rfl | rfl | rfl | rfl <;> rfl
    have c2 : subD (.lst MK) (.int x) = some (.val (.str (MS4.getD x.toNat ""))) := by
      have : x = 0 ∨ x = 1 ∨ x = 2 ∨ x = 3 := by omega
      rcases this with rfl | rfl | rfl | rfl <;> rfl
    have c3 : bmD .count (.lst ((ts.map (mk3 ks)).map .str)) [.str (MS4.getD x.toNat "")] = some (.val (.int (cM ks (MS4.getD x.toNat "") ts : Nat))) := by
      show (Ev.strs? ((ts.map (mk3 ks)).map D.str)).bind _ = _
      rw [strs_map, Option.bind_some]
      rfl
    exact add_i (sub_v (loc_v rfl) (loc_v rfl) c1) (bm_l (ds := (ts.map (mk3 ks)).map .str) (loc_v rfl) (sub_n mks_v (loc_v rfl) c2) rfl c3)
  refine (st_nx (asg_n (ex_fz (lc_map (items := rngD 0 4) (f := fun d => match d with
      | .int x => .int ((f (MS4.getD x.toNat "") : Int) + (cM ks (MS4.getD x.toNat "") ts : Nat))
      | d => d) ?_ (by decide) fun d hd => ?_)))).trans ?_
  · rw [evD1_v (d := .int 4) (cst_v _), Option.bind_some]
    exact it_rg0 (n := 4) (by decide)
  · obtain ⟨x, rfl, a, b⟩ := rngD_mem hd
    exact key x (by omega) (by omega)
  · rw [evSs_nil]
    rfl
theorem bo_go (C : Addr) (k : Nat) (ks : List Int) (h1 : 2 ≤ ks.length) (hn : ks.length ≤ 24) (O : D) : ∀ (rs : List (List Int)), (∀ r ∈ rs, (trip (intsF 0 ks.length) r).isSome = true ∧ r.length < 100) → ∀ (f : Str → Nat) (x3 x4 : S2), ∃ y3 y4,
    forGo (put [3]) (fun γ => evSs (wc (Phi39 C) (CA C (k + 2))) boB γ) (rs.map fun r => .lst (r.map .int)) [.sh (.lst (ks.map .int)), .ow (tt f), .sh O, x3, x4, .no, .no] = some (.nx [.sh (.lst (ks.map .int)), .ow (tt fun m => f m + cO ks m rs), .sh O, y3, y4, .no, .no]) := by
  intro rs
  induction rs with
  | nil => exact fun _ f x3 x4 => ⟨x3, x4, by rw [List.map_nil, forGo_nil] <;> rfl⟩
  | cons r rs ih =>
    intro h f x3 x4
    obtain ⟨a, b⟩ := h r (List.mem_cons_self ..)
    obtain ⟨z4, e1⟩ := bo_step C k ks h1 hn r b a O f x4
    obtain ⟨y3, y4, e⟩ := ih (fun q hq => h q (List.mem_cons_of_mem _ hq)) (fun m => f m + cM ks m (tr ks.length r)) (.sh (.lst (r.map .int))) z4
    have fe : (fun m => f m + cM ks m (tr ks.length r) + cO ks m rs) = fun m => f m + cO ks m (r :: rs) := funext fun m => by
      unfold cO
      rw [List.map_cons, List.sum_cons, Nat.add_assoc]
    rw [fe] at e
    refine ⟨y3, y4, ?_⟩
    rw [List.map_cons]
    exact (forGo_nx _ _ _ _ _ _ _ rfl e1).trans e
theorem shO_le (n : Nat) (h : 2 ≤ n) (h2 : n < 8) (i j : Int) (h0 : 0 ≤ i) (h1 : i + 1 < j) (h3 : j < n) : shO n i j ≤ 2000 := by
  have sp := shT_pos n i j h0 h1 h3 (by omega)
  have l := ord_len n h2 h
  unfold shO
  refine Nat.le_trans (Nat.div_le_self _ _) ?_
  exact Nat.mul_le_mul (show (shT n i j).1.toNat ≤ 2 by omega) (show (ORD n).length ≤ 1000 by omega)
theorem spans_all (n : Nat) (i j : Int) (h0 : 0 ≤ i) (h1 : i < j) (h2 : j < n) : (i, j) ∈ spans n := by
  unfold spans
  refine List.mem_flatMap.mpr ⟨i.toNat, List.mem_range.mpr (by omega), List.mem_map.mpr ⟨(j - i - 1).toNat, List.mem_range.mpr (by omega), ?_⟩⟩
  rw [show ((i.toNat : Nat) : Int) = i by omega, show i + 1 + ((j - i - 1).toNat : Int) = j by omega]
theorem e_byorders (C : Addr) (k : Nat) (ks : List Int) (h2 : 2 ≤ ks.length) (hn : ks.length < 8) : CA C (k + 3) 22 [.lst (ks.map .int)] = some (.val (.tup (MK.map (tlF (shO ks.length) ks (ORD ks.length).length)))) := by
  rw [ca_fn (e := ⟨N22, ps22, ir22, none⟩) rfl rfl]
  have ol := ord_len ks.length hn h2
  have eo := e_ords C (k + 1) ks.length h2 hn
  obtain ⟨y3, y4, e2⟩ := bo_go C k ks h2 (by omega) (.lst ((ORD ks.length).map fun r => .lst (r.map .int))) (ORD ks.length) (ord_ok ks.length hn h2) (fun _ => 0) .no .no
  generalize hf : (fun m => 0 + cO ks m (ORD ks.length)) = f at e2
  have hs : ∀ m, f m = sumA (shO ks.length) ks m (spans ks.length) := fun m => by
    rw [← hf]
    show 0 + _ = _
    rw [Nat.zero_add, cO_flat]
    exact cM_all ks m ks.length h2 hn
  clear hf
  have hb : ∀ m, f m < 2 ^ 199 := fun m => by
    rw [hs]
    exact Nat.lt_of_le_of_lt (sumA_lt _ ks (by omega) m 2000 fun i j a b c => shO_le _ h2 hn i j a b c) (by decide)
  have tl := tt_tl (shO ks.length) ks (ORD ks.length).length f hs
  have lw := lw_all C (k + 1) f (ORD ks.length).length ol.1 (Nat.lt_trans ol.2 (by decide)) hb
  have hlc : ∀ γ : List S2, γ[0]? = some (.sh (.lst (ks.map .int))) → ev (wc (Phi39 C) (CA C (k + 2))) γ false (.bi .len [(.loc 0)]) = some (.val (.int ks.length)) := fun γ h => (bi1_v (d1 := .lst (ks.map .int)) (loc_v h) rfl).trans (by rw [List.length_map])
  generalize hO : ORD ks.length = O at *
  refine runF_eq (γ := [.sh (.lst (ks.map .int)), .no, .no, .no, .no, .no, .no]) (o := .rt _) rfl rfl ?_ rfl
  refine (st_nx (γ2 := [.sh (.lst (ks.map .int)), .ow (tt fun _ => 0), .no, .no, .no, .no, .no]) (asg_n (ds := tt fun _ => 0) (ex_pl (lst_c [.int 0, .int 0, .int 0, .int 0] (by decide))))).trans ?_
  refine (st_nx (γ2 := [.sh (.lst (ks.map .int)), .ow (tt fun _ => 0), .sh (.lst (O.map fun r => .lst (r.map .int))), .no, .no, .no, .no]) (asg_v (ex_pl ?_))).trans ?_
  · have lr : ev (wc (Phi39 C) (CA C (k + 2))) [.sh (.lst (ks.map .int)), .ow (tt fun _ => 0), .no, .no, .no, .no, .no] false (.lrg [(.cst (.int 1)), (.bin .Sub (.bi .len [(.loc 0)]) (.cst (.int 1)))]) = some (.new ((intsF 1 (ks.length - 2)).map .int)) := by
      rw [ev_lrg, evL_cons, cst_v, and_val, evL_cons, sub_i (hlc _ rfl) (cst_v (.int 1)), and_val, evL_nil, tst_f]
      show (if okRg (1 : Int) ∧ okRg ((ks.length : Int) - 1) ∧ ((ks.length : Int) - 1 - 1).toNat ≤ 50000 then some (RR.new (rngD 1 ((ks.length : Int) - 1 - 1).toNat)) else none) = _
      rw [if_pos ⟨⟨by decide, by decide⟩, ⟨by omega, by omega⟩, by omega⟩, show ((ks.length : Int) - 1 - 1).toNat = ks.length - 2 by omega, rngD_ints]
    rw [ev_fn, evL_cons, lr, and_new, evL_nil, tst_f, wc_call]
    exact eo
  · refine (st_nx ((for1 (d := .lst (O.map fun r => .lst (r.map .int))) (body := boB) (items := O.map fun r => .lst (r.map .int)) (loc_v rfl) rfl).trans e2)).trans ?_
    refine st_rt (ret_v (ex_fz (bi1_n (d1 := (tt f).map (fcS O.length)) (lc_map (items := tt f) (f := fcS O.length) (it_vl1 (loc_v rfl)) (by show 4 ≤ 50000; decide) fun d hd => ?_) ?_)))
    · exact ⟨_, rfl, (fn_2 (f := 21) (d1 := d) (d2 := .int O.length) (loc_v rfl) ((bi1_v (d1 := .lst (O.map fun r => .lst (r.map .int))) (loc_v rfl) rfl).trans (by rw [List.length_map]))).trans (lw d hd)⟩
    · show some (RR.val (.tup _)) = _
      rw [tl]
end L39
end

section
set_option autoImplicit false
set_option Elab.async false
set_option linter.all false
set_option maxRecDepth 100000
set_option maxHeartbeats 4000000
namespace L39
open PySem PySem.Spec L2 Pd Ev
/-- what is due: the reduced sums, by some whole shares -/
structure Due (ks : List Int) (sh : Int → Int → Nat) (N : Nat) : Prop where
  pos : 0 < N
  lt : N < 2 ^ 100
  ok : ∀ i j : Int, 0 ≤ i → i + 1 < j → j < ks.length → sh i j * (shT ks.length i j).2.toNat = (shT ks.length i j).1.toNat * N
  small : ∀ m, sumA sh ks m (spans ks.length) < 2 ^ 200
theorem e_due (C : Addr) (k : Nat) (ks : List Int) (h2 : 2 ≤ ks.length) (hn : ks.length ≤ 24) : ∃ sh N, Due ks sh N ∧ CA C (k + 4) 25 [.lst (ks.map .int)] = some (.val (.tup (MK.map (tlF sh ks N)))) := by
  rw [ca_fn (e := ⟨N25, ps25, ir25, none⟩) rfl rfl]
  have hlc : ∀ γ : List S2, γ[0]? = some (.sh (.lst (ks.map .int))) → ev (wc (Phi39 C) (CA C (k + 3))) γ false (.bi .len [(.loc 0)]) = some (.val (.int ks.length)) := fun γ h => (bi1_v (d1 := .lst (ks.map .int)) (loc_v h) rfl).trans (by rw [List.length_map])
  by_cases q : 7 < ks.length
  · refine ⟨shF ks.length (fct ks.length), fct ks.length, ⟨fct_pos _, Nat.lt_trans (fct_lt _ (by omega)) (by decide), fun i j a b c => sh_ok (by omega) _ rfl i j a b c, fun m => ?_⟩, ?_⟩
    · refine Nat.lt_of_le_of_lt (sumA_lt _ ks hn m (2 * fct ks.length) fun i j a b c => shF_le i j b) ?_
      have : fct ks.length < 2 ^ 90 := fct_lt _ (by omega)
      omega
    · refine runF_eq (γ := [.sh (.lst (ks.map .int))]) (o := .rt _) rfl rfl ?_ rfl
      have e := e_byshares C (k + 1) ks h2 hn
      generalize D.tup (MK.map (tlF (shF ks.length (fct ks.length)) ks (fct ks.length))) = R at e
      refine st_rt ((ite_t (gt_i (hlc _ rfl) (cst_v (.int 7)) (decide_eq_true (by omega)))).trans (st_rt (ret_v (ex_pl (x := .val R) ?_))))
      rw [fn_1 (d1 := .lst (ks.map .int)) (loc_v rfl), wc_call]
      exact e
  · refine ⟨shO ks.length, (ORD ks.length).length, ⟨(ord_len _ (by omega) h2).1, Nat.lt_trans (ord_len _ (by omega) h2).2 (by decide), fun i j a b c => sh_okO _ (by omega) h2 (i, j) (spans_all _ i j a (by omega) c) b, fun m => ?_⟩, ?_⟩
    · exact Nat.lt_of_le_of_lt (sumA_lt _ ks hn m 2000 fun i j a b c => shO_le _ h2 (by omega) i j a b c) (by decide)
    · refine runF_eq (γ := [.sh (.lst (ks.map .int))]) (o := .rt _) rfl rfl ?_ rfl
      have e := e_byorders C k ks h2 (by omega)
      generalize D.tup (MK.map (tlF (shO ks.length) ks (ORD ks.length).length)) = R at e
      refine (st_nx (ite_f0 (gt_i (hlc _ rfl) (cst_v (.int 7)) (decide_eq_false (by omega))))).trans (st_rt (ret_v (ex_pl (x := .val R) ?_)))
      rw [fn_1 (d1 := .lst (ks.map .int)) (loc_v rfl), wc_call]
      exact e
theorem sm_due (C : Addr) (k : Nat) (ks : List Int) (sh : Int → Int → Nat) (N : Nat) : Sm C (k + 4) (.tup (MK.map (tlF sh ks N))) := by
  refine e_same_t C (k + 3) _ (by show 4 < 1000; decide) fun d hd => ?_
  obtain ⟨x, hx, rfl⟩ := List.mem_map.mp hd
  obtain ⟨m, rfl⟩ : ∃ m, x = .str m := by
    simp only [MK, List.mem_cons, List.not_mem_nil, or_false] at hx
    rcases hx with rfl | rfl | rfl | rfl <;> exact ⟨_, rfl⟩
  show Sm C (k + 3) (frac _ _)
  unfold frac
  refine e_same_t C (k + 2) _ (by show 2 < 1000; decide) fun d hd => ?_
  simp only [List.mem_cons, List.not_mem_nil, or_false] at hd
  rcases hd with rfl | rfl
  · exact e_same_i C k _
  · exact e_same_i C k _
theorem sm_marks (C : Addr) (k : Nat) : Sm C (k + 2) marksD := by
  refine e_same_t C (k + 1) _ (by decide) fun d hd => ?_
  simp only [List.mem_cons, List.not_mem_nil, or_false] at hd
  rcases hd with rfl | rfl | rfl | rfl <;> exact e_same_s C k _
theorem mk1_v {C : Addr} {k : Nat} {γ : List S2} {e : IE} {d : D} (h : ev (wc (Phi39 C) (CA C k)) γ false e = some (.val d)) : ev (wc (Phi39 C) (CA C k)) γ false (.mk 27 1 [e] []) = CA C k 27 [d] := by
  rw [ev_mk, evL_cons, h, and_val, evL_nil, evL_nil, tst_f]
  rfl
theorem mk1_n {C : Addr} {k : Nat} {γ : List S2} {e : IE} {d : List D} (h : ev (wc (Phi39 C) (CA C k)) γ false e = some (.new d)) : ev (wc (Phi39 C) (CA C k)) γ false (.mk 27 1 [e] []) = CA C k 27 [.lst d] := by
  rw [ev_mk, evL_cons, h, and_new, evL_nil, evL_nil, tst_f]
  rfl
theorem fk1_v {C : Addr} {k : Nat} {γ : List S2} {e : IE} {d : D} (h : ev (wc (Phi39 C) (CA C k)) γ false e = some (.val d)) : ev (wc (Phi39 C) (CA C k)) γ false (.fnk 7 2 [] [e]) = CA C k 7 [d] := by
  rw [ev_fnk, evL_nil, evL_cons, h, and_val, evL_nil, tst_f]
  rfl
theorem init_l (C : Addr) (k : Nat) (ks : List Int) (h1 : 2 ≤ ks.length) (h2 : ks.length ≤ 24) (hk : In 0 1000 ks) : ∃ fs, Str39 ks fs ∧ CA C (k + 2) 27 [.lst (ks.map .int)] = some (.val (.obj C fs)) :=
  e_init C k ks h1 h2 hk (.lst (ks.map .int)) (by show iv ((ks.map D.int).length : Int) = _; rw [List.length_map]) rfl rfl
theorem init_t (C : Addr) (k : Nat) (ks : List Int) (h1 : 2 ≤ ks.length) (h2 : ks.length ≤ 24) (hk : In 0 1000 ks) : ∃ fs, Str39 ks fs ∧ CA C (k + 2) 27 [.tup (ks.map .int)] = some (.val (.obj C fs)) :=
  e_init C k ks h1 h2 hk (.tup (ks.map .int)) (by show iv ((ks.map D.int).length : Int) = _; rw [List.length_map]) rfl rfl
/-- a strand's own mean tally is the due one -/
theorem same_due (C : Addr) (k : Nat) (ks : List Int) (hn : ks.length ≤ 24) (fs : List (Str × D)) (S : Str39 ks fs) (sh : Int → Int → Nat) (N : Nat) (U : Due ks sh N) (γ : List S2) (e1 e2 : IE) (h1 : ev (wc (Phi39 C) (CA C (k + 4))) γ false e1 = CA C (k + 4) 7 [.obj C fs]) (h2 : ev (wc (Phi39 C) (CA C (k + 4))) γ false e2 = some (.val (.tup (MK.map (tlF sh ks N))))) : ev (wc (Phi39 C) (CA C (k + 4))) γ false (.fn 16 [e1, e2]) = some (.val (.bl true)) := by
  have t := e_tally C k ks fs S hn N sh U.pos U.lt U.ok U.small
  rw [fn_2 (h1.trans t) h2, wc_call]
  exact sm_due C k ks sh N
end L39
end

section
set_option autoImplicit false
set_option Elab.async false
set_option linter.all false
set_option maxRecDepth 100000
set_option maxHeartbeats 4000000
namespace L39
open PySem PySem.Spec L2 Pd Ev
theorem glo_marks {C : Addr} {g : Nat → List D → Option RR} {γ : List S2} : ev (wc (Phi39 C) g) γ false (.glo 0) = some (.val marksD) := by rw [ev_glo, tst_f] <;> rfl
theorem fnTn {Φ : Phi} {γ : List S2} {f : Nat} {as : List IE} {q : Bool} (h : ev Φ γ false (.fn f as) = some (.val (.bl q))) : ev Φ γ true (.not (.fn f as)) = some (.val (.bl (!q))) := not_v (fnT h)
theorem main (C : Addr) (ns : List Int) : CA C 8 26 [.rol (ns.map .int)] = some (.val (.bl true)) := by
  rw [ca_fn (k := 7) (e := ⟨N26, ps26, ir26, none⟩) rfl rfl]
  obtain ⟨ks, a1, a2, a3, hcase⟩ := e_case C 3 ns
  obtain ⟨sh, N, U, hdue⟩ := e_due C 3 ks a1 a2
  obtain ⟨fs, S, hini⟩ := init_l C 5 ks a1 a2 a3
  obtain ⟨ft, T, hint⟩ := init_t C 5 ks a1 a2 a3
  obtain ⟨c, hc⟩ := e_cell C 6 ns 4 (by decide)
  obtain ⟨k2, b1, b2, b3, hkin⟩ := e_kinds C 4 ns 5 5 (by decide) (by decide) (by decide)
  obtain ⟨sh2, N2, U2, hdue2⟩ := e_due C 3 k2 b1 (by omega)
  obtain ⟨f2, S2', hini2⟩ := init_l C 5 k2 b1 (by omega) b3
  have mm := sm_marks C 5
  have last : ∀ (X : List (Str × D)), Str39 ks X → evSs (wc (Phi39 C) (CA C 7)) [.ite (.or (.not (.fn 16 [(.glo 0), (.bi .tuple [(.fnk 20 0 [] [])])])) (.not (.fn 16 [(.fn 7 [(.loc 3)]), (.loc 2)]))) [.ret .pl (.cst (.bl false))] [], .asg .pl 4 (.fn 11 [(.loc 0), (.cst (.int 5)), (.cst (.int 5))]), .ite (.not (.fn 16 [(.fn 7 [(.mk 27 1 [(.loc 4)] [])]), (.fn 25 [(.loc 4)])])) [.ret .pl (.cst (.bl false))] [], .ret (.fz [2, 3, 1]) (.and (.fn 16 [(.fn 7 [(.loc 3)]), (.loc 2)]) (.fn 16 [(.fnk 7 2 [] [(.mk 27 1 [(.loc 1)] [])]), (.loc 2)]))]
      [.sh (.rol (ns.map .int)), .sh (.lst (ks.map .int)), .sh (.tup (MK.map (tlF sh ks N))), .sh (.obj C X), .no] = some (.rt (.bl true)) := fun X SX => by
    have f7 : ∀ γ : List S2, γ[3]? = some (.sh (.obj C X)) → ev (wc (Phi39 C) (CA C 7)) γ false (.fn 7 [(.loc 3)]) = CA C 7 7 [.obj C X] := fun γ h => by rw [fn_1 (loc_v h), wc_call]
    refine (st_nx (ite_f0 (or_f (fnTn (q := true) ?_) (fnTn (q := true) (same_due C 3 ks a2 X SX sh N U _ _ _ (f7 _ rfl) (loc_v rfl)))))).trans ?_
    · rw [fn_2 (d1 := marksD) (d2 := marksD) glo_marks (bi1_n (d1 := MK) mks_v rfl), wc_call]
      exact mm
    · refine (st_nx (γ2 := [.sh (.rol (ns.map .int)), .sh (.lst (ks.map .int)), .sh (.tup (MK.map (tlF sh ks N))), .sh (.obj C X), .ow (k2.map .int)]) (asg_n (ex_pl ?_))).trans ?_
      · rw [fn_3 (d1 := .rol (ns.map .int)) (d2 := .int 5) (d3 := .int 5) (loc_v rfl) (cst_v _) (cst_v _), wc_call]
        exact hkin
      · refine (st_nx (ite_f0 (fnTn (q := true) (same_due C 3 k2 (by omega) f2 S2' sh2 N2 U2 _ _ _ ?_ ?_)))).trans ?_
        · rw [fn_1 (d1 := .obj C f2) ((mk1_v (d := .lst (k2.map .int)) (loc_v rfl)).trans hini2), wc_call]
        · rw [fn_1 (d1 := .lst (k2.map .int)) (loc_v rfl), wc_call]
          exact hdue2
        · refine st_rt (ret_v (ex_fz (and_t (same_due C 3 ks a2 X SX sh N U _ _ _ (f7 _ rfl) (loc_v rfl)) (same_due C 3 ks a2 fs S sh N U _ _ _ ?_ (loc_v rfl)))))
          exact fk1_v ((mk1_v (d := .lst (ks.map .int)) (loc_v rfl)).trans hini)
  refine runF_eq (γ := [.sh (.rol (ns.map .int)), .no, .no, .no, .no]) (o := .rt (.bl true)) rfl rfl ?_ rfl
  refine (st_nx (γ2 := [.sh (.rol (ns.map .int)), .ow (ks.map .int), .no, .no, .no]) (asg_n (ex_pl ?_))).trans ?_
  · rw [fn_1 (d1 := .rol (ns.map .int)) (loc_v rfl), wc_call]
    exact hcase
  · refine (st_nx (γ2 := [.sh (.rol (ns.map .int)), .sh (.lst (ks.map .int)), .sh (.tup (MK.map (tlF sh ks N))), .no, .no]) (asg_v (d := .tup (MK.map (tlF sh ks N))) (ex_fz ?_))).trans ?_
    · rw [fn_1 (d1 := .lst (ks.map .int)) (loc_v rfl), wc_call]
      exact hdue
    · refine (st_nx (γ2 := [.sh (.rol (ns.map .int)), .sh (.lst (ks.map .int)), .sh (.tup (MK.map (tlF sh ks N))), .sh (.obj C fs), .no]) (asg_v (d := .obj C fs) (ex_fz ?_))).trans ?_
      · rw [mk1_n (d := ks.map .int) (bi1_v (d1 := .lst (ks.map .int)) (loc_v rfl) rfl)]
        exact hini
      · have hcell : ∀ γ : List S2, γ[0]? = some (.sh (.rol (ns.map .int))) → ev (wc (Phi39 C) (CA C 7)) γ false (.fn 8 [(.loc 0), (.cst (.int 4))]) = some (.val (.int c)) := fun γ h => by
          rw [fn_2 (d1 := .rol (ns.map .int)) (d2 := .int 4) (loc_v h) (cst_v _), wc_call]
          exact hc
        by_cases q : c % 8 = 3
        · refine (st_nx (γ2 := [.sh (.rol (ns.map .int)), .sh (.lst (ks.map .int)), .sh (.tup (MK.map (tlF sh ks N))), .sh (.obj C ft), .no]) ((ite_t (eq_i (mod_i (int_i (hcell _ rfl)) (cst_v (.int 8)) (by decide)) (cst_v (.int 3)) (decide_eq_true q))).trans ?_)).trans (last ft T)
          refine (st_nx (asg_v (d := .obj C ft) (ex_fz ?_))).trans (evSs_nil _ _)
          rw [mk1_v (d := .tup (ks.map .int)) (bi1_v (d1 := .lst (ks.map .int)) (loc_v rfl) rfl)]
          exact hint
        · exact (st_nx (ite_f0 (eq_i (mod_i (int_i (hcell _ rfl)) (cst_v (.int 8)) (by decide)) (cst_v (.int 3)) (decide_eq_false q)))).trans (last fs S)
end L39
end

section
set_option autoImplicit false
set_option Elab.async false
set_option linter.all false
set_option maxRecDepth 100000
set_option maxHeartbeats 0
namespace L39
open PySem PySem.Spec PyProof.Rows L2 Pd Ev
theorem to0 {P : Program} {w : World} {K : PySem.W.Frag} {mg : Str → Option Value} {base : Heap} {k : Nat} {f : Addr} {fd : FuncData} {ps : List Str} {sp : Sp} (F : FnOk P w K mg base (L2.CX P w) k f fd ps sp) : FnOk P w K mg base L2.CX0 k f fd ps (fun vs H Q _ => sp vs H Q (fun _ _ _ => False)) :=
  ⟨fun vs H Q E h => F.len _ _ _ _ h, fun A outer s H args us vs Q E hr e0 b r h => codeAny_mono (F.run A outer s H args us vs Q (fun _ _ _ => False) hr e0 b r h) fun res s' hq => by
    cases res with
    | error e =>
      obtain ⟨_, _, _, _, _, _, _, _, _, _, _, _, z⟩ := hq
      exact z.elim
    | ok fl => cases fl <;> exact hq⟩
end L39
open PySem PySem.W PySem.Calls PyProof.Rows
theorem PySem.Challenge.cw_beadmoot_k39_whole_mean_tally_holds : PySem.Challenge.rw_beadmoot_k39_whole_mean_tally.Holds := by
  w_on; o_law
  refine HandSHeadRun.head_imp (r := OpenLaw.row PySem.Challenge.rw_beadmoot_k39_whole_mean_tally) (q := view (OpenLaw.row PySem.Challenge.rw_beadmoot_k39_whole_mean_tally).prog [0, 38]) (H := L39.hk) (ob := L39.ob) (M := 8000) (loose := L39.names) (d := HandSHeadRun.topDef (OpenLaw.row PySem.Challenge.rw_beadmoot_k39_whole_mean_tally).prog 38) (kwd := []) L39.ob_eq
    L39.run (by kernel_rfl) (by kernel_rfl) (by kernel_rfl) (by rfl) (by first | assumption | decide +kernel) (by decide +kernel) ⟨rfl, rfl, rfl, rfl, rfl, by decide +kernel⟩ ?hw ?hc
  case hw => w_witness2
  case hc =>
    refine L2.walk_ofE (l := PySem.Challenge.rw_beadmoot_k39_whole_mean_tally) (n := 63) (k := 18) (x := "_law_script") (CX := L2.CX0) rfl (by decide) (by kernel_rfl) ⟨rfl, by decide, by decide⟩ ?F (fun _ _ _ _ z => z)
    intro w mg fa h Y G hmg0
    obtain ⟨K, KX, c, e⟩ := Y
    have hmg : mg ("law" : PySem.Str) = some (.ref fa) := by
      have e : (HandSHeadRun.topDef (OpenLaw.row PySem.Challenge.rw_beadmoot_k39_whole_mean_tally).prog 38).name = ("law" : PySem.Str) := by kernel_rfl
      rw [← e]
      exact hmg0
    obtain ⟨fd, hb, hF⟩ := L39.facts (P := (PySem.Challenge.rw_beadmoot_k39_whole_mean_tally).prog) (w := w) KX G hmg c e
    exact ⟨K, fd, _, KX, hb, fun H a ns hl _ hS => ⟨H, [.rol (ns.map .int)], .val (.bl true), L2.Same.refl _, .cons (.rol hS (Pd.Reps.of_ints ns)) .nil, L39.main _ ns, fun v Hs' H' g r => by cases r; rfl⟩, fun base _ _ => L39.to0 (hF base)⟩
end
