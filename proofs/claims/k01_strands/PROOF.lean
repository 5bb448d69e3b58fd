import PyProof.Rows.All
import Wide.All
import OpenK.AllK
import Wide.FinOn
import HandS.ForMost
import HandS.Wide
import HandS.Defaults
import HandS.IsInst
import HandS.ExcInit
import HandS.Exc
import HandS.ExcField
import HandS.ExcIs
import HandS.ExcOwn
import HandS.ClsMeth
import KE.KIsAll
import KE.KTryMore
import HandS.ExcValue
import HandS.Text
import HandS.SetFor
import HandS.HeadHook1
import HandS.HeadHook2
import PyProof.EqKinds
import KE.GoesMore
import PyProof.Draws
import PyProof.EnumMake
import HandS.Iter
import HandS.Set
import HandS.Conv
import HandS.TupAny
import HandS.Style
import KE.KRevSl
import HandS.IterNext
import HandS.IterVal
import HandS.OwnIter
import KE.KOwnIter
import PyProof.FactsSeq
import KE.KRevIter
import HandS.Rev
import PyProof.ListStr
import HandS.Ends
import HandS.Words
import HandS.WordsExc
import HandS.Head0
import HandS.MakeKw
import HandS.Gcd
import HandS.Codes
import KE.KStateDown
import Lean
import HandS.More
import HandS.Head1
import HandS.Head2
import HandS.HeadEnd
import PySem.Challenge.RW_beadmoot_k01_strands
section
set_option Elab.async false
set_option linter.all false
set_option maxRecDepth 100000
set_option maxHeartbeats 4000000
set_option autoImplicit false
namespace Pd
open PySem PySem.Spec PyProof.Rows L2

/-! ### data -/
inductive D where
  | non | bl (b : Bool) | int (i : Int) | str (x : Str) | lst (ds : List D) | tup (ds : List D) | rol (ds : List D) | ty (n : String) | adr (a : Addr)
  | obj (C : Addr) (fs : List (Str × D)) | exc (a dd : Addr) (fs : List (Str × D)) | dK (kvs : List (Key × D)) | dT (kvs : List (List Key × D))
  | ev (C : Addr) (fs : List (Str × D))

mutual
inductive Rep (K : PySem.W.Frag) (H : Hp) : V → D → Prop
  | non : Rep K H .non .non
  | bl (b : Bool) : Rep K H (.bl b) (.bl b)
  | int (i : Int) : Rep K H (.int i) (.int i)
  | str (x : Str) : Rep K H (.str x) (.str x)
  | ty (n : String) : Rep K H (.ty n) (.ty n)
  | adr (a : Addr) : Rep K H (.ref a) (.adr a)
  | lst {a : Addr} {vs : List V} {ds : List D} : H a = some (.lst vs) → Reps K H vs ds → Rep K H (.ref a) (.lst ds)
  | rol {a : Addr} {vs : List V} {ds : List D} : SqL K H a vs → Reps K H vs ds → Rep K H (.ref a) (.rol ds)
  | tup {a : Addr} {vs : List V} {ds : List D} : SqT K H a vs → Reps K H vs ds → Rep K H (.ref a) (.tup ds)
  | obj {a C dx : Addr} {vs : List (Str × V)} {ds : List (Str × D)} : H a = some (.ins C dx vs) → RepF K H vs ds → Rep K H (.ref a) (.obj C ds)
  | exc {a dd : Addr} {vs : List (Str × V)} {ds : List (Str × D)} : H dd = some (.xd vs) → RepF K H vs ds → Rep K H (.ref a) (.exc a dd ds)
  | dK {a : Addr} {vs : List (Key × V)} {ds : List (Key × D)} : H a = some (.dK vs) → RepK K H vs ds → Rep K H (.ref a) (.dK ds)
  | dT {a : Addr} {vs : List (List Key × V)} {ds : List (List Key × D)} : H a = some (.dT vs) → RepT K H vs ds → Rep K H (.ref a) (.dT ds)
  | ev0 {a C : Addr} : H a = some (exo a C none) → Rep K H (.ref a) (.ev C [])
  | ev1 {a C dx : Addr} {vs : List (Str × V)} {ds : List (Str × D)} : H a = some (exo a C (some dx)) → H dx = some (exd dx vs) → RepF K H vs ds → Rep K H (.ref a) (.ev C ds)
inductive Reps (K : PySem.W.Frag) (H : Hp) : List V → List D → Prop
  | nil : Reps K H [] []
  | cons {v : V} {d : D} {vs : List V} {ds : List D} : Rep K H v d → Reps K H vs ds → Reps K H (v :: vs) (d :: ds)
inductive RepF (K : PySem.W.Frag) (H : Hp) : List (Str × V) → List (Str × D) → Prop
  | nil : RepF K H [] []
  | cons {x : Str} {v : V} {d : D} {vs : List (Str × V)} {ds : List (Str × D)} : Rep K H v d → RepF K H vs ds → RepF K H ((x, v) :: vs) ((x, d) :: ds)
inductive RepK (K : PySem.W.Frag) (H : Hp) : List (Key × V) → List (Key × D) → Prop
  | nil : RepK K H [] []
  | cons {x : Key} {v : V} {d : D} {vs : List (Key × V)} {ds : List (Key × D)} : Rep K H v d → RepK K H vs ds → RepK K H ((x, v) :: vs) ((x, d) :: ds)
inductive RepT (K : PySem.W.Frag) (H : Hp) : List (List Key × V) → List (List Key × D) → Prop
  | nil : RepT K H [] []
  | cons {x : List Key} {v : V} {d : D} {vs : List (List Key × V)} {ds : List (List Key × D)} : Rep K H v d → RepT K H vs ds → RepT K H ((x, v) :: vs) ((x, d) :: ds)
end

/-- a field is put -/
def putFD (f : Str) (d : D) : List (Str × D) → List (Str × D)
  | [] => [(f, d)]
  | (x, y) :: r => if x = f then (x, d) :: r else (x, y) :: putFD f d r
theorem rd_mono {H H' : Hp} {a : Addr} {u : HO} (e : Same H H') (h : Rd H a u) : Rd H' a u := by
  rcases h with h | ⟨o, h⟩
  · exact Or.inl (e a _ h)
  · exact Or.inr ⟨o, e a _ h⟩
theorem sqL_mono {K : PySem.W.Frag} {H H' : Hp} {a : Addr} {xs : List V} (e : Same H H') (h : SqL K H a xs) : SqL K H' a xs := by
  rcases h with h | h
  · exact Or.inl (rd_mono e h)
  · exact Or.inr h
theorem sqT_mono {K : PySem.W.Frag} {H H' : Hp} {a : Addr} {xs : List V} (e : Same H H') (h : SqT K H a xs) : SqT K H' a xs := by
  rcases h with h | h
  · exact Or.inl (rd_mono e h)
  · exact Or.inr h
mutual
theorem Rep.mono {K : PySem.W.Frag} {H H' : Hp} (e : Same H H') : ∀ {v : V} {d : D}, Rep K H v d → Rep K H' v d
  | _, _, .non => .non
  | _, _, .bl b => .bl b
  | _, _, .int i => .int i
  | _, _, .str x => .str x
  | _, _, .ty n => .ty n
  | _, _, .adr a => .adr a
  | _, _, .lst h r => .lst (e _ _ h) (Reps.mono e r)
  | _, _, .rol h r => .rol (sqL_mono e h) (Reps.mono e r)
  | _, _, .tup h r => .tup (sqT_mono e h) (Reps.mono e r)
  | _, _, .obj h r => .obj (e _ _ h) (RepF.mono e r)
  | _, _, .exc h r => .exc (e _ _ h) (RepF.mono e r)
  | _, _, .dK h r => .dK (e _ _ h) (RepK.mono e r)
  | _, _, .dT h r => .dT (e _ _ h) (RepT.mono e r)
  | _, _, .ev0 h => .ev0 (e _ _ h)
  | _, _, .ev1 h q r => .ev1 (e _ _ h) (e _ _ q) (RepF.mono e r)
theorem Reps.mono {K : PySem.W.Frag} {H H' : Hp} (e : Same H H') : ∀ {v : List V} {d : List D}, Reps K H v d → Reps K H' v d
  | _, _, .nil => .nil
  | _, _, .cons r t => .cons (Rep.mono e r) (Reps.mono e t)
theorem RepF.mono {K : PySem.W.Frag} {H H' : Hp} (e : Same H H') : ∀ {v : List (Str × V)} {d : List (Str × D)}, RepF K H v d → RepF K H' v d
  | _, _, .nil => .nil
  | _, _, .cons r t => .cons (Rep.mono e r) (RepF.mono e t)
theorem RepK.mono {K : PySem.W.Frag} {H H' : Hp} (e : Same H H') : ∀ {v : List (Key × V)} {d : List (Key × D)}, RepK K H v d → RepK K H' v d
  | _, _, .nil => .nil
  | _, _, .cons r t => .cons (Rep.mono e r) (RepK.mono e t)
theorem RepT.mono {K : PySem.W.Frag} {H H' : Hp} (e : Same H H') : ∀ {v : List (List Key × V)} {d : List (List Key × D)}, RepT K H v d → RepT K H' v d
  | _, _, .nil => .nil
  | _, _, .cons r t => .cons (Rep.mono e r) (RepT.mono e t)
end
theorem Reps.length {K : PySem.W.Frag} {H : Hp} : ∀ {vs : List V} {ds : List D}, Reps K H vs ds → vs.length = ds.length
  | _, _, .nil => rfl
  | _, _, .cons _ t => congrArg Nat.succ (Reps.length t)
theorem Reps.get {K : PySem.W.Frag} {H : Hp} : ∀ {vs : List V} {ds : List D} {i : Nat} {d : D}, Reps K H vs ds → ds[i]? = some d → ∃ v, vs[i]? = some v ∧ Rep K H v d
  | _, _, _, _, .nil, e => by simp at e
  | _, _, 0, _, .cons r _, e => by simp at e; subst e; exact ⟨_, rfl, r⟩
  | _, _, i + 1, d, .cons _ t, e => by
    obtain ⟨v, h1, h2⟩ := Reps.get (i := i) (d := d) t (by simpa using e)
    exact ⟨v, by simpa using h1, h2⟩
theorem Reps.getV {K : PySem.W.Frag} {H : Hp} : ∀ {vs : List V} {ds : List D} {i : Nat} {v : V}, Reps K H vs ds → vs[i]? = some v → ∃ d, ds[i]? = some d ∧ Rep K H v d
  | _, _, _, _, .nil, e => by simp at e
  | _, _, 0, _, .cons r _, e => by simp at e; subst e; exact ⟨_, rfl, r⟩
  | _, _, i + 1, v, .cons _ t, e => by
    obtain ⟨d, h1, h2⟩ := Reps.getV (i := i) (v := v) t (by simpa using e)
    exact ⟨d, by simpa using h1, h2⟩
theorem Reps.append {K : PySem.W.Frag} {H : Hp} : ∀ {vs us : List V} {ds es : List D}, Reps K H vs ds → Reps K H us es → Reps K H (vs ++ us) (ds ++ es)
  | _, _, _, _, .nil, h => h
  | _, _, _, _, .cons r t, h => .cons r (Reps.append t h)
theorem Reps.take {K : PySem.W.Frag} {H : Hp} : ∀ {vs : List V} {ds : List D} (n : Nat), Reps K H vs ds → Reps K H (vs.take n) (ds.take n)
  | _, _, 0, _ => .nil
  | _, _, _ + 1, .nil => .nil
  | _, _, n + 1, .cons r t => .cons r (Reps.take n t)
theorem Reps.drop {K : PySem.W.Frag} {H : Hp} : ∀ {vs : List V} {ds : List D} (n : Nat), Reps K H vs ds → Reps K H (vs.drop n) (ds.drop n)
  | _, _, 0, h => h
  | _, _, _ + 1, .nil => .nil
  | _, _, n + 1, .cons _ t => Reps.drop n t
theorem Reps.set {K : PySem.W.Frag} {H : Hp} {v : V} {d : D} (r : Rep K H v d) : ∀ {vs : List V} {ds : List D} (n : Nat), Reps K H vs ds → Reps K H (vs.set n v) (ds.set n d)
  | _, _, _, .nil => .nil
  | _, _, 0, .cons _ t => .cons r t
  | _, _, n + 1, .cons q t => .cons q (Reps.set r n t)
theorem Reps.ints {K : PySem.W.Frag} {H : Hp} : ∀ {vs : List V} {ns : List Int}, Reps K H vs (ns.map D.int) → vs = ns.map V.int
  | [], [], _ => rfl
  | [], _ :: _, h => by cases h
  | _ :: _, [], h => by cases h
  | v :: vs, n :: ns, h => by
    cases h with
    | cons r t => cases r; rw [Reps.ints t] <;> rfl
theorem Reps.of_ints {K : PySem.W.Frag} {H : Hp} : ∀ (ns : List Int), Reps K H (ns.map V.int) (ns.map D.int)
  | [] => .nil
  | n :: ns => .cons (.int n) (Reps.of_ints ns)
theorem RepF.get {K : PySem.W.Frag} {H : Hp} {f : Str} {d : D} : ∀ {vs : List (Str × V)} {ds : List (Str × D)}, RepF K H vs ds → ds.lookup f = some d → ∃ v, vs.lookup f = some v ∧ Rep K H v d
  | _, _, .nil, e => by cases e
  | _, _, .cons (x := x) r t, e => by
    simp only [List.lookup] at e ⊢
    cases q : (f == x) with
    | true =>
      rw [q] at e
      cases e
      exact ⟨_, rfl, r⟩
    | false =>
      rw [q] at e
      exact RepF.get t e

theorem RepF.put {K : PySem.W.Frag} {H : Hp} {f : Str} {v : V} {d : D} (r : Rep K H v d) : ∀ {vs : List (Str × V)} {ds : List (Str × D)}, RepF K H vs ds → RepF K H (putF f v vs) (putFD f d ds)
  | _, _, .nil => .cons r .nil
  | _, _, .cons (x := x) q t => by
    unfold putF putFD
    by_cases h : x = f
    · rw [if_pos h, if_pos h]; exact .cons r t
    · rw [if_neg h, if_neg h]; exact .cons q (RepF.put r t)
theorem RepF.none_of {K : PySem.W.Frag} {H : Hp} {f : Str} : ∀ {vs : List (Str × V)} {ds : List (Str × D)}, RepF K H vs ds → ds.lookup f = none → vs.lookup f = none
  | _, _, .nil, _ => rfl
  | _, _, .cons (x := x) q t, e => by
    simp only [List.lookup] at e ⊢
    cases h : (f == x) with
    | true => rw [h] at e; cases e
    | false => rw [h] at e; exact RepF.none_of t e
theorem RepF.length {K : PySem.W.Frag} {H : Hp} : ∀ {vs : List (Str × V)} {ds : List (Str × D)}, RepF K H vs ds → vs.length = ds.length
  | _, _, .nil => rfl
  | _, _, .cons _ t => congrArg Nat.succ (RepF.length t)
/-! ### heaps: what is shared, what there is -/
structure Gr (Hs H Hs' H' : Hp) : Prop where
  sh : Same Hs Hs'
  ext : Same H H'
  sub : Same Hs' H'
  loc : ∀ a, H a ≠ none → Hs a = none → Hs' a = none
theorem Gr.refl {Hs H : Hp} (s : Same Hs H) : Gr Hs H Hs H := ⟨Same.refl _, Same.refl _, s, fun _ _ h => h⟩
theorem Gr.trans {Hs H Hs1 H1 Hs2 H2 : Hp} (a : Gr Hs H Hs1 H1) (b : Gr Hs1 H1 Hs2 H2) : Gr Hs H Hs2 H2 := ⟨a.sh.trans b.sh, a.ext.trans b.ext, b.sub, fun x h h' => b.loc x (fun q => by
  cases e : H x with
  | none => exact h e
  | some o =>
    have z := a.ext x o e
    rw [q] at z
    cases z) (a.loc x h h')⟩
/-- a new thing, shared -/
theorem Gr.new {Hs H : Hp} (s : Same Hs H) {p : Addr} {o : HO} (h : H p = none) : Gr Hs H (upd Hs p o) (upd H p o) where
  sh := fun a u e => by
    have : H a = some u := s a u e
    rw [upd_ne (ne_of_none this h)]; exact e
  ext := fun a u e => by rw [upd_ne (ne_of_none e h)]; exact e
  sub := fun a u e => by
    by_cases q : a = p
    · subst q; rw [upd_same] at e ⊢; exact e
    · rw [upd_ne q] at e ⊢; exact s a u e
  loc := fun a h1 h2 => by
    have : a ≠ p := fun q => h1 (by rw [q]; exact h)
    rw [upd_ne this]; exact h2
theorem Same.none {H H' : Hp} (e : Same H H') {l : Addr} (h : H' l = Option.none) : H l = Option.none := e.free h

/-! ### what an expression gives -/
/-- a slot: nothing known; a value; a list of one's own -/
inductive Sl where
  | no | sh (d : D) | ow (ds : List D) | ob (p C : Addr) (fs : List (Str × D))
structure SE (K : PySem.W.Frag) (Hs : Hp) (σ : L2.St) (γ : List Sl) : Prop where
  len : σ.length = γ.length
  sh : ∀ (i : Nat) (d : D), γ[i]? = some (Sl.sh d) → ∃ v, σ[i]? = some (some v) ∧ Rep K Hs v d
theorem SE.mono {K : PySem.W.Frag} {Hs Hs' : Hp} {σ : L2.St} {γ : List Sl} (e : Same Hs Hs') (h : SE K Hs σ γ) : SE K Hs' σ γ := ⟨h.len, fun i d q => let ⟨v, a, b⟩ := h.sh i d q; ⟨v, a, b.mono e⟩⟩

def wE (X : Cx) (e : Expr) : TE := fun σ H Q => ∀ (pins : List (Addr × Obj)) (s : Shared), Inv X pins σ H s → wpAny (model X.prog X.w) X.A (eval e X.env) (EP X pins σ Q) X.xe s
theorem wE_ok {X : Cx} (e : Expr) : PE X e (wE X e) := ⟨fun pins s σ H Q I h => h pins s I⟩
theorem wE_of {X : Cx} {e : Expr} {t : TE} (h : PE X e t) {σ : L2.St} {H : Hp} {Q : VK} (q : t σ H Q) : wE X e σ H Q := fun pins s I => h.run pins s σ H Q I q
def wT (X : Cx) (e : Expr) : TT := fun σ H Q => ∀ (pins : List (Addr × Obj)) (s : Shared), Inv X pins σ H s → wpAny (model X.prog X.w) X.A (isTrue e X.env (eval e X.env)) (TP X pins σ Q) X.xe s
theorem wT_ok {X : Cx} (e : Expr) : PT X e (wT X e) := ⟨fun pins s σ H Q I h => h pins s I⟩
theorem wT_of {X : Cx} {e : Expr} {t : TT} (h : PT X e t) {σ : L2.St} {H : Hp} {Q : Bool → Hp → Prop} (q : t σ H Q) : wT X e σ H Q := fun pins s I => h.run pins s σ H Q I q
def wW (X : Cx) (e : Expr) : TT := fun σ H Q => ∀ (whole : Sem Value) (pins : List (Addr × Obj)) (s : Shared), Inv X pins σ H s → wpAny (model X.prog X.w) X.A (isTrue e X.env whole) (TP X pins σ Q) X.xe s
theorem wW_ok {X : Cx} (e : Expr) : PW X e (wW X e) := ⟨fun wh pins s σ H Q I h => h wh pins s I⟩
theorem wW_of {X : Cx} {e : Expr} {t : TT} (h : PW X e t) {σ : L2.St} {H : Hp} {Q : Bool → Hp → Prop} (q : t σ H Q) : wW X e σ H Q := fun wh pins s I => h.run wh pins s σ H Q I q
def wA (X : Cx) (es : List Expr) : TA := fun σ H Q => ∀ (pos : Pos) (pins : List (Addr × Obj)) (s : Shared), Inv X pins σ H s → wpAny (model X.prog X.w) X.A (spliced (backTo pos (starEach es X.env))) (AP X pins σ Q) X.xe s
theorem wA_ok {X : Cx} (es : List Expr) : PA X es (wA X es) := ⟨fun pos pins s σ H Q I h => h pos pins s I⟩
theorem wA_of {X : Cx} {e : List Expr} {t : TA} (h : PA X e t) {σ : L2.St} {H : Hp} {Q : List V → Hp → Prop} (q : t σ H Q) : wA X e σ H Q := fun pos pins s I => h.run pos pins s σ H Q I q
def wO (X : Cx) (e : Option Expr) (t : TO) : Prop := PO X e t

/-- e gives d -/
def PD (X : Cx) (γ : List Sl) (e : Expr) (d : D) : Prop := ∀ (σ : L2.St) (Hs H : Hp) (Q : VK), Same Hs H → SE X.K Hs σ γ → (∀ v Hs' H', Gr Hs H Hs' H' → Rep X.K Hs' v d → Q v H') → wE X e σ H Q
/-- e gives a new list of these -/
def PN (X : Cx) (γ : List Sl) (e : Expr) (ds : List D) : Prop := ∀ (σ : L2.St) (Hs H : Hp) (Q : VK), Same Hs H → SE X.K Hs σ γ →
  (∀ l vs Hs' H', Gr Hs H Hs' H' → H l = none → Hs' l = none → H' l = some (.lst vs) → Reps X.K Hs' vs ds → Q (.ref l) H') → wE X e σ H Q
def PDT (X : Cx) (γ : List Sl) (e : Expr) (b : Bool) : Prop := ∀ (σ : L2.St) (Hs H : Hp) (Q : Bool → Hp → Prop), Same Hs H → SE X.K Hs σ γ → (∀ Hs' H', Gr Hs H Hs' H' → Q b H') → wT X e σ H Q
def PDW (X : Cx) (γ : List Sl) (e : Expr) (b : Bool) : Prop := ∀ (σ : L2.St) (Hs H : Hp) (Q : Bool → Hp → Prop), Same Hs H → SE X.K Hs σ γ → (∀ Hs' H', Gr Hs H Hs' H' → Q b H') → wW X e σ H Q
def PDA (X : Cx) (γ : List Sl) (es : List Expr) (ds : List D) : Prop := ∀ (σ : L2.St) (Hs H : Hp) (Q : List V → Hp → Prop), Same Hs H → SE X.K Hs σ γ → (∀ vs Hs' H', Gr Hs H Hs' H' → Reps X.K Hs' vs ds → Q vs H') → wA X es σ H Q
/-- an operation on two data, on one, on several -/
def RVD (K : PySem.W.Frag) (r : R2) (x y z : D) : Prop := ∀ (Hs H : Hp) (v u : V) (Q : VK), Same Hs H → Rep K Hs v x → Rep K Hs u y → (∀ w Hs' H', Gr Hs H Hs' H' → Rep K Hs' w z → Q w H') → r v u H Q
def RUD (K : PySem.W.Frag) (r : V → Hp → VK → Prop) (x z : D) : Prop := ∀ (Hs H : Hp) (v : V) (Q : VK), Same Hs H → Rep K Hs v x → (∀ w Hs' H', Gr Hs H Hs' H' → Rep K Hs' w z → Q w H') → r v H Q
def RCD (K : PySem.W.Frag) (r : List V → Hp → VK → Prop) (xs : List D) (z : D) : Prop := ∀ (Hs H : Hp) (vs : List V) (Q : VK), Same Hs H → Reps K Hs vs xs → (∀ w Hs' H', Gr Hs H Hs' H' → Rep K Hs' w z → Q w H') → r vs H Q
def RCN (K : PySem.W.Frag) (r : List V → Hp → VK → Prop) (xs : List D) (zs : List D) : Prop := ∀ (Hs H : Hp) (vs : List V) (Q : VK), Same Hs H → Reps K Hs vs xs →
  (∀ l us Hs' H', Gr Hs H Hs' H' → H l = none → Hs' l = none → H' l = some (.lst us) → Reps K Hs' us zs → Q (.ref l) H') → r vs H Q
def RVN (K : PySem.W.Frag) (r : R2) (x y : D) (zs : List D) : Prop := ∀ (Hs H : Hp) (v u : V) (Q : VK), Same Hs H → Rep K Hs v x → Rep K Hs u y →
  (∀ l us Hs' H', Gr Hs H Hs' H' → H l = none → Hs' l = none → H' l = some (.lst us) → Reps K Hs' us zs → Q (.ref l) H') → r v u H Q

section
variable {X : Cx} {γ : List Sl} {a b c e : Expr} {es : List Expr} {x y z d : D} {ds zs : List D} {pos : Pos}
theorem PD.is {d' : D} (h : PD X γ e d) (q : d = d') : PD X γ e d' := by rw [← q]; exact h
theorem PN.is {d' : List D} (h : PN X γ e ds) (q : ds = d') : PN X γ e d' := by rw [← q]; exact h
theorem PDT.is {p q : Bool} (h : PDT X γ e p) (w : p = q) : PDT X γ e q := by rw [← w]; exact h
/-- what is new may be shared -/
theorem share {K : PySem.W.Frag} {Hs H Hs' H' : Hp} {l : Addr} {vs : List V} (s : Same Hs H) (g : Gr Hs H Hs' H') (h1 : H l = none) (h2 : Hs' l = none) (h3 : H' l = some (.lst vs)) (r : Reps K Hs' vs ds) :
    Gr Hs H (upd Hs' l (.lst vs)) H' ∧ Rep K (upd Hs' l (.lst vs)) (.ref l) (.lst ds) := by
  have s1 : Same Hs' (upd Hs' l (.lst vs)) := fun a u e => by rw [upd_ne (ne_of_none e h2)]; exact e
  refine ⟨⟨g.sh.trans s1, g.ext, fun a u e => ?_, fun a q1 q2 => ?_⟩, .lst upd_same (r.mono s1)⟩
  · by_cases q : a = l
    · subst q; rw [upd_same] at e; rw [← e]; exact h3
    · rw [upd_ne q] at e; exact g.sub a u e
  · have : a ≠ l := fun q => q1 (by rw [q]; exact h1)
    rw [upd_ne this]; exact g.loc a q1 q2
theorem PN.pd (h : PN X γ e ds) : PD X γ e (.lst ds) := fun σ Hs H Q s E k => h σ Hs H Q s E fun l vs Hs' H' g h1 h2 h3 r => by
  obtain ⟨g', r'⟩ := share s g h1 h2 h3 r
  exact k _ _ _ g' r'

theorem pd_v (i : Nat) {n : Str} (h : γ[i]? = some (.sh d) := by rfl) (hN : X.N[i]? = some n := by rfl) (hv : Vis X.env.scope n := by first | exact Or.inl rfl | exact Or.inr (Or.inl rfl) | exact Or.inr (Or.inr rfl)) (hd : (n == ("__debug__" : Str)) = false := by decide)
    (hcd : (n == ("__classdict__" : Str)) = false := by decide) : PD X γ (.Name n pos) d := fun σ Hs H Q s E k => by
  obtain ⟨v, h1, h2⟩ := E.sh i d h
  exact wE_of (pe_var hN hv hd hcd) ⟨v, h1, k v Hs H (Gr.refl s) h2⟩
theorem pd_int {i : Int} {j : Nat} : PD X γ (.Constant (.int i) j pos) (.int i) := fun σ Hs H Q s E k => wE_of pe_int (k _ Hs H (Gr.refl s) (.int i))
theorem pd_bl {i : Bool} {j : Nat} : PD X γ (.Constant (.bool i) j pos) (.bl i) := fun σ Hs H Q s E k => wE_of pe_bl (k _ Hs H (Gr.refl s) (.bl i))
theorem pd_non {j : Nat} : PD X γ (.Constant .none j pos) .non := fun σ Hs H Q s E k => wE_of pe_non (k _ Hs H (Gr.refl s) .non)
theorem pd_str {i : Str} {j : Nat} : PD X γ (.Constant (.str i) j pos) (.str i) := fun σ Hs H Q s E k => wE_of pe_str (k _ Hs H (Gr.refl s) (.str i))
/-- a global name that holds d -/
theorem pd_glob {n : Str} {v : V} {u : Value} (hg : Gl X n) (hm : X.mg n = some u) (r : RelV v u) (hv : ∀ H, Rep X.K H v d) (hd : (n == ("__debug__" : Str)) = false := by decide) : PD X γ (.Name n pos) d :=
  fun σ Hs H Q s E k => wE_of (pe_glob hg hm r hd) (k _ Hs H (Gr.refl s) (hv Hs))

theorem bin2 {R : V → V → Hp → Prop} {σ : L2.St} {Hs H : Hp} (ha : PD X γ a x) (hb : PD X γ b y) (s : Same Hs H) (E : SE X.K Hs σ γ)
    (k : ∀ v u Hs' H', Gr Hs H Hs' H' → Rep X.K Hs' v x → Rep X.K Hs' u y → R v u H') : wE X a σ H fun v H1 => wE X b σ H1 fun u H2 => R v u H2 :=
  ha σ Hs H _ s E fun v Hs1 H1 g1 r1 => hb σ Hs1 H1 _ g1.sub (E.mono g1.sh) fun u Hs2 H2 g2 r2 => k v u Hs2 H2 (g1.trans g2) (r1.mono g2.sh) r2
theorem pd_op {op : Operator} {r : R2} (ho : OpR X (binaryOp op) r) (hr : RVD X.K r x y z) (ha : PD X γ a x) (hb : PD X γ b y) : PD X γ (.BinOp a op b pos) z := fun σ Hs H Q s E k =>
  wE_of (pe_op ho (wE_ok a) (wE_ok b)) (bin2 ha hb s E fun v u Hs' H' g r1 r2 => hr Hs' H' v u Q g.sub r1 r2 fun w Hs2 H2 g2 r3 => k w Hs2 H2 (g.trans g2) r3)
theorem pn_op {op : Operator} {r : R2} (ho : OpR X (binaryOp op) r) (hr : RVN X.K r x y zs) (ha : PD X γ a x) (hb : PD X γ b y) : PN X γ (.BinOp a op b pos) zs := fun σ Hs H Q s E k =>
  wE_of (pe_op ho (wE_ok a) (wE_ok b)) (bin2 ha hb s E fun v u Hs' H' g r1 r2 => hr Hs' H' v u Q g.sub r1 r2 fun l us Hs2 H2 g2 h1 h2 h3 r3 => k l us Hs2 H2 (g.trans g2) (g.ext.free h1) h2 h3 r3)
theorem pd_un {op : UnaryOp} {r : V → Hp → VK → Prop} (ho : UnR X (unaryOp op) r) (hr : RUD X.K r x z) (ha : PD X γ a x) : PD X γ (.UnaryOp op a pos) z := fun σ Hs H Q s E k =>
  wE_of (pe_un ho (wE_ok a)) (ha σ Hs H _ s E fun v Hs' H' g r1 => hr Hs' H' v Q g.sub r1 fun w Hs2 H2 g2 r3 => k w Hs2 H2 (g.trans g2) r3)
theorem pd_cmp {op : CmpOp} {r : R2} (ho : OpR X (compareOp op) r) (hr : RVD X.K r x y z) (ha : PD X γ a x) (hb : PD X γ b y) (hm : behindInMarks op b = false := by first | exact nomark _ | rfl) : PD X γ (.Compare a [op] [b] pos) z := fun σ Hs H Q s E k =>
  wE_of (pe_cmpR ho (wE_ok a) (wE_ok b) hm) (bin2 ha hb s E fun v u Hs' H' g r1 r2 => hr Hs' H' v u Q g.sub r1 r2 fun w Hs2 H2 g2 r3 => k w Hs2 H2 (g.trans g2) r3)
theorem pt_cmp {op : CmpOp} {r : R2} {p : Bool} (ho : OpR X (compareOp op) r) (hr : RVD X.K r x y (.bl p)) (ha : PD X γ a x) (hb : PD X γ b y) (hm : behindInMarks op b = false := by first | exact nomark _ | rfl) : PDT X γ (.Compare a [op] [b] pos) p := fun σ Hs H Q s E k =>
  wT_of (pt_cmpR ho (wE_ok a) (wE_ok b) hm) (bin2 ha hb s E fun v u Hs' H' g r1 r2 => hr Hs' H' v u _ g.sub r1 r2 fun w Hs2 H2 g2 r3 => by
    cases r3
    exact ⟨p, rfl, k Hs2 H2 (g.trans g2)⟩)
theorem rd_I0 {K : PySem.W.Frag} {f : Int → Int → V} {i j : Int} (hf : ∀ H, Rep K H (f i j) z) : RVD K (rI0 f) (.int i) (.int j) z := fun Hs H v u Q s r1 r2 k => by
  cases r1; cases r2
  exact ⟨i, j, rfl, rfl, k _ _ _ (Gr.refl s) (hf _)⟩
theorem rd_I {K : PySem.W.Frag} {C : Int → Int → Prop} {f : Int → Int → V} {i j : Int} (hf : ∀ H, Rep K H (f i j) z) (hc : C i j) : RVD K (rI C f) (.int i) (.int j) z := fun Hs H v u Q s r1 r2 k => by
  cases r1; cases r2
  exact ⟨i, j, rfl, rfl, hc, k _ _ _ (Gr.refl s) (hf _)⟩
section
variable {i j : Int}
theorem pd_add (ha : PD X γ a (.int i)) (hb : PD X γ b (.int j)) : PD X γ (.BinOp a .Add b pos) (.int (i + j)) := pd_op op_add (rd_I0 fun _ => .int _) ha hb
theorem pd_sub (ha : PD X γ a (.int i)) (hb : PD X γ b (.int j)) : PD X γ (.BinOp a .Sub b pos) (.int (i - j)) := pd_op op_sub (rd_I0 fun _ => .int _) ha hb
theorem pd_mul (ha : PD X γ a (.int i)) (hb : PD X γ b (.int j)) (h : CMulW i j) : PD X γ (.BinOp a .Mult b pos) (.int (i * j)) := pd_op op_mulW (rd_I (fun _ => .int _) h) ha hb
theorem pd_mod (ha : PD X γ a (.int i)) (hb : PD X γ b (.int j)) (h : 0 < j := by decide) : PD X γ (.BinOp a .Mod b pos) (.int (i % j)) := pd_op op_mod (rd_I (fun _ => .int _) h) ha hb
theorem pd_div (ha : PD X γ a (.int i)) (hb : PD X γ b (.int j)) (h : CDivW i j) : PD X γ (.BinOp a .FloorDiv b pos) (.int (i / j)) := pd_op op_fdivW (rd_I (fun _ => .int _) h) ha hb
theorem pd_pow (ha : PD X γ a (.int i)) (hb : PD X γ b (.int j)) (h : 0 ≤ j ∧ j ≤ 1000000 ∧ i.natAbs < 2 ^ 64 := by decide) : PD X γ (.BinOp a .Pow b pos) (.int (i ^ j.toNat)) := pd_op op_pow (rd_I (fun _ => .int _) h) ha hb
theorem pd_neg (ha : PD X γ a (.int i)) : PD X γ (.UnaryOp .USub a pos) (.int (-i)) := pd_un un_neg (fun Hs H v Q s r k => by
  cases r
  exact ⟨i, rfl, k _ _ _ (Gr.refl s) (.int _)⟩) ha
theorem pd_lt (ha : PD X γ a (.int i)) (hb : PD X γ b (.int j)) : PD X γ (.Compare a [.Lt] [b] pos) (.bl (decide (i < j))) := pd_cmp op_lt (rd_I0 fun _ => .bl _) ha hb
theorem pd_le (ha : PD X γ a (.int i)) (hb : PD X γ b (.int j)) : PD X γ (.Compare a [.LtE] [b] pos) (.bl (decide (i ≤ j))) := pd_cmp op_le (rd_I0 fun _ => .bl _) ha hb
theorem pd_gt (ha : PD X γ a (.int i)) (hb : PD X γ b (.int j)) : PD X γ (.Compare a [.Gt] [b] pos) (.bl (decide (j < i))) := pd_cmp op_gt (rd_I0 fun _ => .bl _) ha hb
theorem pd_ge (ha : PD X γ a (.int i)) (hb : PD X γ b (.int j)) : PD X γ (.Compare a [.GtE] [b] pos) (.bl (decide (j ≤ i))) := pd_cmp op_ge (rd_I0 fun _ => .bl _) ha hb
theorem pt_lt (ha : PD X γ a (.int i)) (hb : PD X γ b (.int j)) : PDT X γ (.Compare a [.Lt] [b] pos) (decide (i < j)) := pt_cmp op_lt (rd_I0 fun _ => .bl _) ha hb
theorem pt_le (ha : PD X γ a (.int i)) (hb : PD X γ b (.int j)) : PDT X γ (.Compare a [.LtE] [b] pos) (decide (i ≤ j)) := pt_cmp op_le (rd_I0 fun _ => .bl _) ha hb
theorem pt_gt (ha : PD X γ a (.int i)) (hb : PD X γ b (.int j)) : PDT X γ (.Compare a [.Gt] [b] pos) (decide (j < i)) := pt_cmp op_gt (rd_I0 fun _ => .bl _) ha hb
theorem pt_ge (ha : PD X γ a (.int i)) (hb : PD X γ b (.int j)) : PDT X γ (.Compare a [.GtE] [b] pos) (decide (j ≤ i)) := pt_cmp op_ge (rd_I0 fun _ => .bl _) ha hb
theorem rd_eqI {K : PySem.W.Frag} : RVD K rEq (.int i) (.int j) (.bl (decide (i = j))) := fun Hs H v u Q s r1 r2 k => by
  cases r1; cases r2
  refine ⟨rfl, k _ _ _ (Gr.refl s) ?_⟩
  have : decide (V.int i = V.int j) = decide (i = j) := by simp
  rw [this]
  exact .bl _
theorem rd_neI {K : PySem.W.Frag} : RVD K rNe (.int i) (.int j) (.bl (!decide (i = j))) := fun Hs H v u Q s r1 r2 k => by
  cases r1; cases r2
  refine ⟨rfl, k _ _ _ (Gr.refl s) ?_⟩
  have : decide (V.int i = V.int j) = decide (i = j) := by simp
  rw [this]
  exact .bl _
theorem pd_eqI (ha : PD X γ a (.int i)) (hb : PD X γ b (.int j)) : PD X γ (.Compare a [.Eq] [b] pos) (.bl (decide (i = j))) := pd_cmp op_eq rd_eqI ha hb
theorem pd_neI (ha : PD X γ a (.int i)) (hb : PD X γ b (.int j)) : PD X γ (.Compare a [.NotEq] [b] pos) (.bl (!decide (i = j))) := pd_cmp op_ne rd_neI ha hb
theorem pt_eqI (ha : PD X γ a (.int i)) (hb : PD X γ b (.int j)) : PDT X γ (.Compare a [.Eq] [b] pos) (decide (i = j)) := pt_cmp op_eq rd_eqI ha hb
theorem pt_neI (ha : PD X γ a (.int i)) (hb : PD X γ b (.int j)) : PDT X γ (.Compare a [.NotEq] [b] pos) (!decide (i = j)) := pt_cmp op_ne rd_neI ha hb
end
end
end Pd
end

section
set_option Elab.async false
set_option linter.all false
set_option maxRecDepth 100000
set_option maxHeartbeats 4000000
set_option autoImplicit false
namespace Pd
open PySem PySem.Spec PyProof.Rows L2

section
variable {X : Cx} {γ : List Sl} {a b c e : Expr} {es : List Expr} {x y z d : D} {ds zs : List D} {pos : Pos} {i j : Int} {p q : Bool}
/-! ### tests -/
theorem pt_val (h : PD X γ e (.bl p)) (he : ∀ whole, isTrue e X.env whole = (do let v ← whole; standAt e.pos; holding [v] (truthy v)) := by intro _; rfl) : PDT X γ e p := fun σ Hs H Q s E k =>
  wT_of (L2.pt_val (wE_ok e) he) (h σ Hs H _ s E fun v Hs' H' g r => by
    cases r
    exact ⟨p, rfl, k Hs' H' g⟩)
theorem pt_not (h : PDT X γ a p) : PDT X γ (.UnaryOp .Not a pos) (!p) := fun σ Hs H Q s E k => wT_of (L2.pt_not (wT_ok a)) (h σ Hs H _ s E fun Hs' H' g => k Hs' H' g)
theorem PDW.pt (h : PDW X γ e p) : PDT X γ e p := fun σ Hs H Q s E k => wT_of (wW_ok e).pt (h σ Hs H Q s E k)
theorem pw_and1 (h : PDT X γ a p) : PDW X γ (.BoolOp .And [a] pos) p := fun σ Hs H Q s E k => wW_of (L2.pw_and1 (wT_ok a)) (h σ Hs H Q s E k)
theorem pw_or1 (h : PDT X γ a p) : PDW X γ (.BoolOp .Or [a] pos) p := fun σ Hs H Q s E k => wW_of (L2.pw_or1 (wT_ok a)) (h σ Hs H Q s E k)
theorem pw_and {rest : List Expr} (h : PDT X γ a p) (h2 : p = true → PDW X γ (.BoolOp .And (b :: rest) pos) q) : PDW X γ (.BoolOp .And (a :: b :: rest) pos) (p && q) := fun σ Hs H Q s E k =>
  wW_of (L2.pw_and (wT_ok a) (wW_ok _)) (h σ Hs H _ s E fun Hs' H' g => by
    cases p with
    | true => exact h2 rfl σ Hs' H' Q g.sub (E.mono g.sh) fun Hs2 H2 g2 => k Hs2 H2 (g.trans g2)
    | false => exact k Hs' H' g)
theorem pw_or {rest : List Expr} (h : PDT X γ a p) (h2 : p = false → PDW X γ (.BoolOp .Or (b :: rest) pos) q) : PDW X γ (.BoolOp .Or (a :: b :: rest) pos) (p || q) := fun σ Hs H Q s E k =>
  wW_of (L2.pw_or (wT_ok a) (wW_ok _)) (h σ Hs H _ s E fun Hs' H' g => by
    cases p with
    | false => exact h2 rfl σ Hs' H' Q g.sub (E.mono g.sh) fun Hs2 H2 g2 => k Hs2 H2 (g.trans g2)
    | true => exact k Hs' H' g)
/-! ### the same as values -/
theorem pd_one {op : BoolOp} (h : PD X γ a x) : PD X γ (.BoolOp op [a] pos) x := fun σ Hs H Q s E k => wE_of (pe_one (wE_ok a)) (h σ Hs H Q s E k)
theorem pd_and {rest : List Expr} (h : PD X γ a (.bl p)) (h2 : p = true → PD X γ (.BoolOp .And (b :: rest) pos) (.bl q)) : PD X γ (.BoolOp .And (a :: b :: rest) pos) (.bl (p && q)) := fun σ Hs H Q s E k =>
  wE_of (pe_and (wE_ok a) (wE_ok _)) (h σ Hs H _ s E fun v Hs' H' g r => by
    cases r
    refine ⟨p, rfl, ?_⟩
    cases p with
    | true => exact h2 rfl σ Hs' H' Q g.sub (E.mono g.sh) fun w Hs2 H2 g2 r2 => k w Hs2 H2 (g.trans g2) r2
    | false => exact k _ Hs' H' g (.bl false))
theorem pd_or {rest : List Expr} (h : PD X γ a (.bl p)) (h2 : p = false → PD X γ (.BoolOp .Or (b :: rest) pos) (.bl q)) : PD X γ (.BoolOp .Or (a :: b :: rest) pos) (.bl (p || q)) := fun σ Hs H Q s E k =>
  wE_of (pe_or (wE_ok a) (wE_ok _)) (h σ Hs H _ s E fun v Hs' H' g r => by
    cases r
    refine ⟨p, rfl, ?_⟩
    cases p with
    | false => exact h2 rfl σ Hs' H' Q g.sub (E.mono g.sh) fun w Hs2 H2 g2 r2 => k w Hs2 H2 (g.trans g2) r2
    | true => exact k _ Hs' H' g (.bl true))
theorem pd_not (h : PD X γ a (.bl p)) : PD X γ (.UnaryOp .Not a pos) (.bl (!p)) := fun σ Hs H Q s E k =>
  wE_of (pe_not (wE_ok a)) (h σ Hs H _ s E fun v Hs' H' g r => by
    cases r
    exact ⟨p, rfl, k _ Hs' H' g (.bl _)⟩)
theorem pd_ife (h : PDT X γ c p) (h1 : p = true → PD X γ a d) (h2 : p = false → PD X γ b d) : PD X γ (.IfExp c a b pos) d := fun σ Hs H Q s E k =>
  wE_of (pe_ifExp (wT_ok c) (wE_ok a) (wE_ok b)) (h σ Hs H _ s E fun Hs' H' g => by
    cases p with
    | true => exact h1 rfl σ Hs' H' Q g.sub (E.mono g.sh) fun w Hs2 H2 g2 r2 => k w Hs2 H2 (g.trans g2) r2
    | false => exact h2 rfl σ Hs' H' Q g.sub (E.mono g.sh) fun w Hs2 H2 g2 r2 => k w Hs2 H2 (g.trans g2) r2)
/-- a op b op c -/
theorem pt_chain {op op' : CmpOp} {r r' : R2} (ho : OpR X (compareOp op) r) (ho' : OpR X (compareOp op') r') (h1 : RVD X.K r x y (.bl p)) (h2 : p = true → RVD X.K r' y z (.bl q)) (ha : PD X γ a x) (hb : PD X γ b y) (hc : PD X γ c z)
    (hm : lastMarks [op, op'] [b, c] = false := by with_unfolding_all rfl) : PDT X γ (.Compare a [op, op'] [b, c] pos) (p && q) := fun σ Hs H Q s E k =>
  wT_of (L2.pt_chain ho ho' (wE_ok a) (wE_ok b) (wE_ok c) hm) (bin2 (R := fun v u H2 => r v u H2 fun w H3 => ∃ k2, w = .bl k2 ∧ (if k2 = true then wE X c σ H3 fun w' H4 => r' u w' H4 fun t H5 => ∃ k3, t = .bl k3 ∧ Q k3 H5 else ∃ k3, V.bl false = .bl k3 ∧ Q k3 H3)) ha hb s E
    fun v u Hs' H' g r1 r2 => h1 Hs' H' v u _ g.sub r1 r2 fun w Hs2 H2 g2 r3 => by
      cases r3
      refine ⟨p, rfl, ?_⟩
      cases p with
      | true =>
        rw [if_pos rfl]
        have E2 := E.mono ((g.trans g2).sh)
        refine hc σ Hs2 H2 _ g2.sub E2 fun w' Hs3 H3 g3 r4 => h2 rfl Hs3 H3 u w' _ g3.sub ((r2.mono g2.sh).mono g3.sh) r4 fun t Hs4 H4 g4 r5 => ?_
        cases r5
        exact ⟨q, rfl, k Hs4 H4 (((g.trans g2).trans g3).trans g4)⟩
      | false =>
        rw [if_neg Bool.false_ne_true]
        exact ⟨false, rfl, k Hs2 H2 (g.trans g2)⟩)
theorem rd_le {K : PySem.W.Frag} : RVD K (rI0 fun i j => .bl (decide (i ≤ j))) (.int i) (.int j) (.bl (decide (i ≤ j))) := rd_I0 fun _ => .bl _
theorem rd_lt {K : PySem.W.Frag} : RVD K (rI0 fun i j => .bl (decide (i < j))) (.int i) (.int j) (.bl (decide (i < j))) := rd_I0 fun _ => .bl _
/-! ### arguments, displays -/
theorem pa_nil : PDA X γ [] [] := fun σ Hs H Q s E k => wA_of L2.pa_nil (k [] Hs H (Gr.refl s) .nil)
theorem pa_cons (h : PD X γ e d) (h2 : PDA X γ es ds) (hs : starEach (e :: es) X.env = (false, eval e X.env) :: starEach es X.env := by rfl) : PDA X γ (e :: es) (d :: ds) := fun σ Hs H Q s E k =>
  wA_of (L2.pa_cons (wE_ok e) (wA_ok es) hs) (h σ Hs H _ s E fun v Hs' H' g r => h2 σ Hs' H' _ g.sub (E.mono g.sh) fun vs Hs2 H2 g2 r2 => k _ Hs2 H2 (g.trans g2) (.cons (r.mono g2.sh) r2))
theorem newL {K : PySem.W.Frag} {Hs H : Hp} {vs : List V} {zs : List D} {Q : VK} (s : Same Hs H) (r : Reps K Hs vs zs)
    (k : ∀ l vs Hs' H', Gr Hs H Hs' H' → H l = none → Hs' l = none → H' l = some (.lst vs) → Reps K Hs' vs zs → Q (.ref l) H') : ∀ l, H l = none → Q (.ref l) (upd H l (.lst vs)) := fun l hl =>
  k l vs Hs (upd H l (.lst vs)) ⟨Same.refl _, fun a u e => by rw [upd_ne (ne_of_none e hl)]; exact e, fun a u e => by rw [upd_ne (ne_of_none (s a u e) hl)]; exact s a u e, fun _ _ h => h⟩ hl (s.free hl) upd_same r
theorem newT {K : PySem.W.Frag} {Hs H : Hp} {vs : List V} {zs : List D} {Q : VK} (s : Same Hs H) (r : Reps K Hs vs zs)
    (k : ∀ v Hs' H', Gr Hs H Hs' H' → Rep K Hs' v (.tup zs) → Q v H') : ∀ l, H l = none → Q (.ref l) (upd H l (.tup vs)) := fun l hl =>
  k _ _ _ (Gr.new s hl) (.tup (SqT.of upd_same) (r.mono (Gr.new s hl (o := .tup vs)).sh))
theorem sz_of {n : Nat} (h : n ≤ 100000) : n ≤ sizeLine := Nat.le_trans h (by decide)
theorem sz_lt {n : Nat} (h : n < 100000) : n < sizeLine := Nat.lt_of_lt_of_le h (by decide)
theorem pn_lst (h : PDA X γ es ds) (hz : ds.length ≤ 100000 := by simp) : PN X γ (.List es pos) ds := fun σ Hs H Q s E k =>
  wE_of (pe_lst (wA_ok es)) (h σ Hs H _ s E fun vs Hs' H' g r => ⟨sz_of (by rw [r.length]; exact hz), newL g.sub r fun l us Hs2 H2 g2 h1 h2 h3 r2 => k l us Hs2 H2 (g.trans g2) (g.ext.free h1) h2 h3 r2⟩)
theorem pd_tup {n : Nat} (h : PDA X γ es ds) (hz : ds.length ≤ 100000 := by simp) : PD X γ (.Tuple es n pos) (.tup ds) := fun σ Hs H Q s E k =>
  wE_of (pe_tup (wA_ok es)) (h σ Hs H _ s E fun vs Hs' H' g r => ⟨sz_of (by rw [r.length]; exact hz), newT g.sub r fun w Hs2 H2 g2 r2 => k w Hs2 H2 (g.trans g2) r2⟩)
/-! ### items -/
theorem atI_of {K : PySem.W.Frag} {H : Hp} {vs : List V} {ds : List D} (r : Reps K H vs ds) {d : D} (h : atI ds i = some d) : ∃ v, atI vs i = some v ∧ Rep K H v d := by
  unfold atI at h ⊢
  rw [r.length]
  cases q : ixN ds.length i with
  | none => rw [q] at h; cases h
  | some n =>
    rw [q] at h
    exact r.get h
theorem rd_ixL {K : PySem.W.Frag} (h : atI ds i = some d) : RVD K (rIxL K) (.lst ds) (.int i) d := fun Hs H v u Q s r1 r2 k => by
  cases r1 with
  | lst h1 r1 =>
    cases r2
    obtain ⟨w, hw, rw'⟩ := atI_of r1 h
    exact ⟨_, _, i, w, rfl, rfl, .inl (.inl (s _ _ h1)), hw, k w Hs H (Gr.refl s) rw'⟩
theorem rd_ixR {K : PySem.W.Frag} (h : atI ds i = some d) : RVD K (rIxL K) (.rol ds) (.int i) d := fun Hs H v u Q s r1 r2 k => by
  cases r1 with
  | rol h1 r1 =>
    cases r2
    obtain ⟨w, hw, rw'⟩ := atI_of r1 h
    exact ⟨_, _, i, w, rfl, rfl, sqL_mono s h1, hw, k w Hs H (Gr.refl s) rw'⟩
theorem rd_ixT {K : PySem.W.Frag} (h : atI ds i = some d) : RVD K (rIxT K) (.tup ds) (.int i) d := fun Hs H v u Q s r1 r2 k => by
  cases r1 with
  | tup h1 r1 =>
    cases r2
    obtain ⟨w, hw, rw'⟩ := atI_of r1 h
    exact ⟨_, _, i, w, rfl, rfl, sqT_mono s h1, hw, k w Hs H (Gr.refl s) rw'⟩
theorem rd_ixS {K : PySem.W.Frag} {x : Str} {n : Nat} (hz : x.length ≤ 100000) (h : atI x.cps.toList i = some n) : RVD K rIxS (.str x) (.int i) (.str ⟨#[n]⟩) := fun Hs H v u Q s r1 r2 k => by
  cases r1; cases r2
  exact ⟨_, _, _, rfl, rfl, sz_of hz, h, k _ Hs H (Gr.refl s) (.str _)⟩
theorem pd_ix {r : R2} (hr : IxR X r) (hd : RVD X.K r x y z) (ha : PD X γ a x) (hb : PD X γ b y) (hs : PlainIx b := by exact fun _ _ => rfl) : PD X γ (.Subscript a b pos) z := fun σ Hs H Q s E k =>
  wE_of (pe_ix hr (wE_ok a) (wE_ok b) hs) (bin2 ha hb s E fun v u Hs' H' g r1 r2 => hd Hs' H' v u Q g.sub r1 r2 fun w Hs2 H2 g2 r3 => k w Hs2 H2 (g.trans g2) r3)
theorem pd_ixL (ha : PD X γ a (.lst ds)) (hb : PD X γ b (.int i)) (h : atI ds i = some d) (hs : PlainIx b := by exact fun _ _ => rfl) : PD X γ (.Subscript a b pos) d := pd_ix ix_list (rd_ixL h) ha hb hs
theorem pd_ixR (ha : PD X γ a (.rol ds)) (hb : PD X γ b (.int i)) (h : atI ds i = some d) (hs : PlainIx b := by exact fun _ _ => rfl) : PD X γ (.Subscript a b pos) d := pd_ix ix_list (rd_ixR h) ha hb hs
theorem pd_ixT (ha : PD X γ a (.tup ds)) (hb : PD X γ b (.int i)) (h : atI ds i = some d) (hs : PlainIx b := by exact fun _ _ => rfl) : PD X γ (.Subscript a b pos) d := pd_ix ix_tup (rd_ixT h) ha hb hs
theorem pd_ixS {x : Str} {n : Nat} (ha : PD X γ a (.str x)) (hb : PD X γ b (.int i)) (hz : x.length ≤ 100000) (h : atI x.cps.toList i = some n) (hs : PlainIx b := by exact fun _ _ => rfl) : PD X γ (.Subscript a b pos) (.str ⟨#[n]⟩) := pd_ix ix_str (rd_ixS hz h) ha hb hs
/-! ### slices -/
def PDO (X : Cx) (γ : List Sl) (e : Option Expr) (o : Option Int) : Prop := match e, o with
  | none, none => True
  | some e, some i => PD X γ e (.int i)
  | _, _ => False
def cutD (xs : List D) (lo hi : Option Int) : List D := (xs.drop (HT.sIx xs.length 0 lo)).take (HT.sIx xs.length xs.length hi - HT.sIx xs.length 0 lo)
theorem Reps.cut {K : PySem.W.Frag} {H : Hp} {vs : List V} {ds : List D} (r : Reps K H vs ds) (lo hi : Option Int) : Reps K H (cutV vs lo hi) (cutD ds lo hi) := by
  unfold cutV cutD
  rw [r.length]
  exact (r.drop _).take _
def tO (X : Cx) : Option Expr → TO
  | none => tNoPart
  | some e => tPart (wE X e)
theorem tO_ok {X : Cx} : ∀ (e : Option Expr), PO X e (tO X e)
  | none => po_none
  | some e => po_some (wE_ok e)
theorem po_go {lo : Option Expr} {o : Option Int} {σ : L2.St} {Hs H : Hp} {Q : Option Int → Hp → Prop} (h : PDO X γ lo o) (s : Same Hs H) (E : SE X.K Hs σ γ) (k : ∀ Hs' H', Gr Hs H Hs' H' → Q o H') : tO X lo σ H Q := by
  cases lo with
  | none =>
    cases o with
    | none => exact k Hs H (Gr.refl s)
    | some _ => exact h.elim
  | some e =>
    cases o with
    | none => exact h.elim
    | some i =>
      refine (show PD X γ e (.int i) from h) σ Hs H _ s E fun v Hs' H' g r => ?_
      cases r
      exact ⟨i, rfl, k Hs' H' g⟩
theorem pn_slL {lo hi : Option Expr} {ol oh : Option Int} {p2 : Pos} (ha : PD X γ a (.lst ds)) (hl : PDO X γ lo ol) (hh : PDO X γ hi oh) : PN X γ (.Subscript a (.Slice lo hi none p2) pos) (cutD ds ol oh) := fun σ Hs H Q s E k =>
  wE_of (pe_slice sl_list (wE_ok a) (tO_ok lo) (tO_ok hi)) (ha σ Hs H _ s E fun v Hs1 H1 g1 r1 => po_go hl g1.sub (E.mono g1.sh) fun Hs2 H2 g2 => po_go hh g2.sub (E.mono (g1.trans g2).sh) fun Hs3 H3 g3 => by
    cases r1 with
    | lst h1 r1 =>
      have s3 := g2.sh.trans g3.sh
      exact ⟨_, _, rfl, .inl (.inl (g3.sub _ _ (s3 _ _ h1))), newL g3.sub ((r1.mono s3).cut ol oh) fun l us Hs4 H4 g4 q1 q2 q3 r4 => k l us Hs4 H4 (((g1.trans g2).trans g3).trans g4) (((g1.trans g2).trans g3).ext.free q1) q2 q3 r4⟩)
theorem pd_slT {lo hi : Option Expr} {ol oh : Option Int} {p2 : Pos} (ha : PD X γ a (.tup ds)) (hl : PDO X γ lo ol) (hh : PDO X γ hi oh) (hw : ¬ (HT.sIx ds.length 0 ol = 0 ∧ HT.sIx ds.length ds.length oh = ds.length)) : PD X γ (.Subscript a (.Slice lo hi none p2) pos) (.tup (cutD ds ol oh)) := fun σ Hs H Q s E k =>
  wE_of (pe_slice sl_tup (wE_ok a) (tO_ok lo) (tO_ok hi)) (ha σ Hs H _ s E fun v Hs1 H1 g1 r1 => po_go hl g1.sub (E.mono g1.sh) fun Hs2 H2 g2 => po_go hh g2.sub (E.mono (g1.trans g2).sh) fun Hs3 H3 g3 => by
    cases r1 with
    | tup h1 r1 =>
      have s3 := g2.sh.trans g3.sh
      exact ⟨_, _, rfl, sqT_mono (s3.trans g3.sub) h1, by rw [r1.length]; exact hw, newT g3.sub ((r1.mono s3).cut ol oh) fun w Hs4 H4 g4 r4 => k w Hs4 H4 (((g1.trans g2).trans g3).trans g4) r4⟩)
/-! ### built-ins by name -/
theorem pd_cb {id : String} {n : Str} {r : List V → Hp → VK → Prop} {pn : Pos} (hc : CallR X (.builtin id) r) (hd : RCD X.K r ds z) (hg : Gl X n) (hm : X.mg n = none) (hv : bootBuiltins n = some (.builtin id)) (ha : PDA X γ (e :: es) ds) (hn : n ≠ "__name__" := by decide) (hdb : (n == ("__debug__" : Str)) = false := by decide)
    (he : starEach (e :: es) X.env = (false, eval e X.env) :: starEach es X.env := by rfl) (hpl : (backTo pos (starEach es X.env)).any (·.1) = false := by rfl) : PD X γ (.Call (.Name n pn) (e :: es) [] pos) z := fun σ Hs H Q s E k =>
  wE_of (pe_callB hc hg hm hv (wA_ok _) hn hdb he hpl) (ha σ Hs H _ s E fun vs Hs' H' g r => hd Hs' H' vs Q g.sub r fun w Hs2 H2 g2 r3 => k w Hs2 H2 (g.trans g2) r3)
theorem pd_cty {T : String} {n : Str} {r : List V → Hp → VK → Prop} {pn : Pos} (hc : CallR X (.type T) r) (hd : RCD X.K r ds z) (hg : Gl X n) (hm : X.mg n = none) (hv : bootBuiltins n = some (.type T)) (ha : PDA X γ (e :: es) ds) (hn : n ≠ "__name__" := by decide) (hdb : (n == ("__debug__" : Str)) = false := by decide)
    (he : starEach (e :: es) X.env = (false, eval e X.env) :: starEach es X.env := by rfl) (hpl : (backTo pos (starEach es X.env)).any (·.1) = false := by rfl) : PD X γ (.Call (.Name n pn) (e :: es) [] pos) z := fun σ Hs H Q s E k =>
  wE_of (pe_callTy hc hg hm hv (wA_ok _) hn hdb he hpl) (ha σ Hs H _ s E fun vs Hs' H' g r => hd Hs' H' vs Q g.sub r fun w Hs2 H2 g2 r3 => k w Hs2 H2 (g.trans g2) r3)
theorem pn_cty {T : String} {n : Str} {r : List V → Hp → VK → Prop} {pn : Pos} (hc : CallR X (.type T) r) (hd : RCN X.K r ds zs) (hg : Gl X n) (hm : X.mg n = none) (hv : bootBuiltins n = some (.type T)) (ha : PDA X γ (e :: es) ds) (hn : n ≠ "__name__" := by decide) (hdb : (n == ("__debug__" : Str)) = false := by decide)
    (he : starEach (e :: es) X.env = (false, eval e X.env) :: starEach es X.env := by rfl) (hpl : (backTo pos (starEach es X.env)).any (·.1) = false := by rfl) : PN X γ (.Call (.Name n pn) (e :: es) [] pos) zs := fun σ Hs H Q s E k =>
  wE_of (pe_callTy hc hg hm hv (wA_ok _) hn hdb he hpl) (ha σ Hs H _ s E fun vs Hs' H' g r => hd Hs' H' vs Q g.sub r fun l us Hs2 H2 g2 h1 h2 h3 r3 => k l us Hs2 H2 (g.trans g2) (g.ext.free h1) h2 h3 r3)
theorem rc_one {K : PySem.W.Frag} {r : List V → Hp → VK → Prop} (h : RUD K (fun v => r [v]) x z) : RCD K r [x] z := fun Hs H vs Q s rs k => by
  cases rs with
  | cons r1 rn =>
    cases rn
    exact h Hs H _ Q s r1 k
theorem pd_int1 {pn : Pos} (h : PD X γ e (.int i)) (hm : X.mg "int" = none) (hg : Gl X "int" := by rfl) (he : starEach [e] X.env = (false, eval e X.env) :: starEach [] X.env := by rfl) : PD X γ (.Call (.Name "int" pn) [e] [] pos) (.int i) :=
  pd_cty call_int1 (rc_one fun Hs H v Q s r k => by
    cases r
    exact .inl ⟨i, rfl, k _ Hs H (Gr.refl s) (.int i)⟩) hg hm boot_int (pa_cons h pa_nil he) (by decide) (by decide) he rfl
theorem pd_intB {pn : Pos} (h : PD X γ e (.bl p)) (hm : X.mg "int" = none) (hg : Gl X "int" := by rfl) (he : starEach [e] X.env = (false, eval e X.env) :: starEach [] X.env := by rfl) : PD X γ (.Call (.Name "int" pn) [e] [] pos) (.int (if p then 1 else 0)) :=
  pd_cty call_int1 (rc_one fun Hs H v Q s r k => by
    cases r
    exact .inr ⟨p, rfl, k _ Hs H (Gr.refl s) (.int _)⟩) hg hm boot_int (pa_cons h pa_nil he) (by decide) (by decide) he rfl
theorem pd_len {pn : Pos} {x : D} {n : Nat} (h : PD X γ e x) (hx : (∃ ds, x = .lst ds ∧ n = ds.length) ∨ (∃ ds, x = .rol ds ∧ n = ds.length) ∨ (∃ ds, x = .tup ds ∧ n = ds.length)) (hm : X.mg "len" = none) (hg : Gl X "len" := by rfl) (he : starEach [e] X.env = (false, eval e X.env) :: starEach [] X.env := by rfl) :
    PD X γ (.Call (.Name "len" pn) [e] [] pos) (.int (n : Int)) :=
  pd_cb call_len_seq (rc_one fun Hs H v Q s r k => by
    rcases hx with ⟨ds, rfl, rfl⟩ | ⟨ds, rfl, rfl⟩ | ⟨ds, rfl, rfl⟩
    · cases r with
      | lst h1 r1 => exact ⟨_, _, rfl, .inl (.inl (.inl (s _ _ h1))), by rw [r1.length]; exact k _ Hs H (Gr.refl s) (.int _)⟩
    · cases r with
      | rol h1 r1 => exact ⟨_, _, rfl, .inl (sqL_mono s h1), by rw [r1.length]; exact k _ Hs H (Gr.refl s) (.int _)⟩
    · cases r with
      | tup h1 r1 => exact ⟨_, _, rfl, .inr (sqT_mono s h1), by rw [r1.length]; exact k _ Hs H (Gr.refl s) (.int _)⟩) hg hm boot_len (pa_cons h pa_nil he) (by decide) (by decide) he rfl
theorem pd_lenL {pn : Pos} (h : PD X γ e (.lst ds)) (hm : X.mg "len" = none) (hg : Gl X "len" := by rfl) (he : starEach [e] X.env = (false, eval e X.env) :: starEach [] X.env := by rfl) : PD X γ (.Call (.Name "len" pn) [e] [] pos) (.int (ds.length : Int)) := pd_len h (.inl ⟨_, rfl, rfl⟩) hm hg he
theorem pd_lenR {pn : Pos} (h : PD X γ e (.rol ds)) (hm : X.mg "len" = none) (hg : Gl X "len" := by rfl) (he : starEach [e] X.env = (false, eval e X.env) :: starEach [] X.env := by rfl) : PD X γ (.Call (.Name "len" pn) [e] [] pos) (.int (ds.length : Int)) := pd_len h (.inr (.inl ⟨_, rfl, rfl⟩)) hm hg he
theorem pd_lenT {pn : Pos} (h : PD X γ e (.tup ds)) (hm : X.mg "len" = none) (hg : Gl X "len" := by rfl) (he : starEach [e] X.env = (false, eval e X.env) :: starEach [] X.env := by rfl) : PD X γ (.Call (.Name "len" pn) [e] [] pos) (.int (ds.length : Int)) := pd_len h (.inr (.inr ⟨_, rfl, rfl⟩)) hm hg he
theorem pd_lenS {pn : Pos} {x : Str} (h : PD X γ e (.str x)) (hz : x.length ≤ 100000) (hm : X.mg "len" = none) (hg : Gl X "len" := by rfl) (he : starEach [e] X.env = (false, eval e X.env) :: starEach [] X.env := by rfl) : PD X γ (.Call (.Name "len" pn) [e] [] pos) (.int (x.length : Int)) :=
  pd_cb call_len_str (rc_one fun Hs H v Q s r k => by
    cases r
    exact ⟨_, rfl, sz_of hz, k _ Hs H (Gr.refl s) (.int _)⟩) hg hm boot_len (pa_cons h pa_nil he) (by decide) (by decide) he rfl
theorem pn_list {pn : Pos} {x : D} (h : PD X γ e x) (hx : x = .lst ds ∨ x = .rol ds ∨ x = .tup ds) (hm : X.mg "list" = none) (hg : Gl X "list" := by rfl) (he : starEach [e] X.env = (false, eval e X.env) :: starEach [] X.env := by rfl) : PN X γ (.Call (.Name "list" pn) [e] [] pos) ds :=
  pn_cty call_list_of (fun Hs H vs Q s rs k => by
    cases rs with
    | cons r rn =>
      cases rn
      rcases hx with rfl | rfl | rfl
      · cases r with
        | lst h1 r1 => exact ⟨_, _, rfl, .inl (.inl (.inl (s _ _ h1))), newL s r1 k⟩
      · cases r with
        | rol h1 r1 => exact ⟨_, _, rfl, .inl (sqL_mono s h1), newL s r1 k⟩
      · cases r with
        | tup h1 r1 => exact ⟨_, _, rfl, .inr (sqT_mono s h1), newL s r1 k⟩) hg hm (by decide +kernel) (pa_cons h pa_nil he) (by decide) (by decide) he rfl
theorem pd_tupleL {pn : Pos} (h : PD X γ e (.lst ds)) (hm : X.mg "tuple" = none) (hg : Gl X "tuple" := by rfl) (he : starEach [e] X.env = (false, eval e X.env) :: starEach [] X.env := by rfl) : PD X γ (.Call (.Name "tuple" pn) [e] [] pos) (.tup ds) :=
  pd_cty call_tuple_of (rc_one fun Hs H v Q s r k => by
    cases r with
    | lst h1 r1 => exact ⟨_, _, rfl, .inl ⟨.inl (.inl (s _ _ h1)), newT s r1 k⟩⟩) hg hm boot_tuple (pa_cons h pa_nil he) (by decide) (by decide) he rfl
theorem pd_tupleT {pn : Pos} (h : PD X γ e (.tup ds)) (hm : X.mg "tuple" = none) (hg : Gl X "tuple" := by rfl) (he : starEach [e] X.env = (false, eval e X.env) :: starEach [] X.env := by rfl) : PD X γ (.Call (.Name "tuple" pn) [e] [] pos) (.tup ds) :=
  pd_cty call_tuple_of (rc_one fun Hs H v Q s r k => by
    cases r with
    | tup h1 r1 => exact ⟨_, _, rfl, .inr ⟨sqT_mono s h1, k _ Hs H (Gr.refl s) (.tup h1 r1)⟩⟩) hg hm boot_tuple (pa_cons h pa_nil he) (by decide) (by decide) he rfl
/-- xs + ys -/
theorem pn_cat {es' : List D} (ha : PD X γ a (.lst ds)) (hb : PD X γ b (.lst es')) (hz : ds.length + es'.length ≤ 100000) : PN X γ (.BinOp a .Add b pos) (ds ++ es') :=
  pn_op op_cat (fun Hs H v u Q s r1 r2 k => by
    cases r1 with
    | lst h1 r1 =>
      cases r2 with
      | lst h2 r2 => exact ⟨_, _, _, _, rfl, rfl, s _ _ h1, s _ _ h2, sz_of (by rw [r1.length, r2.length]; exact hz), newL s (r1.append r2) k⟩) ha hb
end
end Pd
end

section
set_option Elab.async false
set_option linter.all false
set_option maxRecDepth 100000
set_option maxHeartbeats 4000000
set_option autoImplicit false
namespace Pd
open PySem PySem.Spec PyProof.Rows L2

/-! ### the state of a body -/
/-- a thing of one's own, as a slot has it -/
def RepO (K : PySem.W.Frag) (Hs : Hp) (l : Addr) (o : HO) : Sl → Prop
  | .ow ds => ∃ vs, o = .lst vs ∧ Reps K Hs vs ds
  | .ob p C fs => p = l ∧ ∃ dx vs, o = .ins C dx vs ∧ RepF K Hs vs fs
  | _ => False
def Sl.isO : Sl → Bool
  | .ow _ => true
  | .ob _ _ _ => true
  | _ => false
/-- looked at as shared -/
def Sl.vw : Sl → Sl
  | .ow ds => .sh (.lst ds)
  | .ob _ C fs => .sh (.obj C fs)
  | s => s
theorem repO_l {K : PySem.W.Frag} {Hs : Hp} {l : Addr} {vs : List V} {ds : List D} (r : Reps K Hs vs ds) : RepO K Hs l (.lst vs) (.ow ds) := ⟨vs, rfl, r⟩
theorem repO_o {K : PySem.W.Frag} {Hs : Hp} {p C dx : Addr} {vs : List (Str × V)} {fs : List (Str × D)} (r : RepF K Hs vs fs) : RepO K Hs p (.ins C dx vs) (.ob p C fs) := ⟨rfl, dx, vs, rfl, r⟩
theorem RepO.mono {K : PySem.W.Frag} {Hs Hs' : Hp} {l : Addr} {o : HO} (e : Same Hs Hs') : ∀ {s : Sl}, RepO K Hs l o s → RepO K Hs' l o s
  | .ow _, ⟨vs, h, r⟩ => ⟨vs, h, r.mono e⟩
  | .ob _ _ _, ⟨hp, dx, vs, h, r⟩ => ⟨hp, dx, vs, h, r.mono e⟩
  | .no, h => h.elim
  | .sh _, h => h.elim
theorem RepO.isO {K : PySem.W.Frag} {Hs : Hp} {l : Addr} {o : HO} : ∀ {s : Sl}, RepO K Hs l o s → s.isO = true
  | .ow _, _ => rfl
  | .ob _ _ _, _ => rfl
  | .no, h => h.elim
  | .sh _, h => h.elim
theorem RepO.vw {K : PySem.W.Frag} {Hs H : Hp} {o : HO} {l : Addr} (e : Same Hs H) (hl : H l = some o) : ∀ {s : Sl}, RepO K Hs l o s → ∃ d, s.vw = .sh d ∧ Rep K H (.ref l) d
  | .ow _, ⟨vs, h, r⟩ => ⟨_, rfl, .lst (by rw [hl, h]) (r.mono e)⟩
  | .ob _ _ _, ⟨_, dx, vs, h, r⟩ => ⟨_, rfl, .obj (by rw [hl, h]) (r.mono e)⟩
  | .no, h => h.elim
  | .sh _, h => h.elim
structure ST (K : PySem.W.Frag) (Hs0 H0 Hr Hs H : Hp) (σ : L2.St) (γ : List Sl) : Prop where
  gr : Gr Hs0 H0 Hs H
  rf : Same Hr Hs
  len : σ.length = γ.length
  shd : ∀ (i : Nat) (d : D), γ[i]? = some (Sl.sh d) → ∃ v, σ[i]? = some (some v) ∧ Rep K Hs v d
  own : ∀ (i : Nat) (s : Sl), γ[i]? = some s → s.isO = true → ∃ l o, σ[i]? = some (some (V.ref l)) ∧ H l = some o ∧ Hs l = none ∧ H0 l = none ∧ RepO K Hs l o s
  dif : ∀ (i j : Nat) (s t : Sl) (l : Addr), i ≠ j → γ[i]? = some s → γ[j]? = some t → s.isO = true → t.isO = true → σ[i]? = some (some (V.ref l)) → σ[j]? ≠ some (some (V.ref l))
/-- what is wanted behind -/
structure Rs where
  nx : List Sl → Prop
  rt : D → Prop
  bk : List Sl → Prop := fun _ => False
  ct : List Sl → Prop := fun _ => False
  rn : List D → Prop := fun _ => False
  xs : Addr → List (Str × D) → List Sl → Prop := fun _ _ _ => False
structure Fit (X : Cx) (Hs0 H0 Hr : Hp) (R : Rs) (E : Ends) : Prop where
  nx : ∀ γ σ Hs H, ST X.K Hs0 H0 Hr Hs H σ γ → R.nx γ → E.nx σ H
  bk : ∀ γ σ Hs H, ST X.K Hs0 H0 Hr Hs H σ γ → R.bk γ → E.bk σ H
  ct : ∀ γ σ Hs H, ST X.K Hs0 H0 Hr Hs H σ γ → R.ct γ → E.ct σ H
  rt : ∀ d v Hs H, Gr Hs0 H0 Hs H → Rep X.K Hs v d → R.rt d → E.rt v H
  rn : ∀ ds l vs Hs H, Gr Hs0 H0 Hs H → H0 l = none → Hs l = none → H l = some (.lst vs) → Reps X.K Hs vs ds → R.rn ds → E.rt (.ref l) H
  xs : (∀ C fs γ, ¬ R.xs C fs γ) ∨ ∃ W : WX, Takes X W ∧ ∀ C fs dd vs γ σ Hs H, ST X.K Hs0 H0 Hr Hs H σ γ → Hs dd = some (.xd vs) → RepF X.K Hs vs fs → R.xs C fs γ → W (.ref C) (some dd) σ H
def wS (X : Cx) (st : Stmt) : TS := fun E σ H => ∀ (pins : List (Addr × Obj)) (s : Shared), Inv X pins σ H s → wpAny (model X.prog X.w) X.A (exec st X.env) (SP X pins E) X.xe s
theorem wS_ok {X : Cx} (st : Stmt) : PS X st (wS X st) := ⟨fun pins s σ H E I h => h pins s I⟩
theorem wS_of {X : Cx} {st : Stmt} {t : TS} (h : PS X st t) {E : Ends} {σ : L2.St} {H : Hp} (q : t E σ H) : wS X st E σ H := fun pins s I => h.run pins s σ H E I q
def wSs (X : Cx) (st : List Stmt) : TS := fun E σ H => ∀ (pins : List (Addr × Obj)) (s : Shared), Inv X pins σ H s → wpAny (model X.prog X.w) X.A (execs st X.env) (SP X pins E) X.xe s
theorem wSs_ok {X : Cx} (st : List Stmt) : PSs X st (wSs X st) := ⟨fun pins s σ H E I h => h pins s I⟩
theorem wSs_of {X : Cx} {st : List Stmt} {t : TS} (h : PSs X st t) {E : Ends} {σ : L2.St} {H : Hp} (q : t E σ H) : wSs X st E σ H := fun pins s I => h.run pins s σ H E I q
/-- a statement, a block: from γ to what R wants -/
def S1 (X : Cx) (st : Stmt) (γ : List Sl) (R : Rs) : Prop := ∀ (Hs0 H0 Hr : Hp) (E : Ends), Fit X Hs0 H0 Hr R E → ∀ σ Hs H, ST X.K Hs0 H0 Hr Hs H σ γ → wS X st E σ H
def SD (X : Cx) (st : List Stmt) (γ : List Sl) (R : Rs) : Prop := ∀ (Hs0 H0 Hr : Hp) (E : Ends), Fit X Hs0 H0 Hr R E → ∀ σ Hs H, ST X.K Hs0 H0 Hr Hs H σ γ → wSs X st E σ H

section
variable {K : PySem.W.Frag} {Hs0 H0 Hr Hs H Hs' H' : Hp} {σ : L2.St} {γ : List Sl}
theorem set_self_of {α : Type} {l : List α} {i : Nat} {a b : α} (q : (l.set i a)[i]? = some b) : a = b := by
  by_cases hl : i < l.length
  · rw [List.getElem?_set_self hl] at q; exact Option.some.inj q
  · rw [List.getElem?_eq_none (by simpa using Nat.le_of_not_lt hl)] at q; cases q
theorem ST.se (t : ST K Hs0 H0 Hr Hs H σ γ) : SE K Hs σ γ := ⟨t.len, t.shd⟩
theorem ST.sub (t : ST K Hs0 H0 Hr Hs H σ γ) : Same Hs H := t.gr.sub
theorem ST.go (t : ST K Hs0 H0 Hr Hs H σ γ) (g : Gr Hs H Hs' H') : ST K Hs0 H0 Hr Hs' H' σ γ where
  gr := t.gr.trans g
  rf := t.rf.trans g.sh
  len := t.len
  shd := fun i d q => let ⟨v, a, b⟩ := t.shd i d q; ⟨v, a, b.mono g.sh⟩
  own := fun i s q w => let ⟨l, o, a, b, c, d, r⟩ := t.own i s q w; ⟨l, o, a, g.ext _ _ b, g.loc l (by rw [b]; intro z; cases z) c, d, r.mono g.sh⟩
  dif := t.dif
/-- a slot is stored -/
theorem ST.set {i : Nat} {v : V} {d : D} (t : ST K Hs0 H0 Hr Hs H σ γ) (r : Rep K Hs v d) : ST K Hs0 H0 Hr Hs H (σ.set i (some v)) (γ.set i (.sh d)) where
  gr := t.gr
  rf := t.rf
  len := by simpa using t.len
  shd := fun j e q => by
    by_cases h : i = j
    · subst h
      have hl : i < γ.length := by
        have := (List.getElem?_eq_some_iff.mp q).1
        simpa using this
      have z := set_self_of q
      cases z
      exact ⟨v, by rw [List.getElem?_set_self (by rw [t.len]; exact hl)], r⟩
    · rw [List.getElem?_set_ne h] at q ⊢
      exact t.shd j e q
  own := fun j s q w => by
    by_cases h : i = j
    · subst h
      have z := set_self_of q
      subst z
      cases w
    · rw [List.getElem?_set_ne h] at q ⊢
      exact t.own j s q w
  dif := fun j k s u l hjk q1 q2 w1 w2 => by
    by_cases h : i = j
    · subst h
      have z := set_self_of q1
      subst z
      cases w1
    · by_cases h2 : i = k
      · subst h2
        have z := set_self_of q2
        subst z
        cases w2
      · rw [List.getElem?_set_ne h] at q1 ⊢
        rw [List.getElem?_set_ne h2] at q2 ⊢
        exact t.dif j k s u l hjk q1 q2 w1 w2
/-- a slot holds a new thing of one's own -/
theorem ST.setO {i : Nat} {l : Addr} {o : HO} {s : Sl} (t : ST K Hs0 H0 Hr Hs H σ γ) (g : Gr Hs H Hs' H') (h1 : H l = none) (h2 : Hs' l = none) (h3 : H' l = some o) (r : RepO K Hs' l o s) : ST K Hs0 H0 Hr Hs' H' (σ.set i (some (.ref l))) (γ.set i s) where
  gr := t.gr.trans g
  rf := t.rf.trans g.sh
  len := by simpa using t.len
  shd := fun j e q => by
    by_cases h : i = j
    · subst h
      have z := set_self_of q
      subst z
      exact r.elim
    · rw [List.getElem?_set_ne h] at q ⊢
      exact (t.go g).shd j e q
  own := fun j u q w => by
    by_cases h : i = j
    · subst h
      have hl : i < γ.length := by
        have := (List.getElem?_eq_some_iff.mp q).1
        simpa using this
      have z := set_self_of q
      subst z
      exact ⟨l, o, by rw [List.getElem?_set_self (by rw [t.len]; exact hl)], h3, h2, t.gr.ext.free h1, r⟩
    · rw [List.getElem?_set_ne h] at q ⊢
      exact (t.go g).own j u q w
  dif := fun j k s' u l' hjk q1 q2 v1 v2 => by
    have old : ∀ (m : Nat) (u'' : Sl) (l'' : Addr), γ[m]? = some u'' → u''.isO = true → σ[m]? = some (some (V.ref l'')) → l'' ≠ l := fun m u'' l'' q v w z => by
      obtain ⟨l2, o2, a, b, _⟩ := t.own m u'' q v
      rw [w] at a
      cases a
      rw [z, h1] at b
      cases b
    by_cases h : i = j
    · subst h
      have h2' : i ≠ k := hjk
      rw [List.getElem?_set_ne h2'] at q2 ⊢
      intro w1 w2
      have z := set_self_of w1
      cases z
      exact old k u l q2 v2 w2 rfl
    · rw [List.getElem?_set_ne h] at q1 ⊢
      by_cases h2' : i = k
      · subst h2'
        intro w1 w2
        have z := set_self_of w2
        cases z
        exact old j s' l q1 v1 w1 rfl
      · rw [List.getElem?_set_ne h2'] at q2 ⊢
        exact t.dif j k s' u l' hjk q1 q2 v1 v2
/-- a thing of one's own is changed -/
theorem ST.upd {i : Nat} {l : Addr} {o : HO} {s u : Sl} (t : ST K Hs0 H0 Hr Hs H σ γ) (q : γ[i]? = some s) (w : s.isO = true) (hl : σ[i]? = some (some (.ref l))) (r : RepO K Hs l o u) : ST K Hs0 H0 Hr Hs (upd H l o) σ (γ.set i u) := by
  obtain ⟨l', o', a, b, c, d, _⟩ := t.own i s q w
  rw [hl] at a
  cases a
  have hi : i < γ.length := (List.getElem?_eq_some_iff.mp q).1
  refine ⟨⟨t.gr.sh, fun x y e => ?_, fun x y e => ?_, t.gr.loc⟩, t.rf, by simpa using t.len, fun j e z => ?_, fun j s' z v => ?_, fun j k s' u' l' hjk q1 q2 v1 v2 => ?_⟩
  · rw [upd_ne (ne_of_none e d)]; exact t.gr.ext x y e
  · rw [upd_ne (ne_of_none e c)]; exact t.gr.sub x y e
  · by_cases h : i = j
    · subst h
      have y := set_self_of z
      subst y
      exact r.elim
    · rw [List.getElem?_set_ne h] at z; exact t.shd j e z
  · by_cases h : i = j
    · subst h
      have y := set_self_of z
      subst y
      exact ⟨l, o, hl, upd_same, c, d, r⟩
    · rw [List.getElem?_set_ne h] at z
      obtain ⟨l2, o2, a2, b2, c2, d2, r2⟩ := t.own j s' z v
      refine ⟨l2, o2, a2, ?_, c2, d2, r2⟩
      rw [upd_ne fun y => t.dif i j s s' l h q z w v hl (by rw [← y]; exact a2)]
      exact b2
  · have q1' : ∃ s'', γ[j]? = some s'' ∧ s''.isO = true := by
      by_cases h : i = j
      · subst h; exact ⟨s, q, w⟩
      · rw [List.getElem?_set_ne h] at q1; exact ⟨_, q1, v1⟩
    have q2' : ∃ s'', γ[k]? = some s'' ∧ s''.isO = true := by
      by_cases h : i = k
      · subst h; exact ⟨s, q, w⟩
      · rw [List.getElem?_set_ne h] at q2; exact ⟨_, q2, v2⟩
    obtain ⟨_, q1', z1⟩ := q1'
    obtain ⟨_, q2', z2⟩ := q2'
    exact t.dif j k _ _ l' hjk q1' q2' z1 z2
/-- a thing of one's own is given away -/
theorem ST.freeze {i : Nat} {s : Sl} (t : ST K Hs0 H0 Hr Hs H σ γ) (q : γ[i]? = some s) (w : s.isO = true) : ∃ Hs', Same Hs Hs' ∧ ST K Hs0 H0 Hr Hs' H σ (γ.set i s.vw) := by
  obtain ⟨l, o, a, b, c, d, r⟩ := t.own i s q w
  have hi : i < γ.length := (List.getElem?_eq_some_iff.mp q).1
  have s1 : Same Hs (L2.upd Hs l o) := fun x u e => by rw [upd_ne (ne_of_none e c)]; exact e
  obtain ⟨dd, hv, rv⟩ := (r.mono s1).vw (Same.refl _) (upd_same (H := Hs) (a := l) (o := o))
  refine ⟨L2.upd Hs l o, s1, ⟨t.gr.sh.trans s1, t.gr.ext, fun x u e => ?_, fun x h1 h2 => ?_⟩, t.rf.trans s1, by simpa using t.len, fun j e z => ?_, fun j u z v => ?_, fun j k s' u l' hjk q1 q2 v1 v2 => ?_⟩
  · by_cases z : x = l
    · subst z; rw [upd_same] at e; rw [← e]; exact b
    · rw [upd_ne z] at e; exact t.gr.sub x u e
  · have z : x ≠ l := fun z => h1 (by rw [z]; exact d)
    rw [upd_ne z]; exact t.gr.loc x h1 h2
  · by_cases h : i = j
    · subst h
      have y := set_self_of z
      rw [hv] at y
      cases y
      exact ⟨_, a, rv⟩
    · rw [List.getElem?_set_ne h] at z
      obtain ⟨v, h1, h2⟩ := t.shd j e z
      exact ⟨v, h1, h2.mono s1⟩
  · by_cases h : i = j
    · subst h
      have y := set_self_of z
      rw [hv] at y
      subst y
      cases v
    · rw [List.getElem?_set_ne h] at z
      obtain ⟨l2, o2, a2, b2, c2, d2, r2⟩ := t.own j u z v
      refine ⟨l2, o2, a2, b2, ?_, d2, r2.mono s1⟩
      rw [upd_ne fun y => t.dif i j s u l h q z w v a (by rw [← y]; exact a2)]
      exact c2
  · have q1' : i ≠ j := fun h => by
      subst h
      have y := set_self_of q1
      rw [hv] at y
      subst y
      cases v1
    have q2' : i ≠ k := fun h => by
      subst h
      have y := set_self_of q2
      rw [hv] at y
      subst y
      cases v2
    rw [List.getElem?_set_ne q1'] at q1
    rw [List.getElem?_set_ne q2'] at q2
    exact t.dif j k _ _ l' hjk q1 q2 v1 v2
/-- a slot forgotten -/
theorem ST.forget {i : Nat} (t : ST K Hs0 H0 Hr Hs H σ γ) : ST K Hs0 H0 Hr Hs H σ (γ.set i .no) where
  gr := t.gr
  rf := t.rf
  len := by simpa using t.len
  shd := fun j e w => by
    by_cases h : i = j
    · subst h
      have z := set_self_of w
      cases z
    · rw [List.getElem?_set_ne h] at w; exact t.shd j e w
  own := fun j e w v => by
    by_cases h : i = j
    · subst h
      have z := set_self_of w
      subst z
      cases v
    · rw [List.getElem?_set_ne h] at w; exact t.own j e w v
  dif := fun j k s u l' hjk q1 q2 v1 v2 => by
    have q1' : i ≠ j := fun h => by
      subst h
      have y := set_self_of q1
      subst y
      cases v1
    have q2' : i ≠ k := fun h => by
      subst h
      have y := set_self_of q2
      subst y
      cases v2
    rw [List.getElem?_set_ne q1'] at q1
    rw [List.getElem?_set_ne q2'] at q2
    exact t.dif j k _ _ l' hjk q1 q2 v1 v2
theorem ST.view (t : ST K Hs0 H0 Hr Hs H σ γ) : SE K H σ (γ.map Sl.vw) := by
  refine ⟨by simpa using t.len, fun i d q => ?_⟩
  rw [List.getElem?_map] at q
  cases e : γ[i]? with
  | none => rw [e] at q; cases q
  | some s =>
    rw [e] at q
    have q' := Option.some.inj q
    cases hO : s.isO with
    | true =>
      obtain ⟨l, o, a, b, c, dd, r⟩ := t.own i s e hO
      obtain ⟨d2, h1, h2⟩ := r.vw t.sub b
      rw [q'] at h1
      cases h1
      exact ⟨_, a, h2⟩
    | false =>
      cases s with
      | no => cases q'
      | sh d' =>
        cases q'
        obtain ⟨v, h1, h2⟩ := t.shd i _ e
        exact ⟨v, h1, h2.mono t.sub⟩
      | ow ds => cases hO
      | ob p C fs => cases hO
end

section
variable {X : Cx} {γ : List Sl} {R : Rs} {st : Stmt} {sts rest : List Stmt} {e a b c : Expr} {es : List Expr} {d : D} {ds : List D} {pos : Pos} {i : Nat} {p : Bool}
theorem sd_nil (h : R.nx γ) : SD X [] γ R := fun Hs0 H0 Hr E F σ Hs H t => wSs_of pss_nil (F.nx γ σ Hs H t h)
theorem sd_cons (h : S1 X st γ { R with nx := fun γ' => SD X rest γ' R }) : SD X (st :: rest) γ R := fun Hs0 H0 Hr E F σ Hs H t =>
  wSs_of (pss_cons (wS_ok st) (wSs_ok rest)) (h Hs0 H0 Hr { E with nx := wSs X rest E } ⟨fun γ' σ' Hs' H' t' n => n Hs0 H0 Hr E F σ' Hs' H' t', F.bk, F.ct, F.rt, F.rn, F.xs⟩ σ Hs H t)
theorem sd_one (h : S1 X st γ R) : SD X [st] γ R := fun Hs0 H0 Hr E F σ Hs H t => wSs_of (pss_one (wS_ok st)) (h Hs0 H0 Hr E F σ Hs H t)
theorem sd_freeze (i : Nat) (q : γ[i]? = some (.ow ds)) (h : SD X sts (γ.set i (.sh (.lst ds))) R) : SD X sts γ R := fun Hs0 H0 Hr E F σ Hs H t => by
  obtain ⟨Hs', s, t'⟩ := t.freeze q rfl
  exact h Hs0 H0 Hr E F σ Hs' H t'
theorem s1_freeze (i : Nat) (q : γ[i]? = some (.ow ds)) (h : S1 X st (γ.set i (.sh (.lst ds))) R) : S1 X st γ R := fun Hs0 H0 Hr E F σ Hs H t => by
  obtain ⟨Hs', s, t'⟩ := t.freeze q rfl
  exact h Hs0 H0 Hr E F σ Hs' H t'
theorem sd_forget (i : Nat) (h : SD X sts (γ.set i .no) R) : SD X sts γ R := fun Hs0 H0 Hr E F σ Hs H t => h Hs0 H0 Hr E F σ Hs H t.forget
theorem sd_to {γ' : List Sl} (h : SD X sts γ' R) (e : γ = γ') : SD X sts γ R := by rw [e]; exact h
theorem SD.imp {R' : Rs} (h : SD X sts γ R) (nx : ∀ γ, R.nx γ → R'.nx γ) (rt : ∀ d, R.rt d → R'.rt d) (bk : ∀ γ, R.bk γ → R'.bk γ) (ct : ∀ γ, R.ct γ → R'.ct γ) (rn : ∀ d, R.rn d → R'.rn d) (xs : ∀ C fs γ, R.xs C fs γ → R'.xs C fs γ) : SD X sts γ R' := fun Hs0 H0 Hr E F =>
  h Hs0 H0 Hr E ⟨fun γ σ Hs H t q => F.nx γ σ Hs H t (nx γ q), fun γ σ Hs H t q => F.bk γ σ Hs H t (bk γ q), fun γ σ Hs H t q => F.ct γ σ Hs H t (ct γ q), fun d v Hs H g r q => F.rt d v Hs H g r (rt d q), fun ds l vs Hs H g h1 h2 h3 r q => F.rn ds l vs Hs H g h1 h2 h3 r (rn ds q), F.xs.elim (fun h => .inl fun C fs γ q => h C fs γ (xs C fs γ q)) fun ⟨W, a, b⟩ => .inr ⟨W, a, fun C fs dd vs γ σ Hs H t h1 h2 q => b C fs dd vs γ σ Hs H t h1 h2 (xs C fs γ q)⟩⟩
theorem s1_pass (h : R.nx γ) : S1 X (.Pass pos) γ R := fun Hs0 H0 Hr E F σ Hs H t => wS_of ps_pass (F.nx γ σ Hs H t h)
theorem s1_continue (h : R.ct γ) : S1 X (.Continue pos) γ R := fun Hs0 H0 Hr E F σ Hs H t => wS_of ps_continue (F.ct γ σ Hs H t h)
theorem s1_break (h : R.bk γ) : S1 X (.Break pos) γ R := fun Hs0 H0 Hr E F σ Hs H t => wS_of ps_break (F.bk γ σ Hs H t h)
theorem s1_ret (h : PD X γ e d) (k : R.rt d) : S1 X (.Return (some e) pos) γ R := fun Hs0 H0 Hr E F σ Hs H t =>
  wS_of (ps_ret (wE_ok e)) (h σ Hs H _ t.sub t.se fun v Hs' H' g r => F.rt d v Hs' H' (t.gr.trans g) r k)
/-- a list of one's own, a new list handed back -/
theorem s1_retO {n : Str} {p' : Pos} (i : Nat) (q : γ[i]? = some (.ow ds)) (k : R.rn ds) (hN : X.N[i]? = some n := by rfl) (hv : Vis X.env.scope n := by first | exact Or.inl rfl | exact Or.inr (Or.inl rfl) | exact Or.inr (Or.inr rfl))
    (hd : (n == ("__debug__" : Str)) = false := by decide) (hcd : (n == ("__classdict__" : Str)) = false := by decide) : S1 X (.Return (some (.Name n p')) pos) γ R := fun Hs0 H0 Hr E F σ Hs H t => by
  obtain ⟨l, o, a, b, c, d, vs, rfl, r⟩ := t.own i _ q rfl
  exact wS_of (ps_ret (pe_var hN hv hd hcd)) ⟨_, a, F.rn ds l vs Hs H t.gr d c b r k⟩
theorem s1_retNw (h : PN X γ e ds) (k : R.rn ds) : S1 X (.Return (some e) pos) γ R := fun Hs0 H0 Hr E F σ Hs H t =>
  wS_of (ps_ret (wE_ok e)) (h σ Hs H _ t.sub t.se fun l vs Hs' H' g h1 h2 h3 r => F.rn ds l vs Hs' H' (t.gr.trans g) (t.gr.ext.free h1) h2 h3 r k)
/-- scalars hang on no list -/
def D.sc : D → Bool
  | .non => true | .bl _ => true | .int _ => true | .str _ => true
  | _ => false
theorem Rep.sc {K : PySem.W.Frag} {H H' : Hp} {v : V} {d : D} (r : Rep K H v d) (h : d.sc = true) : Rep K H' v d := by
  cases r with
  | non => exact .non
  | bl b => exact .bl b
  | int i => exact .int i
  | str x => exact .str x
  | _ => cases h
/-- a scalar over one's own lists -/
theorem s1_retV (h : PD X (γ.map Sl.vw) e d) (hd : d.sc = true) (k : R.rt d) : S1 X (.Return (some e) pos) γ R := fun Hs0 H0 Hr E F σ Hs H t =>
  wS_of (ps_ret (wE_ok e)) (h σ H H _ (Same.refl _) t.view fun v Hs' H' g r => F.rt d v Hs H' ⟨t.gr.sh, t.gr.ext.trans g.ext, t.gr.sub.trans g.ext, t.gr.loc⟩ (r.sc hd) k)
theorem s1_retN (k : R.rt .non) : S1 X (.Return none pos) γ R := fun Hs0 H0 Hr E F σ Hs H t => wS_of ps_retN (F.rt .non .non Hs H t.gr .non k)
theorem ST.scal {K : PySem.W.Frag} {Hs0 H0 Hr Hs H Hs' H' : Hp} {σ : L2.St} (t : ST K Hs0 H0 Hr Hs H σ γ) (g : Gr H H Hs' H') : ST K Hs0 H0 Hr Hs H' σ γ :=
  t.go ⟨Same.refl _, g.ext, t.sub.trans g.ext, fun _ _ h => h⟩
theorem s1_asg {n : Str} {p' : Pos} (i : Nat) (h : PD X γ e d) (k : R.nx (γ.set i (.sh d))) (hN : X.N.Nodup) (hi : X.N[i]? = some n := by rfl) (hx : Loc X.env.scope n := by first | exact Or.inl rfl | exact Or.inr rfl) (hs : swapsWith e (some (.Name n p')) pos.line X.env = pure false := by rfl)
    (hf : X.fn n = true ∨ X.env.scope.names.lookup n = some .local := by first | exact .inl rfl | exact .inr rfl) : S1 X (.Assign [.Name n p'] e pos) γ R := fun Hs0 H0 Hr E F σ Hs H t =>
  wS_of (ps_set hN hi hx (wE_ok e) hs hf) (h σ Hs H _ t.sub t.se fun v Hs' H' g r => F.nx _ _ Hs' H' ((t.go g).set r) k)
theorem s1_asgV {n : Str} {p' : Pos} (i : Nat) (h : PD X (γ.map Sl.vw) e d) (hd : d.sc = true) (k : R.nx (γ.set i (.sh d))) (hN : X.N.Nodup) (hi : X.N[i]? = some n := by rfl) (hx : Loc X.env.scope n := by first | exact Or.inl rfl | exact Or.inr rfl) (hs : swapsWith e (some (.Name n p')) pos.line X.env = pure false := by rfl)
    (hf : X.fn n = true ∨ X.env.scope.names.lookup n = some .local := by first | exact .inl rfl | exact .inr rfl) : S1 X (.Assign [.Name n p'] e pos) γ R := fun Hs0 H0 Hr E F σ Hs H t =>
  wS_of (ps_set hN hi hx (wE_ok e) hs hf) (h σ H H _ (Same.refl _) t.view fun v Hs' H' g r => F.nx _ _ Hs H' ((t.scal g).set (r.sc hd)) k)
theorem s1_asgN {n : Str} {p' : Pos} (i : Nat) (h : PN X γ e ds) (k : R.nx (γ.set i (.ow ds))) (hN : X.N.Nodup) (hi : X.N[i]? = some n := by rfl) (hx : Loc X.env.scope n := by first | exact Or.inl rfl | exact Or.inr rfl) (hs : swapsWith e (some (.Name n p')) pos.line X.env = pure false := by rfl)
    (hf : X.fn n = true ∨ X.env.scope.names.lookup n = some .local := by first | exact .inl rfl | exact .inr rfl) : S1 X (.Assign [.Name n p'] e pos) γ R := fun Hs0 H0 Hr E F σ Hs H t =>
  wS_of (ps_set hN hi hx (wE_ok e) hs hf) (h σ Hs H _ t.sub t.se fun l vs Hs' H' g h1 h2 h3 r => F.nx _ _ Hs' H' (t.setO g h1 h2 h3 (repO_l r)) k)
theorem s1_drop (h : PD X γ e d) (k : R.nx γ) (hs : swapsWith e none pos.line X.env = pure false := by rfl) : S1 X (.Expr e pos) γ R := fun Hs0 H0 Hr E F σ Hs H t =>
  wS_of (ps_expr (wE_ok e) hs) (h σ Hs H _ t.sub t.se fun v Hs' H' g r => F.nx _ _ Hs' H' (t.go g) k)
theorem s1_if (h : PDT X γ c p) (h1 : p = true → SD X sts γ R) (h2 : p = false → SD X rest γ R) : S1 X (.If c sts rest pos) γ R := fun Hs0 H0 Hr E F σ Hs H t =>
  wS_of (ps_if (wT_ok c) (wSs_ok sts) (wSs_ok rest)) (h σ Hs H _ t.sub t.se fun Hs' H' g => by
    cases p with
    | true => exact h1 rfl Hs0 H0 Hr E F σ Hs' H' (t.go g)
    | false => exact h2 rfl Hs0 H0 Hr E F σ Hs' H' (t.go g))
theorem s1_ifV (h : PDT X (γ.map Sl.vw) c p) (h1 : p = true → SD X sts γ R) (h2 : p = false → SD X rest γ R) : S1 X (.If c sts rest pos) γ R := fun Hs0 H0 Hr E F σ Hs H t =>
  wS_of (ps_if (wT_ok c) (wSs_ok sts) (wSs_ok rest)) (h σ H H _ (Same.refl _) t.view fun Hs' H' g => by
    cases p with
    | true => exact h1 rfl Hs0 H0 Hr E F σ Hs H' (t.scal g)
    | false => exact h2 rfl Hs0 H0 Hr E F σ Hs H' (t.scal g))
/-- x.append(e), x a list of one's own -/
theorem s1_app {n : Str} {ap p' : Pos} (i : Nat) (q : γ[i]? = some (.ow ds)) (h : PD X γ e d) (k : R.nx (γ.set i (.ow (ds ++ [d])))) (hz : ds.length < 100000) (hN : X.N[i]? = some n := by rfl) (hv : Vis X.env.scope n := by first | exact Or.inl rfl | exact Or.inr (Or.inl rfl) | exact Or.inr (Or.inr rfl))
    (hd : (n == ("__debug__" : Str)) = false := by decide) (hcd : (n == ("__classdict__" : Str)) = false := by decide)
    (hs : swapsWith (.Call (.Attribute (.Name n p') "append" ap) [e] [] pos) none pos.line X.env = pure false := by rfl)
    (hbase : attributeBase (.Name n p') "append" X.env (eval (.Name n p') X.env) = eval (.Name n p') X.env := by rfl)
    (hfew : ((backTo pos (starEach [e] X.env)).all (fun x => !x.1) && (backToKw pos (keywordEach [] X.env)).all (fun x => x.1.isSome)
      && decide (([e] : List Expr).length + ([] : List Keyword).length + (if ([] : List Keyword).isEmpty then 0 else 1) < 30)) = true := by rfl)
    (hline : (ap.endLine == pos.line) = true := by rfl) (hst : starEach [e] X.env = (false, eval e X.env) :: starEach [] X.env := by rfl) (hpl : (backTo pos (starEach [] X.env)).any (·.1) = false := by rfl) :
    S1 X (.Expr (.Call (.Attribute (.Name n p') "append" ap) [e] [] pos) pos) γ R := fun Hs0 H0 Hr E F σ Hs H t => by
  obtain ⟨l, o, a, b, c, dd, vs, rfl, r⟩ := t.own i _ q rfl
  refine wS_of (ps_expr (pe_bm PySem.F.plainAttrs_list PySem.F.slot_list_append PySem.F.type_list_append mt_append (pe_var hN hv hd hcd) (L2.pa_cons (wE_ok e) L2.pa_nil hst) hbase hfew hline hst hpl) hs) ?_
  refine ⟨.ref l, a, .inl ⟨rfl, _, SqL.of b⟩, ?_⟩
  refine h σ Hs H _ t.sub t.se fun v Hs' H' g r' => ?_
  have t' := t.go g
  refine ⟨l, vs, v, rfl, rfl, g.ext _ _ b, sz_lt (by rw [r.length]; exact hz), ?_⟩
  exact F.nx _ _ Hs' _ (t'.upd q rfl a (repO_l ((r.mono g.sh).append (.cons r' .nil)))) k
/-- x[k] = e, x a list of one's own -/
theorem s1_setO {n : Str} {p' p2 : Pos} {j : Nat} {ji : Int} (i : Nat) (q : γ[i]? = some (.ow ds)) (h : PD X γ e d) (hix : PD X γ b (.int ji)) (hj : ixN ds.length ji = some j) (k : R.nx (γ.set i (.ow (ds.set j d)))) (hN : X.N[i]? = some n := by rfl) (hv : Vis X.env.scope n := by first | exact Or.inl rfl | exact Or.inr (Or.inl rfl) | exact Or.inr (Or.inr rfl))
    (hd : (n == ("__debug__" : Str)) = false := by decide) (hcd : (n == ("__classdict__" : Str)) = false := by decide)
    (ha : ∀ v, assign (.Subscript (.Name n p') b p2) X.env v = (do
      let ov ← holding [v] (eval (.Name n p') X.env)
      let iv ← holding [v, ov] (eval b X.env)
      standAt p2
      holding [v, ov, iv] (setItem ov iv v)
      release [v, ov, iv] []) := by intro _; rfl)
    (hs : swapsWithSole [.Subscript (.Name n p') b p2] e pos.line X.env = pure false := by rfl) (hw : swappedStores [.Subscript (.Name n p') b p2] e X.env = pure none := by rfl)
    (h1 : (assignEach [.Subscript (.Name n p') b p2] X.env).map (·.2) = [assign (.Subscript (.Name n p') b p2) X.env] := by rfl) : S1 X (.Assign [.Subscript (.Name n p') b p2] e pos) γ R := fun Hs0 H0 Hr E F σ Hs H t => by
  obtain ⟨l, o, a, bb, c, dd, vs, rfl, r⟩ := t.own i _ q rfl
  refine wS_of (ps_asg (wE_ok e) (pg_sub (pe_var hN hv hd hcd) (wE_ok b) set_list ha) hs hw h1) ?_
  refine h σ Hs H _ t.sub t.se fun v Hs1 H1 g1 r1 => ?_
  refine ⟨.ref l, a, ?_⟩
  refine hix σ Hs1 H1 _ g1.sub (t.se.mono g1.sh) fun u Hs2 H2 g2 r2 => ?_
  cases r2
  have g := g1.trans g2
  refine ⟨l, vs, ji, j, rfl, rfl, g.ext _ _ bb, by rw [r.length]; exact hj, ?_⟩
  exact F.nx _ _ Hs2 _ ((t.go g).upd q rfl a (repO_l ((r.mono g.sh).set (r1.mono g2.sh) j))) k
end

/-! ### defs -/
/-- from data to data -/
def spD (K : PySem.W.Frag) (G : List D → D → Prop) : Sp := fun vs H Q _ => ∃ Hs ds d, Same Hs H ∧ Reps K Hs vs ds ∧ G ds d ∧ ∀ v Hs' H', Gr Hs H Hs' H' → Rep K Hs' v d → Q v H'
/-- to a new list -/
def spN (K : PySem.W.Frag) (G : List D → List D → Prop) : Sp := fun vs H Q _ => ∃ Hs ds es, Same Hs H ∧ Reps K Hs vs ds ∧ G ds es ∧ ∀ l us Hs' H', Gr Hs H Hs' H' → H l = none → Hs' l = none → H' l = some (.lst us) → Reps K Hs' us es → Q (.ref l) H'
/-- a def of the module's, called by its name -/
structure DF (P : Program) (w : World) (K : PySem.W.Frag) (mg : Str → Option Value) (base : Heap) (k : Nat) (x : Str) (sp : Sp) : Prop where
  ex : ∃ f fd ps, FnOk P w K mg base CX0 k f fd ps sp ∧ mg x = some (.ref f) ∧ PySem.W.keepIn K (.ref f) = true ∧ Binds K fd ps []
theorem DF.mono {P : Program} {w : World} {K : PySem.W.Frag} {mg : Str → Option Value} {base : Heap} {k j : Nat} {x : Str} {sp : Sp} (h : DF P w K mg base k x sp) (l : k ≤ j) : DF P w K mg base j x sp := by
  obtain ⟨f, fd, ps, a, b, c, d⟩ := h.ex
  exact ⟨f, fd, ps, a.mono l, b, c, d⟩
section
variable {X : Cx} {γ : List Sl} {e : Expr} {es : List Expr} {d : D} {ds zs : List D} {pos pn : Pos} {k : Nat} {n : Str}
theorem pd_f {G : List D → D → Prop} (F : DF X.prog X.w X.K X.mg X.base k n (spD X.K G)) (hr : Room k X.A) (ha : PDA X γ (e :: es) ds) (hG : G ds d) (hg : Gl X n := by rfl) (hdb : (n == ("__debug__" : Str)) = false := by decide)
    (he : starEach (e :: es) X.env = (false, eval e X.env) :: starEach es X.env := by rfl) (hpl : (backTo pos (starEach es X.env)).any (·.1) = false := by rfl) : PD X γ (.Call (.Name n pn) (e :: es) [] pos) d := fun σ Hs H Q s E kk => by
  obtain ⟨f, fd, ps, a, b, c, dd⟩ := F.ex
  refine wE_of (pe_call a hr hg b c dd .nil pass0 (wA_ok _) hdb he hpl) (ha σ Hs H _ s E fun vs Hs' H' g r => ?_)
  rw [List.append_nil]
  exact ⟨Hs', ds, d, g.sub, r, hG, fun v Hs2 H2 g2 r2 => kk v Hs2 H2 (g.trans g2) r2⟩
theorem pn_f {G : List D → List D → Prop} (F : DF X.prog X.w X.K X.mg X.base k n (spN X.K G)) (hr : Room k X.A) (ha : PDA X γ (e :: es) ds) (hG : G ds zs) (hg : Gl X n := by rfl) (hdb : (n == ("__debug__" : Str)) = false := by decide)
    (he : starEach (e :: es) X.env = (false, eval e X.env) :: starEach es X.env := by rfl) (hpl : (backTo pos (starEach es X.env)).any (·.1) = false := by rfl) : PN X γ (.Call (.Name n pn) (e :: es) [] pos) zs := fun σ Hs H Q s E kk => by
  obtain ⟨f, fd, ps, a, b, c, dd⟩ := F.ex
  refine wE_of (pe_call a hr hg b c dd .nil pass0 (wA_ok _) hdb he hpl) (ha σ Hs H _ s E fun vs Hs' H' g r => ?_)
  rw [List.append_nil]
  exact ⟨Hs', ds, zs, g.sub, r, hG, fun l us Hs2 H2 g2 h1 h2 h3 r2 => kk l us Hs2 H2 (g.trans g2) (g.ext.free h1) h2 h3 r2⟩
end
/-- the start of a def's body -/
def st0 (N : List Str) (ds : List D) : List Sl := ds.map Sl.sh ++ List.replicate (N.length - ds.length) .no
theorem st_start {K : PySem.W.Frag} {Hs H : Hp} {N : List Str} {vs : List V} {ds : List D} (s : Same Hs H) (r : Reps K Hs vs ds) : ST K Hs H Hs Hs H (L2.start N vs) (st0 N ds) := by
  have hl := r.length
  have no : ∀ (i : Nat) x, (st0 N ds)[i]? = some x → (∃ d, ds[i]? = some d ∧ x = Sl.sh d) ∨ x = Sl.no := fun i x q => by
    unfold st0 at q
    by_cases h : i < (ds.map Sl.sh).length
    · rw [List.getElem?_append_left h, List.getElem?_map] at q
      cases e : ds[i]? with
      | none => rw [e] at q; cases q
      | some d => rw [e] at q; cases q; exact .inl ⟨d, rfl, rfl⟩
    · rw [List.getElem?_append_right (Nat.le_of_not_lt h), List.getElem?_replicate] at q
      split at q
      · cases q; exact .inr rfl
      · cases q
  refine ⟨Gr.refl s, Same.refl _, ?_, fun i d q => ?_, fun i u q w => ?_, fun i j u u' l _ q _ w => ?_⟩
  · unfold L2.start st0; simp [hl]
  · rcases no i _ q with ⟨d', h1, h2⟩ | h
    · cases h2
      obtain ⟨v, hv, rv⟩ := r.get h1
      refine ⟨v, ?_, rv⟩
      unfold L2.start
      have : i < (vs.map some).length := by
        rw [List.length_map]; exact (List.getElem?_eq_some_iff.mp hv).1
      rw [List.getElem?_append_left this, List.getElem?_map, hv] <;> rfl
    · cases h
  · rcases no i _ q with ⟨d', h1, h2⟩ | h
    · subst h2; cases w
    · subst h; cases w
  · rcases no i _ q with ⟨d', h1, h2⟩ | h
    · subst h2; cases w
    · subst h; cases w
end Pd
end

section
set_option Elab.async false
set_option linter.all false
set_option maxRecDepth 100000
set_option maxHeartbeats 4000000
set_option autoImplicit false
namespace Pd
open PySem PySem.Spec PyProof.Rows L2

/-! ### a def's body -/
section
variable {P : Program} {w : World} {K : PySem.W.Frag} {mg : Str → Option Value} {base : Heap} {x qual : Str} {params : Arguments} {body : List Stmt} {scope : Scope} {f : Addr} {fd : FuncData} {N ps : List Str} {k : Nat}
/-- the context of a def that lets no exception out -/
abbrev BX (P : Program) (w : World) (K : PySem.W.Frag) (mg : Str → Option Value) (base : Heap) (N : List Str) (qual : Str) (scope : Scope) (f : Addr) (cdv : Value) (A : Around) (outer : List Env) (s : Shared) (H : Hp) (E : XK) : Cx := (cxOf CX0 P w K mg base N qual scope f cdv A outer s H E).nox
theorem fnD {dvs : List V} {kws : List (Str × V)} {G : List D → D → Prop} (F : FunD K x qual params body scope dvs kws f fd) (S : FnScope N ps scope) (len : ∀ ds d, G ds d → ds.length = ps.length)
    (hbody : ∀ cdv A outer s H E, Room k (BX P w K mg base N qual scope f cdv A outer s H E).A → ∀ ds d, G ds d → SD (BX P w K mg base N qual scope f cdv A outer s H E) body (st0 N ds) { nx := fun _ => d = .non, rt := fun d' => d' = d, rn := fun es => d = .lst es }) :
    FnOk P w K mg base CX0 (k + 1) f fd ps (spD K G) := by
  refine F.ok S (fun vs H Q E h => ?_) (fun cdv A outer s H vs Q E hr h => ?_)
  · obtain ⟨Hs, ds, d, _, r, hG, _⟩ := h
    rw [r.length, len ds d hG]
  · obtain ⟨Hs, ds, d, sm, r, hG, kk⟩ := h
    refine ⟨_, PSs.nox (wSs_ok _), ?_⟩
    refine hbody cdv A outer s H E hr ds d hG Hs H Hs { nx := fun _ H' => Q .non H', rt := Q } ⟨fun γ σ Hs' H' t q => ?_, fun _ _ _ _ _ q => q.elim, fun _ _ _ _ _ q => q.elim, fun d' v Hs' H' g r' q => ?_, fun es l us Hs' H' g h1 h2 h3 r' q => ?_, .inl fun _ _ _ q => q⟩ _ Hs H (st_start sm r)
    · subst q
      exact kk _ Hs' H' t.gr .non
    · subst q
      exact kk v Hs' H' g r'
    · subst q
      obtain ⟨g', r2⟩ := share sm g h1 h2 h3 r'
      exact kk _ _ _ g' r2
theorem fnN {dvs : List V} {kws : List (Str × V)} {G : List D → List D → Prop} (F : FunD K x qual params body scope dvs kws f fd) (S : FnScope N ps scope) (len : ∀ ds d, G ds d → ds.length = ps.length)
    (hbody : ∀ cdv A outer s H E, Room k (BX P w K mg base N qual scope f cdv A outer s H E).A → ∀ ds es, G ds es → SD (BX P w K mg base N qual scope f cdv A outer s H E) body (st0 N ds) { nx := fun _ => False, rt := fun _ => False, rn := fun es' => es' = es }) :
    FnOk P w K mg base CX0 (k + 1) f fd ps (spN K G) := by
  refine F.ok S (fun vs H Q E h => ?_) (fun cdv A outer s H vs Q E hr h => ?_)
  · obtain ⟨Hs, ds, d, _, r, hG, _⟩ := h
    rw [r.length, len ds d hG]
  · obtain ⟨Hs, ds, es, sm, r, hG, kk⟩ := h
    refine ⟨_, PSs.nox (wSs_ok _), ?_⟩
    refine hbody cdv A outer s H E hr ds es hG Hs H Hs { nx := fun _ H' => Q .non H', rt := Q } ⟨fun γ σ Hs' H' t q => q.elim, fun _ _ _ _ _ q => q.elim, fun _ _ _ _ _ q => q.elim, fun d' v Hs' H' g r' q => q.elim, fun es' l us Hs' H' g h1 h2 h3 r' q => ?_, .inl fun _ _ _ q => q⟩ _ Hs H (st_start sm r)
    subst q
    exact kk l us Hs' H' g h1 h2 h3 r'
end

/-! ### what is walked -/
def Feeds (K : PySem.W.Frag) (J : It) (ds : List D) (Hs : Hp) : Prop := ∀ Hs' H', Same Hs Hs' → Same Hs' H' →
  (∀ (i : Nat) d, ds[i]? = some d → J.go i H' ∧ ∀ x H'', J.yld i H' x H'' → ∃ Hs'', Gr Hs' H' Hs'' H'' ∧ Rep K Hs'' x d) ∧ J.stop ds.length H'
structure PDI (X : Cx) (γ : List Sl) (iter : Expr) (ds : List D) : Prop where
  ex : ∃ wi : TI, (∀ tg, PI X tg iter wi) ∧ ∀ σ Hs H (R : It → Hp → Prop), Same Hs H → SE X.K Hs σ γ → (∀ J Hs' H', Gr Hs H Hs' H' → Feeds X.K J ds Hs' → R J H') → wi σ H R
/-- the same for one target -/
structure PDIt (X : Cx) (γ : List Sl) (tg iter : Expr) (ds : List D) : Prop where
  ex : ∃ wi : TI, PI X tg iter wi ∧ ∀ σ Hs H (R : It → Hp → Prop), Same Hs H → SE X.K Hs σ γ → (∀ J Hs' H', Gr Hs H Hs' H' → Feeds X.K J ds Hs' → R J H') → wi σ H R
theorem PDI.at {X : Cx} {γ : List Sl} {iter : Expr} {ds : List D} (h : PDI X γ iter ds) (tg : Expr) : PDIt X γ tg iter ds :=
  let ⟨wi, a, b⟩ := h.ex
  ⟨wi, a tg, b⟩
theorem PDIt.is {X : Cx} {γ : List Sl} {tg e : Expr} {ds ds' : List D} (h : PDIt X γ tg e ds) (q : ds = ds') : PDIt X γ tg e ds' := by rw [← q]; exact h
section
variable {X : Cx} {γ : List Sl} {e a b : Expr} {es : List Expr} {d : D} {ds : List D} {pos pn : Pos}
theorem PDI.is {ds' : List D} (h : PDI X γ e ds) (q : ds = ds') : PDI X γ e ds' := by rw [← q]; exact h
theorem feeds_l {K : PySem.W.Frag} {Hs : Hp} {l : Addr} {vs : List V} (h1 : SqL K Hs l vs) (r : Reps K Hs vs ds) : Feeds K (Itl K l) ds Hs := fun Hs' H' s1 s2 => by
  have q := sqL_mono (s1.trans s2) h1
  refine ⟨fun i d hd => ?_, vs, q, Nat.le_of_eq r.length⟩
  obtain ⟨v, hv, rv⟩ := r.get hd
  refine ⟨⟨vs, v, q, hv⟩, fun x H'' y => ?_⟩
  obtain ⟨e, y⟩ := y
  subst e
  have e2 := y vs q
  rw [hv] at e2
  cases e2
  exact ⟨Hs', Gr.refl s2, rv.mono s1⟩
theorem feeds_t {K : PySem.W.Frag} {Hs : Hp} {l : Addr} {vs : List V} (h1 : SqT K Hs l vs) (r : Reps K Hs vs ds) : Feeds K (Itt K l) ds Hs := fun Hs' H' s1 s2 => by
  have q := sqT_mono (s1.trans s2) h1
  refine ⟨fun i d hd => ?_, vs, q, Nat.le_of_eq r.length⟩
  obtain ⟨v, hv, rv⟩ := r.get hd
  refine ⟨⟨vs, v, q, hv⟩, fun x H'' y => ?_⟩
  obtain ⟨e, y⟩ := y
  subst e
  have e2 := y vs q
  rw [hv] at e2
  cases e2
  exact ⟨Hs', Gr.refl s2, rv.mono s1⟩
theorem it_l (h : PD X γ e (.lst ds)) : PDI X γ e ds := ⟨iList X.K (wE X e), fun tg => pi_list (wE_ok e), fun σ Hs H R s E k => h σ Hs H _ s E fun v Hs' H' g r => by
  cases r with
  | lst h1 r1 => exact ⟨_, rfl, ⟨_, SqL.of (g.sub _ _ h1)⟩, k _ Hs' H' g (feeds_l (SqL.of h1) r1)⟩⟩
theorem it_r (h : PD X γ e (.rol ds)) : PDI X γ e ds := ⟨iList X.K (wE X e), fun tg => pi_list (wE_ok e), fun σ Hs H R s E k => h σ Hs H _ s E fun v Hs' H' g r => by
  cases r with
  | rol h1 r1 => exact ⟨_, rfl, ⟨_, sqL_mono g.sub h1⟩, k _ Hs' H' g (feeds_l h1 r1)⟩⟩
theorem it_t (h : PD X γ e (.tup ds)) : PDI X γ e ds := ⟨iTup X.K (wE X e), fun tg => pi_tup (wE_ok e), fun σ Hs H R s E k => h σ Hs H _ s E fun v Hs' H' g r => by
  cases r with
  | tup h1 r1 => exact ⟨_, rfl, ⟨_, sqT_mono g.sub h1⟩, k _ Hs' H' g (feeds_t h1 r1)⟩⟩
def rngD (lo : Int) (n : Nat) : List D := (List.range n).map fun (i : Nat) => D.int (lo + (i : Int))
theorem rngD_at {lo : Int} {n i : Nat} {d : D} (h : (rngD lo n)[i]? = some d) : i < n ∧ d = .int (lo + (i : Int)) := by
  unfold rngD at h
  rw [List.getElem?_map] at h
  by_cases q : i < n
  · rw [List.getElem?_eq_getElem (by simpa using q)] at h
    simp at h
    exact ⟨q, h.symm⟩
  · rw [List.getElem?_eq_none (by simpa using Nat.le_of_not_lt q)] at h
    cases h
theorem rngD_len {lo : Int} {n : Nat} : (rngD lo n).length = n := by unfold rngD; simp
theorem feeds_r {K : PySem.W.Frag} {Hs : Hp} {lo : Int} {n : Nat} : Feeds K (Itr lo n) (rngD lo n) Hs := fun Hs' H' s1 s2 => by
  refine ⟨fun i d hd => ?_, Nat.le_of_eq (by rw [rngD_len])⟩
  obtain ⟨hi, rfl⟩ := rngD_at hd
  refine ⟨hi, fun x H'' y => ?_⟩
  obtain ⟨e, e2⟩ := y
  subst e e2
  exact ⟨Hs', Gr.refl s2, .int _⟩
theorem it_range1 {j : Int} (h : PD X γ a (.int j)) (hm : X.mg "range" = none) (h0 : -(2 ^ 62) ≤ j) (h1 : j < 2 ^ 62) (hg : Gl X "range" := by rfl) (hs : starEach [a] X.env = [(false, eval a X.env)] := by rfl) : PDI X γ (.Call (.Name "range" pn) [a] [] pos) (rngD 0 j.toNat) :=
  ⟨iRng1 (wA X [a]), fun tg => pi_range1 hg hm (wA_ok _) hs, fun σ Hs H R s E k => pa_cons h pa_nil hs σ Hs H _ s E fun vs Hs' H' g r => by
    cases r with
    | cons r1 rn =>
      cases rn
      cases r1
      exact ⟨j, rfl, h0, h1, k _ Hs' H' g feeds_r⟩⟩
theorem it_range2 {i j : Int} (h : PD X γ a (.int i)) (h2 : PD X γ b (.int j)) (hm : X.mg "range" = none) (hb : -(2 ^ 62) ≤ i ∧ i < 2 ^ 62 ∧ -(2 ^ 62) ≤ j ∧ j < 2 ^ 62) (hg : Gl X "range" := by rfl)
    (hs : starEach [a, b] X.env = [(false, eval a X.env), (false, eval b X.env)] := by rfl) (hs2 : starEach [b] X.env = [(false, eval b X.env)] := by rfl) : PDI X γ (.Call (.Name "range" pn) [a, b] [] pos) (rngD i (j - i).toNat) :=
  ⟨iRng2 (wA X [a, b]), fun tg => pi_range2 hg hm (wA_ok _) hs hs2, fun σ Hs H R s E k => pa_cons h (pa_cons h2 pa_nil hs2) (by rw [hs, hs2]) σ Hs H _ s E fun vs Hs' H' g r => by
    cases r with
    | cons r1 rn =>
      cases rn with
      | cons r2 rn =>
        cases rn
        cases r1
        cases r2
        exact ⟨i, j, rfl, hb, k _ Hs' H' g feeds_r⟩⟩
end

/-! ### targets -/
def wG (X : Cx) (tg : Expr) : TG := fun v σ H Q => ∀ (pins : List (Addr × Obj)) (s : Shared) (u : Value), Inv X pins σ H s → RelV v u → wpAny (model X.prog X.w) X.A (assign tg X.env u) (fun _ s' => ∃ σ' H', Inv X pins σ' H' s' ∧ Q σ' H') X.xe s
theorem wG_ok {X : Cx} (tg : Expr) : PG X tg (wG X tg) := ⟨fun pins s σ H v u Q I r h => h pins s u I r⟩
theorem wG_of {X : Cx} {tg : Expr} {t : TG} (h : PG X tg t) {v : V} {σ : L2.St} {H : Hp} {Q : L2.St → Hp → Prop} (q : t v σ H Q) : wG X tg v σ H Q := fun pins s u I r => h.run pins s σ H v u Q I r q
/-- storing d turns γ to γ', in the slots js -/
def PDG (X : Cx) (γ : List Sl) (tg : Expr) (d : D) (γ' : List Sl) (js : List Nat) : Prop := ∀ (Hs0 H0 Hr Hs H : Hp) (σ : L2.St) (v : V) (Q : L2.St → Hp → Prop), ST X.K Hs0 H0 Hr Hs H σ γ → Rep X.K Hs v d →
  (∀ σ' Hs' H', ST X.K Hs0 H0 Hr Hs' H' σ' γ' → Gr Hs H Hs' H' → σ'.length = σ.length → (∀ i : Nat, i ∉ js → σ'[i]? = σ[i]?) → Q σ' H') → wG X tg v σ H Q
section
variable {X : Cx} {γ : List Sl} {R : Rs} {tg iter e : Expr} {body rest : List Stmt} {d : D} {ds : List D} {pos pn : Pos}
theorem pg_n {n : Str} (i : Nat) (hN : X.N.Nodup) (hi : X.N[i]? = some n := by rfl) (hx : Loc X.env.scope n := by first | exact Or.inl rfl | exact Or.inr rfl) (hf : X.fn n = true ∨ X.env.scope.names.lookup n = some .local := by first | exact .inl rfl | exact .inr rfl) :
    PDG X γ (.Name n pn) d (γ.set i (.sh d)) [i] := fun Hs0 H0 Hr Hs H σ v Q t r k =>
  wG_of (pg_name hN hi hx hf) (k _ Hs H (t.set r) (Gr.refl t.sub) (by simp) fun j hj => by
    rw [List.getElem?_set_ne (fun z => hj (by rw [z]; exact List.mem_singleton.mpr rfl))])
/-- for: the invariant by the turn -/
theorem s1_forT {α : Type} {emb : α → D} (as : List α) (Iv : Nat → List Sl → Prop) (hi : PDIt X γ tg iter (as.map emb)) (h0 : Iv 0 γ)
    (hs : ∀ (i : Nat) a γ1, as[i]? = some a → Iv i γ1 → ∃ γ2 js, PDG X γ1 tg (emb a) γ2 js ∧ SD X body γ2 { nx := Iv (i + 1), ct := Iv (i + 1), bk := R.nx, rt := R.rt, rn := R.rn, xs := R.xs })
    (hd : ∀ γ1, Iv as.length γ1 → R.nx γ1) (hc : X.calm = true := by rfl) (hp : PassesOwn (model X.prog X.w) X.A X.env X.xe := by exact PassesOwn.never) (hsi : ∀ x, foldedSetIterable iter X.env x = pure x := by intro _; rfl) : S1 X (.For tg iter body [] pos) γ R := fun Hs0 H0 Hr E F σ Hs H t => by
  obtain ⟨wi, hpi, hfe⟩ := hi.ex
  refine wS_of (ps_for hp hc hpi (wG_ok tg) (wSs_ok body) hsi) ?_
  refine hfe σ Hs H _ t.sub t.se fun J Hs1 H1 g1 fe => ?_
  refine ⟨fun i m σ' H' => m = as.length - i ∧ i ≤ as.length ∧ ∃ γ' Hs', ST X.K Hs0 H0 Hs1 Hs' H' σ' γ' ∧ Iv i γ', ⟨as.length, by simp, Nat.zero_le _, γ, Hs1, ?_, h0⟩, ?_⟩
  · have t1 := t.go g1
    exact ⟨t1.gr, Same.refl _, t1.len, t1.shd, t1.own, t1.dif⟩
  rintro i m σ' H' ⟨rfl, hle, γ', Hs', t', iv⟩
  obtain ⟨f1, f2⟩ := fe Hs' H' t'.rf t'.sub
  have back : ∀ {γ2 : List Sl} {σ2 : L2.St} {Hs2 H2 : Hp}, ST X.K Hs0 H0 Hs1 Hs2 H2 σ2 γ2 → ST X.K Hs0 H0 Hr Hs2 H2 σ2 γ2 := fun {γ2 σ2 Hs2 H2} t2 => ⟨t2.gr, (t.rf.trans g1.sh).trans t2.rf, t2.len, t2.shd, t2.own, t2.dif⟩
  by_cases hlt : i < as.length
  · have ha : as[i]? = some as[i] := by simp [hlt]
    have hd' : (as.map emb)[i]? = some (emb as[i]) := by rw [List.getElem?_map, ha] <;> rfl
    obtain ⟨go, yld⟩ := f1 i _ hd'
    refine .inr ⟨go, fun σ2 H2 => ∃ γ2 Hs2, ST X.K Hs0 H0 Hs1 Hs2 H2 σ2 γ2 ∧ Iv (i + 1) γ2, fun σ2 H2 ⟨γ2, Hs2, t2, iv2⟩ => ⟨as.length - (i + 1), by omega, rfl, hlt, γ2, Hs2, t2, iv2⟩, fun x H2 y => ?_⟩
    obtain ⟨Hs2, g2, r2⟩ := yld x H2 y
    obtain ⟨γ2, js, hg, hb⟩ := hs i _ γ' ha iv
    refine hg Hs0 H0 Hs1 Hs2 H2 σ' x _ (t'.go g2) r2 fun σ3 Hs3 H3 t3 _ _ _ => ?_
    exact hb Hs0 H0 Hs1 { E with nx := fun σ2 H2 => ∃ γ2 Hs2, ST X.K Hs0 H0 Hs1 Hs2 H2 σ2 γ2 ∧ Iv (i + 1) γ2, ct := fun σ2 H2 => ∃ γ2 Hs2, ST X.K Hs0 H0 Hs1 Hs2 H2 σ2 γ2 ∧ Iv (i + 1) γ2, bk := E.nx } ⟨fun γ4 σ4 Hs4 H4 t4 q => ⟨γ4, Hs4, t4, q⟩, fun γ4 σ4 Hs4 H4 t4 q => F.nx γ4 σ4 Hs4 H4 (back t4) q, fun γ4 σ4 Hs4 H4 t4 q => ⟨γ4, Hs4, t4, q⟩, F.rt, F.rn, F.xs.elim .inl fun ⟨W, a, b⟩ => .inr ⟨W, a, fun C fs dd vs γ4 σ4 Hs4 H4 t4 h1 h2 q => b C fs dd vs γ4 σ4 Hs4 H4 (back t4) h1 h2 q⟩⟩ σ3 Hs3 H3 t3
  · have e : i = as.length := by omega
    subst e
    refine .inl ⟨?_, F.nx γ' σ' Hs' H' (back t') (hd γ' iv)⟩
    rw [List.length_map] at f2
    exact f2
theorem s1_for {α : Type} {emb : α → D} (as : List α) (Iv : Nat → List Sl → Prop) (hi : PDI X γ iter (as.map emb)) (h0 : Iv 0 γ)
    (hs : ∀ (i : Nat) a γ1, as[i]? = some a → Iv i γ1 → ∃ γ2 js, PDG X γ1 tg (emb a) γ2 js ∧ SD X body γ2 { nx := Iv (i + 1), ct := Iv (i + 1), bk := R.nx, rt := R.rt, rn := R.rn, xs := R.xs })
    (hd : ∀ γ1, Iv as.length γ1 → R.nx γ1) (hc : X.calm = true := by rfl) (hp : PassesOwn (model X.prog X.w) X.A X.env X.xe := by exact PassesOwn.never) (hsi : ∀ x, foldedSetIterable iter X.env x = pure x := by intro _; rfl) : S1 X (.For tg iter body [] pos) γ R := s1_forT as Iv (hi.at tg) h0 hs hd hc hp hsi
end

/-! ### comprehensions -/
def wTs (X : Cx) (ifs : List Expr) (t : TT) : Prop := PTs X ifs t
def PDTs (X : Cx) (γ : List Sl) (ifs : List Expr) (b : Bool) : Prop := match ifs with
  | [] => b = true
  | [c] => PDT X γ c b
  | _ => False
def tTs (X : Cx) : List Expr → TT
  | [] => tYes
  | [c] => wT X c
  | _ => fun _ _ _ => False
theorem tTs_ok {X : Cx} : ∀ {ifs : List Expr}, ifs.length ≤ 1 → PTs X ifs (tTs X ifs)
  | [], _ => pts_nil
  | [c], _ => pts_one (wT_ok c)
  | _ :: _ :: _, h => absurd h (by simp)
theorem ts_go {X : Cx} {γ : List Sl} {ifs : List Expr} {b : Bool} {σ : L2.St} {Hs H : Hp} {Q : Bool → Hp → Prop} (h : PDTs X γ ifs b) (s : Same Hs H) (E : SE X.K Hs σ γ) (k : ∀ Hs' H', Gr Hs H Hs' H' → Q b H') : tTs X ifs σ H Q := by
  match ifs, h with
  | [], h =>
    have e : b = true := h
    subst e
    exact k Hs H (Gr.refl s)
  | [c], h => exact (show PDT X γ c b from h) σ Hs H Q s E k
def wipeS (γ : List Sl) : List Nat → List Sl
  | [] => γ
  | v :: vs => (wipeS γ vs).set v .no
theorem wipeS_len (γ : List Sl) : ∀ vs, (wipeS γ vs).length = γ.length
  | [] => rfl
  | v :: vs => by unfold wipeS; rw [List.length_set, wipeS_len]
theorem wipeS_at {γ : List Sl} {i : Nat} {d : D} : ∀ {vs : List Nat}, (wipeS γ vs)[i]? = some (.sh d) → γ[i]? = some (.sh d) ∧ i ∉ vs
  | [], h => ⟨h, by simp⟩
  | v :: vs, h => by
    unfold wipeS at h
    by_cases hi : v = i
    · subst hi
      by_cases hv : v < (wipeS γ vs).length
      · rw [List.getElem?_set_self hv] at h; cases h
      · rw [List.getElem?_eq_none (by simpa using hv)] at h; cases h
    · rw [List.getElem?_set_ne hi] at h
      obtain ⟨h1, h2⟩ := wipeS_at h
      exact ⟨h1, by simp only [List.mem_cons, not_or]; exact ⟨fun e => hi e.symm, h2⟩⟩
theorem wipe_out {σ : L2.St} {i : Nat} : ∀ {vs : List Nat}, i ∉ vs → (wipe σ vs)[i]? = σ[i]?
  | [], _ => rfl
  | v :: vs, h => by
    unfold wipe
    simp only [List.mem_cons, not_or] at h
    rw [List.getElem?_set_ne (Ne.symm h.1), wipe_out h.2]
theorem wipe_in {σ : L2.St} {i : Nat} : ∀ {vs : List Nat}, i ∈ vs → i < σ.length → (wipe σ vs)[i]? = some none
  | v :: vs, h, hl => by
    unfold wipe
    by_cases e : v = i
    · subst e
      rw [List.getElem?_set_self (by rw [wipe_length]; exact hl)]
    · rw [List.getElem?_set_ne e]
      rcases List.mem_cons.mp h with z | z
      · exact absurd z.symm e
      · exact wipe_in z hl
theorem wipe_eq {σ σ' : L2.St} {vs : List Nat} (hl : σ'.length = σ.length) (h : ∀ i : Nat, i ∉ vs → σ'[i]? = σ[i]?) : wipe σ' vs = wipe σ vs := by
  apply List.ext_getElem?
  intro i
  by_cases q : i ∈ vs
  · by_cases hi : i < σ.length
    · rw [wipe_in q hi, wipe_in q (by rw [hl]; exact hi)]
    · rw [List.getElem?_eq_none (by rw [wipe_length, hl]; exact Nat.le_of_not_lt hi), List.getElem?_eq_none (by rw [wipe_length]; exact Nat.le_of_not_lt hi)]
  · rw [wipe_out q, wipe_out q, h i q]
/-- no list of one's own is seen -/
def Sl.hd : Sl → Sl
  | .ow _ => .no
  | .ob _ _ _ => .no
  | s => s
/-- what a comprehension's block sees -/
def blkS (γ : List Sl) (vs : List Nat) : List Sl := wipeS (γ.map Sl.hd) vs
theorem blkS_st {K : PySem.W.Frag} {Hs H : Hp} {σ : L2.St} {γ : List Sl} {vs : List Nat} (s : Same Hs H) (E : SE K Hs σ γ) : ST K Hs H Hs Hs H (wipe σ vs) (blkS γ vs) := by
  have no : ∀ (i : Nat) (u : Sl), (blkS γ vs)[i]? = some u → u.isO = false := fun i u => by
    have : ∀ vs : List Nat, (wipeS (γ.map Sl.hd) vs)[i]? = some u → u.isO = false := fun vs => by
      induction vs with
      | nil =>
        intro q
        unfold wipeS at q
        rw [List.getElem?_map] at q
        cases e : γ[i]? with
        | none => rw [e] at q; cases q
        | some z => rw [e] at q; cases z <;> cases q <;> rfl
      | cons v vs ih =>
        intro q
        unfold wipeS at q
        by_cases hi : v = i
        · subst hi
          have z := set_self_of q
          subst z
          rfl
        · rw [List.getElem?_set_ne hi] at q
          exact ih q
    exact this vs
  refine ⟨Gr.refl s, Same.refl _, ?_, fun i d q => ?_, fun i u q w => (by rw [no i u q] at w; cases w), fun i j u u' l _ q _ w => (by rw [no i u q] at w; cases w)⟩
  · rw [wipe_length]; unfold blkS; rw [wipeS_len]; simpa using E.len
  · obtain ⟨q1, q2⟩ := wipeS_at q
    rw [List.getElem?_map] at q1
    cases e : γ[i]? with
    | none => rw [e] at q1; cases q1
    | some z =>
      rw [e] at q1
      cases z with
      | no => cases q1
      | ow _ => cases q1
      | ob _ _ _ => cases q1
      | sh d' =>
        cases q1
        obtain ⟨v, h1, h2⟩ := E.sh i _ e
        exact ⟨v, by rw [wipe_out q2]; exact h1, h2⟩
section
variable {X : Cx} {γ : List Sl} {R : Rs} {tg iter elt : Expr} {ifs : List Expr} {d : D} {ds : List D} {pos pn : Pos} {scope : Scope} {own : List (Str × Nat)}
/-- the context of a comprehension's block -/
abbrev KX (X : Cx) (scope : Scope) (s : Shared) (H : Hp) (C : Addr) (cl : List (Str × Addr)) (fp : List Addr) : Cx := X.blk s H scope (compEnvC scope cl C X.env) fp
/-- what the block gives of a, at every context -/
def Turns {α : Type} (X : Cx) (γ : List Sl) (scope : Scope) (own : List (Str × Nat)) (tg elt : Expr) (ifs : List Expr) (emb : α → D) (as : List α) (f : α → Option D) : Prop := ∀ a, a ∈ as → ∃ γ2 js p, (∀ j ∈ js, j ∈ own.map (·.2)) ∧ (p = false → f a = none) ∧
  ∃ y, (p = true → f a = some y) ∧ ∀ (s : Shared) (H : Hp) (C : Addr) (cl : List (Str × Addr)) (fp : List Addr),
    PDG (KX X scope s H C cl fp) (blkS γ (own.map (·.2))) tg (emb a) γ2 js ∧ PDTs (KX X scope s H C cl fp) γ2 ifs p ∧ (p = true → PD (KX X scope s H C cl fp) γ2 elt y)
/-- the readings over all contexts: the pieces that pe_lc wants -/
def cG (X : Cx) (scope : Scope) (tg : Expr) : TG := fun v σ H Q => ∀ s H1 C cl fp, wG (KX X scope s H1 C cl fp) tg v σ H Q
def cT (X : Cx) (scope : Scope) (ifs : List Expr) : TT := fun σ H Q => ∀ s H1 C cl fp, tTs (KX X scope s H1 C cl fp) ifs σ H Q
def cE (X : Cx) (scope : Scope) (e : Expr) : TE := fun σ H Q => ∀ s H1 C cl fp, wE (KX X scope s H1 C cl fp) e σ H Q
theorem filterMap_take_succ {α β : Type} {as : List α} {f : α → Option β} {i : Nat} {a : α} (h : as[i]? = some a) : (as.take (i + 1)).filterMap f = (as.take i).filterMap f ++ (match f a with | some y => [y] | none => []) := by
  rw [List.take_add_one, h]
  simp only [Option.toList, List.filterMap_append]
  cases e : f a with
  | none => simp [e]
  | some y => simp [e]
/-- the reading of [elt for tg in iter if ..] -/
theorem lc_go {α : Type} {emb : α → D} {as : List α} {f : α → Option D} {wi : TI} {σ : L2.St} {Hs H : Hp} {Q : VK} (hfe : ∀ σ Hs H (R : It → Hp → Prop), Same Hs H → SE X.K Hs σ γ → (∀ J Hs' H', Gr Hs H Hs' H' → Feeds X.K J (as.map emb) Hs' → R J H') → wi σ H R)
    (ht : Turns X γ scope own tg elt ifs emb as f) (hz : as.length ≤ 50000) (s : Same Hs H) (E : SE X.K Hs σ γ)
    (k : ∀ l vs Hs' H', Gr Hs H Hs' H' → H l = none → Hs' l = none → H' l = some (.lst vs) → Reps X.K Hs' vs (as.filterMap f) → Q (.ref l) H') :
    tLc wi (cG X scope tg) (cT X scope ifs) (cE X scope elt) (own.map (·.2)) σ H Q := by
  refine hfe σ Hs H _ s E fun J Hs1 H1 g1 fe => fun Dl hD => ?_
  have gn : Gr Hs1 H1 Hs1 (upd H1 Dl (.lst [])) := ⟨Same.refl _, fun a u e => by rw [upd_ne (ne_of_none e hD)]; exact e, fun a u e => by rw [upd_ne (ne_of_none (g1.sub a u e) hD)]; exact g1.sub a u e, fun _ _ h => h⟩
  refine ⟨fun i m H' => m = as.length - i ∧ i ≤ as.length ∧ ∃ Hs' acc, Gr Hs1 H1 Hs' H' ∧ H' Dl = some (.lst acc) ∧ Hs' Dl = none ∧ Reps X.K Hs' acc ((as.take i).filterMap f), ⟨as.length, by simp, Nat.zero_le _, Hs1, [], gn, upd_same, g1.sub.free hD, .nil⟩, ?_⟩
  rintro i m H' ⟨rfl, hle, Hs', acc, g2, h1, h2, r⟩
  obtain ⟨f1, f2⟩ := fe Hs' H' g2.sh g2.sub
  by_cases hlt : i < as.length
  · have ha : as[i]? = some as[i] := by simp [hlt]
    have hd' : (as.map emb)[i]? = some (emb as[i]) := by rw [List.getElem?_map, ha] <;> rfl
    obtain ⟨go, yld⟩ := f1 i _ hd'
    obtain ⟨γ2, js, p, hjs, hp0, y, hp1, hall⟩ := ht as[i] (List.getElem_mem hlt)
    have hacc : acc.length ≤ i := by
      rw [r.length]
      exact Nat.le_trans (List.length_filterMap_le _ _) (by rw [List.length_take]; omega)
    refine .inr ⟨go, fun H2 => ∃ Hs2 acc2, Gr Hs1 H1 Hs2 H2 ∧ H2 Dl = some (.lst acc2) ∧ Hs2 Dl = none ∧ Reps X.K Hs2 acc2 ((as.take (i + 1)).filterMap f), fun H2 ⟨Hs2, acc2, q1, q2, q3, q4⟩ => ⟨as.length - (i + 1), by omega, rfl, hlt, Hs2, acc2, q1, q2, q3, q4⟩, fun x H2 yy => ?_⟩
    obtain ⟨Hs2, g3, r2⟩ := yld x H2 yy
    have g23 := g2.trans g3
    have E2 : SE X.K Hs2 σ γ := E.mono (g1.sh.trans g23.sh)
    intro s5 H5 C5 cl5 fp5
    refine (hall s5 H5 C5 cl5 fp5).1 Hs2 H2 Hs2 Hs2 H2 (wipe σ (own.map (·.2))) x _ (blkS_st g3.sub E2) r2 fun σ3 Hs3 H3 t3 g4 hlen hout => ?_
    refine ⟨?_, ?_⟩
    · have e := wipe_eq (vs := own.map (·.2)) hlen fun i hi => hout i fun z => hi (hjs i z)
      rw [e]
      apply List.ext_getElem?
      intro n
      by_cases q : n ∈ own.map (·.2)
      · by_cases hn : n < σ.length
        · rw [wipe_in q hn, wipe_in q (by rw [wipe_length]; exact hn)]
        · rw [List.getElem?_eq_none (by rw [wipe_length, wipe_length]; exact Nat.le_of_not_lt hn), List.getElem?_eq_none (by rw [wipe_length]; exact Nat.le_of_not_lt hn)]
      · rw [wipe_out q]
    have g24 := g23.trans g4
    intro s6 H6 C6 cl6 fp6
    refine ts_go (hall s6 H6 C6 cl6 fp6).2.1 g4.sub t3.se fun Hs4 H4 g5 => ?_
    have g25 := g24.trans g5
    have hDl : ∀ {Hs9 H9 : Hp}, Gr Hs' H' Hs9 H9 → Hs9 Dl = none ∧ H9 Dl = some (.lst acc) := fun {Hs9 H9} g => ⟨g.loc Dl (by rw [h1]; intro z; cases z) h2, g.ext _ _ h1⟩
    cases p with
    | false =>
      rw [if_neg Bool.false_ne_true]
      obtain ⟨d1, d2⟩ := hDl ((g3.trans g4).trans g5)
      refine ⟨Hs4, acc, g25, d2, d1, ?_⟩
      rw [filterMap_take_succ ha, hp0 rfl, List.append_nil]
      exact r.mono ((g3.trans g4).trans g5).sh
    | true =>
      rw [if_pos rfl]
      intro s7 H7 C7 cl7 fp7
      refine (hall s7 H7 C7 cl7 fp7).2.2 rfl σ3 Hs4 H4 _ g5.sub (t3.se.mono g5.sh) fun v Hs5 H5' g6 r5 => ?_
      obtain ⟨d1, d2⟩ := hDl (((g3.trans g4).trans g5).trans g6)
      have g26 := g25.trans g6
      refine ⟨acc, d2, sz_lt (by omega), Hs5, acc ++ [v], ⟨g26.sh, fun a u e => ?_, fun a u e => ?_, g26.loc⟩, upd_same, d1, ?_⟩
      · rw [upd_ne (ne_of_none e hD)]; exact g26.ext a u e
      · rw [upd_ne (ne_of_none e d1)]; exact g26.sub a u e
      · rw [filterMap_take_succ ha, hp1 rfl]
        exact (r.mono (((g3.trans g4).trans g5).trans g6).sh).append (.cons r5 .nil)
  · have e : i = as.length := by omega
    subst e
    refine .inl ⟨by rw [List.length_map] at f2; exact f2, k Dl acc Hs' H' (g1.trans g2) (g1.ext.free hD) h2 h1 ?_⟩
    rw [List.take_length] at r
    exact r
theorem pn_lcT {α : Type} {emb : α → D} (as : List α) (f : α → Option D) (hi : PDIt X γ tg iter (as.map emb)) (ht : Turns X γ scope own tg elt ifs emb as f) (hN : X.N.Nodup) (ok : BlkOk X.N X.env.scope scope own) (hz : as.length ≤ 50000) (hl : ifs.length ≤ 1 := by decide) (hc : X.calm = true := by rfl)
    (hs : ∀ x, foldedSetIterable iter X.env x = pure x := by intro _; rfl) : PN X γ (.ListComp elt [⟨tg, iter, ifs, 0⟩] scope pos) (as.filterMap f) := fun σ Hs H Q s E k => by
  obtain ⟨wi, hpi, hfe⟩ := hi.ex
  exact wE_of (pe_lc hc hN hpi ok (fun s5 H5 C5 cl5 fp5 => ⟨fun pins s σ H v u Q I r h => h s5 H5 C5 cl5 fp5 pins s u I r⟩) (fun s5 H5 C5 cl5 fp5 => ⟨fun pins s σ H Q I h => (tTs_ok hl).run pins s σ H Q I (h s5 H5 C5 cl5 fp5)⟩) (fun s5 H5 C5 cl5 fp5 => ⟨fun pins s σ H Q I h => h s5 H5 C5 cl5 fp5 pins s I⟩) hs)
    (lc_go hfe ht hz s E k)
theorem pn_lc {α : Type} {emb : α → D} (as : List α) (f : α → Option D) (hi : PDI X γ iter (as.map emb)) (ht : Turns X γ scope own tg elt ifs emb as f) (hN : X.N.Nodup) (ok : BlkOk X.N X.env.scope scope own) (hz : as.length ≤ 50000) (hl : ifs.length ≤ 1 := by decide) (hc : X.calm = true := by rfl)
    (hs : ∀ x, foldedSetIterable iter X.env x = pure x := by intro _; rfl) : PN X γ (.ListComp elt [⟨tg, iter, ifs, 0⟩] scope pos) (as.filterMap f) := pn_lcT as f (hi.at tg) ht hN ok hz hl hc hs
/-- y = [elt for ..] on one line -/
theorem s1_asgLc {α : Type} {emb : α → D} {y : Str} {py spos : Pos} (i : Nat) (as : List α) (f : α → Option D) (hi : PDI X γ iter (as.map emb)) (ht : Turns X γ scope own tg elt ifs emb as f) (k : R.nx (γ.set i (.ow (as.filterMap f)))) (hN : X.N.Nodup) (ok : BlkOk X.N X.env.scope scope own) (hz : as.length ≤ 50000)
    (hsw : swapsWith (.ListComp elt [⟨tg, iter, ifs, 0⟩] scope pos) (some (.Name y py)) spos.line X.env = pure true) (hy : X.N[i]? = some y := by rfl) (hyl : X.env.scope.names.lookup y = some .local := by rfl) (hl : ifs.length ≤ 1 := by decide) (hc : X.calm = true := by rfl)
    (hs : ∀ x, foldedSetIterable iter X.env x = pure x := by intro _; rfl) : S1 X (.Assign [.Name y py] (.ListComp elt [⟨tg, iter, ifs, 0⟩] scope pos) spos) γ R := fun Hs0 H0 Hr E F σ Hs H t => by
  obtain ⟨wi, hpi, hfe⟩ := hi.ex
  refine wS_of (ps_setLc (wi := wi) (g := cG X scope tg) (tt := cT X scope ifs) (te := cE X scope elt) hc hN hy hyl hsw (hpi tg) ok (fun s5 H5 C5 cl5 fp5 => ⟨fun pins s σ H v u Q I r h => h s5 H5 C5 cl5 fp5 pins s u I r⟩) (fun s5 H5 C5 cl5 fp5 => ⟨fun pins s σ H Q I h => (tTs_ok hl).run pins s σ H Q I (h s5 H5 C5 cl5 fp5)⟩) (fun s5 H5 C5 cl5 fp5 => ⟨fun pins s σ H Q I h => h s5 H5 C5 cl5 fp5 pins s I⟩) hs) ?_
  exact lc_go hfe ht hz t.sub t.se fun l vs Hs' H' g h1 h2 h3 r => F.nx _ _ Hs' H' (t.setO g h1 h2 h3 (repO_l r)) k
end
end Pd
end

section
set_option Elab.async false
set_option linter.all false
set_option maxRecDepth 100000
set_option maxHeartbeats 4000000
set_option autoImplicit false
namespace Pd
open PySem PySem.Spec PyProof.Rows L2
section
variable {X : Cx} {γ : List Sl} {a b c e : Expr} {es : List Expr} {x y z d : D} {ds zs : List D} {pos pn : Pos} {i j : Int} {p q : Bool}
/-! ### is None, is True, is False -/
theorem is_bl {M : Model} {A : Around} {E : Value → Shared → Prop} {s : Shared} {x : V} {v : Value} {q : Bool} {Q : Value → Shared → Prop} (r : RelV x v) (h : Q (.bool (decide (x = .bl q))) s) : wpAny M A (compareOp .Is v (.bool q)) Q E s := by
  cases x with
  | non => cases (show v = Value.none from r); exact wpAny_is_plain rfl h
  | bl b =>
    cases (show v = Value.bool b from r)
    refine wpAny_is_plain rfl ?_
    have e : (Value.bool b == Value.bool q) = decide (V.bl b = V.bl q) := by cases b <;> cases q <;> rfl
    rw [e]; exact h
  | int i => obtain ⟨t, rfl⟩ := (show ∃ t, v = Value.int i t from r); exact wpAny_is_plain rfl h
  | str i => obtain ⟨t, rfl⟩ := (show ∃ t, v = Value.str i t from r); exact wpAny_is_plain rfl h
  | byt i => obtain ⟨t, rfl⟩ := (show ∃ t, v = Value.bytes i t from r); exact wpAny_is_plain rfl h
  | flt i => obtain ⟨t, rfl⟩ := (show ∃ t, v = Value.float i t from r); exact wpAny_is_plain rfl h
  | ref i => cases (show v = Value.ref i from r); exact wpAny_is_plain rfl h
  | ty i => cases (show v = Value.type i from r); exact wpAny_is_plain rfl h
def rIsBl (q : Bool) : R2 := fun x y H Q => y = .bl q ∧ Q (.bl (decide (x = .bl q))) H
theorem op_isBq (q : Bool) : OpR X (compareOp .Is) (rIsBl q) := by
  intro pins s σ H x y v u Q I r1 r2 ⟨e, h⟩
  subst e
  cases (show u = Value.bool q from r2)
  exact is_bl r1 ⟨.bl _, H, I, rfl, h⟩
def D.isBl (q : Bool) : D → Bool
  | .bl b => b == q
  | _ => false
def D.isNon : D → Bool
  | .non => true
  | _ => false
theorem Rep.bl_iff {K : PySem.W.Frag} {H : Hp} {v : V} {d : D} (r : Rep K H v d) : decide (v = .bl q) = d.isBl q := by
  cases r with
  | bl b => cases b <;> cases q <;> rfl
  | _ => rfl
theorem Rep.non_iff {K : PySem.W.Frag} {H : Hp} {v : V} {d : D} (r : Rep K H v d) : decide (v = .non) = d.isNon := by
  cases r <;> rfl
theorem pd_isBl {k : Nat} {p2 : Pos} (h : PD X γ e x) : PD X γ (.Compare e [.Is] [.Constant (.bool q) k p2] pos) (.bl (x.isBl q)) :=
  pd_cmp (op_isBq q) (fun Hs H v u Q s r1 r2 kk => by
    cases r2
    exact ⟨rfl, kk _ Hs H (Gr.refl s) (by rw [r1.bl_iff]; exact .bl _)⟩) h pd_bl
theorem pt_isBl {k : Nat} {p2 : Pos} (h : PD X γ e x) : PDT X γ (.Compare e [.Is] [.Constant (.bool q) k p2] pos) (x.isBl q) :=
  pt_cmp (op_isBq q) (fun Hs H v u Q s r1 r2 kk => by
    cases r2
    exact ⟨rfl, kk _ Hs H (Gr.refl s) (by rw [r1.bl_iff]; exact .bl _)⟩) h pd_bl
theorem pd_isN {k : Nat} {p2 : Pos} (h : PD X γ e x) : PD X γ (.Compare e [.Is] [.Constant .none k p2] pos) (.bl x.isNon) :=
  pd_cmp op_isN (fun Hs H v u Q s r1 r2 kk => by
    cases r2
    exact ⟨rfl, kk _ Hs H (Gr.refl s) (by rw [r1.non_iff]; exact .bl _)⟩) h pd_non
theorem pt_isN {k : Nat} {p2 : Pos} (h : PD X γ e x) : PDT X γ (.Compare e [.Is] [.Constant .none k p2] pos) x.isNon :=
  pt_cmp op_isN (fun Hs H v u Q s r1 r2 kk => by
    cases r2
    exact ⟨rfl, kk _ Hs H (Gr.refl s) (by rw [r1.non_iff]; exact .bl _)⟩) h pd_non
theorem pt_notN {k : Nat} {p2 : Pos} (h : PD X γ e x) : PDT X γ (.Compare e [.IsNot] [.Constant .none k p2] pos) (!x.isNon) :=
  pt_cmp op_notN (fun Hs H v u Q s r1 r2 kk => by
    cases r2
    exact ⟨rfl, kk _ Hs H (Gr.refl s) (by rw [r1.non_iff]; exact .bl _)⟩) h pd_non
/-! ### isinstance with a built-in type -/
def D.tyN : D → Option String
  | .non => some "NoneType" | .bl _ => some "bool" | .int _ => some "int" | .str _ => some "str" | .lst _ => some "list" | .tup _ => some "tuple" | .dK _ => some "dict" | .dT _ => some "dict"
  | _ => none
theorem Rep.tyX {K : PySem.W.Frag} {H Hs : Hp} {v : V} {d : D} {t : String} (s : Same Hs H) (r : Rep K Hs v d) (h : d.tyN = some t) : TyX K H v (.type t) := by
  cases r with
  | non => cases h; exact .base .non
  | bl b => cases h; exact .base (.bl b)
  | int i => cases h; exact .base (.int i)
  | str x => cases h; exact .base (.str x)
  | ty n => cases h
  | adr a => cases h
  | rol _ _ => cases h
  | obj _ _ => cases h
  | exc _ _ => cases h
  | ev0 _ => cases h
  | ev1 _ _ _ => cases h
  | lst h1 _ => cases h; exact .base (.lst (s _ _ h1))
  | tup h1 _ =>
    cases h
    rcases h1 with (h1 | ⟨o, h1⟩) | ⟨o, its, n, hk, hc, _⟩
    · exact .base (.tup (s _ _ h1))
    · exact .fTuple (s _ _ h1)
    · exact .kTuple hk hc
  | dK h1 _ => cases h; exact .base (.dK (s _ _ h1))
  | dT h1 _ => cases h; exact .base (.dT (s _ _ h1))
theorem pd_ty {T : String} {n : Str} (hm : X.mg n = none) (hv : bootBuiltins n = some (.type T)) (hg : Gl X n := by rfl) (hn : n ≠ "__name__" := by decide) (hd : (n == ("__debug__" : Str)) = false := by decide) : PD X γ (.Name n pos) (.ty T) :=
  fun σ Hs H Q s E k => wE_of (pe_bltn hg hm hv (v := .ty T) rfl hn hd) (k _ Hs H (Gr.refl s) (.ty T))
theorem rc_isi {K : PySem.W.Frag} {t T : String} (hx : x.tyN = some t) (hk : kitB t T = some p) : RCD K (rIsi K) [x, .ty T] (.bl p) := fun Hs H vs Q s rs k => by
  cases rs with
  | cons r1 rn =>
    cases rn with
    | cons r2 rn =>
      cases rn
      cases r2
      exact ⟨_, _, _, _, p, rfl, .ty T, r1.tyX s hx, kit_ty hk, k _ Hs H (Gr.refl s) (.bl p)⟩
theorem pd_isi {t T : String} {n : Str} {p2 : Pos} (h : PD X γ e x) (hx : x.tyN = some t) (hk : kitB t T = some p) (hm : X.mg "isinstance" = none) (hmT : X.mg n = none) (hv : bootBuiltins n = some (.type T)) (hg : Gl X "isinstance" := by rfl) (hgT : Gl X n := by rfl) (hn : n ≠ "__name__" := by decide) (hd : (n == ("__debug__" : Str)) = false := by decide)
    (he : starEach [e, .Name n p2] X.env = (false, eval e X.env) :: starEach [.Name n p2] X.env := by rfl) (he2 : starEach [.Name n p2] X.env = (false, eval (.Name n p2) X.env) :: starEach [] X.env := by rfl) (hpl : (backTo pos (starEach [.Name n p2] X.env)).any (·.1) = false := by rfl) :
    PD X γ (.Call (.Name "isinstance" pn) [e, .Name n p2] [] pos) (.bl p) :=
  pd_cb call_isi (rc_isi hx hk) hg hm (by decide +kernel) (pa_cons h (pa_cons (pd_ty hmT hv hgT hn hd) pa_nil he2) he) (by decide) (by decide) he hpl
/-! ### texts -/
theorem rd_eqS {K : PySem.W.Frag} {u v : Str} : RVD K rEq (.str u) (.str v) (.bl (decide (u = v))) := fun Hs H _ _ Q s r1 r2 k => by
  cases r1; cases r2
  refine ⟨rfl, k _ _ _ (Gr.refl s) ?_⟩
  have : decide (V.str u = V.str v) = decide (u = v) := by simp
  rw [this]
  exact .bl _
theorem pd_eqS {u v : Str} (ha : PD X γ a (.str u)) (hb : PD X γ b (.str v)) : PD X γ (.Compare a [.Eq] [b] pos) (.bl (decide (u = v))) := pd_cmp op_eq rd_eqS ha hb
theorem pt_eqS {u v : Str} (ha : PD X γ a (.str u)) (hb : PD X γ b (.str v)) : PDT X γ (.Compare a [.Eq] [b] pos) (decide (u = v)) := pt_cmp op_eq rd_eqS ha hb
theorem rd_neB {K : PySem.W.Frag} : RVD K rNe (.bl p) (.bl q) (.bl (!decide (p = q))) := fun Hs H _ _ Q s r1 r2 k => by
  cases r1; cases r2
  refine ⟨rfl, k _ _ _ (Gr.refl s) ?_⟩
  have : decide (V.bl p = V.bl q) = decide (p = q) := by simp
  rw [this]
  exact .bl _
theorem pt_neB (ha : PD X γ a (.bl p)) (hb : PD X γ b (.bl q)) : PDT X γ (.Compare a [.NotEq] [b] pos) (!decide (p = q)) := pt_cmp op_ne rd_neB ha hb
end
end Pd
end

section
set_option Elab.async false
set_option linter.all false
set_option maxRecDepth 100000
set_option maxHeartbeats 4000000
set_option autoImplicit false
namespace Pd
open PySem PySem.Spec PyProof.Rows L2

/-! ### objects -/
section
variable {X : Cx} {γ : List Sl} {R : Rs} {e o a b : Expr} {es : List Expr} {x y z d : D} {ds : List D} {pos pn apos : Pos} {C : Addr} {fs : List (Str × D)} {f m : Str} {k : Nat}
theorem pd_fld (h : PD X γ e (.obj C fs)) (hl : fs.lookup f = some d) (cl : Cls X.K C) (na : NoAttr X.K C f) (hb : attributeBase e f X.env (eval e X.env) = eval e X.env := by rfl) : PD X γ (.Attribute e f pos) d := fun σ Hs H Q s E kk =>
  wE_of (pe_fld (wE_ok e) hb) (h σ Hs H _ s E fun v Hs' H' g r => by
    cases r with
    | obj h1 r1 =>
      obtain ⟨u, hu, ru⟩ := r1.get hl
      exact ⟨_, _, _, _, u, rfl, g.sub _ _ h1, cl, na, hu, kk u Hs' H' g ru⟩)
/-- o.f = e, o one's own, e shared; e a scalar over what is one's own -/
theorem s1_fldO {n : Str} {p : Addr} {p' p2 : Pos} (i : Nat) (q : γ[i]? = some (.ob p C fs)) (h : PD X γ e d) (k : R.nx (γ.set i (.ob p C (putFD f d fs)))) (cl : Cls X.K C) (na : NoAttr X.K C f) (hz : fs.length < 1000) (hN : X.N[i]? = some n := by rfl)
    (hv : Vis X.env.scope n := by first | exact Or.inl rfl | exact Or.inr (Or.inl rfl) | exact Or.inr (Or.inr rfl)) (hd : (n == ("__debug__" : Str)) = false := by decide) (hcd : (n == ("__classdict__" : Str)) = false := by decide)
    (hs : swapsWith e (some (.Attribute (.Name n p') f p2)) pos.line X.env = pure false := by rfl) : S1 X (.Assign [.Attribute (.Name n p') f p2] e pos) γ R := fun Hs0 H0 Hr E F σ Hs H t => by
  obtain ⟨l, ob, a, bb, c, dd, rfl, dx, vs, rfl, r⟩ := t.own i _ q rfl
  refine wS_of (ps_fld (pe_var hN hv hd hcd) (wE_ok e) hs) (h σ Hs H _ t.sub t.se fun v Hs' H' g r' => ?_)
  refine ⟨_, a, _, C, dx, vs, rfl, g.ext _ _ bb, cl, na, by rw [r.length]; exact hz, ?_⟩
  exact F.nx _ _ Hs' _ ((t.go g).upd q rfl a (repO_o ((r.mono g.sh).put r'))) k
theorem s1_fldOV {n : Str} {p : Addr} {p' p2 : Pos} (i : Nat) (q : γ[i]? = some (.ob p C fs)) (h : PD X (γ.map Sl.vw) e d) (hsc : d.sc = true) (k : R.nx (γ.set i (.ob p C (putFD f d fs)))) (cl : Cls X.K C) (na : NoAttr X.K C f) (hz : fs.length < 1000) (hN : X.N[i]? = some n := by rfl)
    (hv : Vis X.env.scope n := by first | exact Or.inl rfl | exact Or.inr (Or.inl rfl) | exact Or.inr (Or.inr rfl)) (hd : (n == ("__debug__" : Str)) = false := by decide) (hcd : (n == ("__classdict__" : Str)) = false := by decide)
    (hs : swapsWith e (some (.Attribute (.Name n p') f p2)) pos.line X.env = pure false := by rfl) : S1 X (.Assign [.Attribute (.Name n p') f p2] e pos) γ R := fun Hs0 H0 Hr E F σ Hs H t => by
  obtain ⟨l, ob, a, bb, c, dd, rfl, dx, vs, rfl, r⟩ := t.own i _ q rfl
  refine wS_of (ps_fld (pe_var hN hv hd hcd) (wE_ok e) hs) (h σ H H _ (Same.refl _) t.view fun v Hs' H' g r' => ?_)
  refine ⟨_, a, _, C, dx, vs, rfl, g.ext _ _ bb, cl, na, by rw [r.length]; exact hz, ?_⟩
  exact F.nx _ _ Hs _ ((t.scal g).upd q rfl a (repO_o (r.put (r'.sc hsc)))) k
/-- a constant of the class, read off the class -/
theorem pd_cval {n : Str} {mc : Value} {v : V} {u : Value} {pc : Pos} (c : ClX.CRead X.K C mc) (cv : ClX.CVal X.K C mc f v u) (h : PD X γ (.Name n pc) (.adr C)) (hr : ∀ H, Rep X.K H v d) (hb : attributeBase (.Name n pc) f X.env (eval (.Name n pc) X.env) = eval (.Name n pc) X.env := by rfl) :
    PD X γ (.Attribute (.Name n pc) f pos) d := fun σ Hs H Q s E kk =>
  wE_of (ClX.pe_cval (wE_ok _) hb) (h σ Hs H _ s E fun w Hs' H' g r => by
    cases r
    exact ⟨_, _, _, _, rfl, c, cv, kk v Hs' H' g (hr _)⟩)
end

/-! ### objects made -/
/-- __init__ from data to fields: Hs, H1 stand ahead of the object's making -/
def spI (K : PySem.W.Frag) (C : Addr) (G : List D → List (Str × D) → Prop) : Sp := fun vs H Q _ => ∃ Hs H1 p dx ws ds fs, vs = .ref p :: ws ∧ H = upd (upd H1 dx (.own p)) p (.ins C dx []) ∧ H1 p = none ∧ H1 dx = none ∧ dx ≠ p ∧ Same Hs H1 ∧ Reps K Hs ws ds ∧ G ds fs ∧
  ∀ Hs' H' dx' us, Gr Hs H1 Hs' H' → Hs' p = none → H' p = some (.ins C dx' us) → RepF K Hs' us fs → Q .non H'
/-- a class of the module's, called by its name -/
structure DC (P : Program) (w : World) (K : PySem.W.Frag) (mg : Str → Option Value) (base : Heap) (k : Nat) (x : Str) (C : Addr) (G : List D → List (Str × D) → Prop) : Prop where
  ex : ∃ f fd ps, FnOk P w K mg base CX0 k f fd ps (spI K C G) ∧ mg x = some (.ref C) ∧ Mk K C f ∧ Binds K fd ps []
section
variable {X : Cx} {γ : List Sl} {R : Rs} {e : Expr} {es : List Expr} {d : D} {ds : List D} {pos pn : Pos} {k : Nat} {n : Str} {C : Addr} {fs : List (Str × D)}
theorem pd_make {G : List D → List (Str × D) → Prop} (F : DC X.prog X.w X.K X.mg X.base k n C G) (hr : Room (k + 1) X.A) (ha : PDA X γ (e :: es) ds) (hG : G ds fs) (hg : Gl X n := by rfl) (hdb : (n == ("__debug__" : Str)) = false := by decide)
    (he : starEach (e :: es) X.env = (false, eval e X.env) :: starEach es X.env := by rfl) (hpl : (backTo pos (starEach es X.env)).any (·.1) = false := by rfl) : PD X γ (.Call (.Name n pn) (e :: es) [] pos) (.obj C fs) := fun σ Hs H Q s E kk => by
  obtain ⟨f, fd, ps, a, b, c, dd⟩ := F.ex
  refine wE_of (pe_make c a hr hg b dd .nil pass0 (wA_ok _) hdb he hpl) (ha σ Hs H _ s E fun vs Hs' H' g r => ?_)
  intro p dx np ndx nex
  rw [List.append_nil]
  refine ⟨Hs', H', p, dx, vs, ds, fs, rfl, rfl, np, ndx, nex, g.sub, r, hG, fun Hs2 H2 dx' us g2 h1 h2 r2 => ⟨rfl, ?_⟩⟩
  have s1 : Same Hs2 (upd Hs2 p (.ins C dx' us)) := fun x u e => by rw [upd_ne (ne_of_none e h1)]; exact e
  refine kk _ (upd Hs2 p (.ins C dx' us)) H2 ⟨g.sh.trans (g2.sh.trans s1), g.ext.trans g2.ext, fun x u e => ?_, fun x q1 q2 => ?_⟩ (.obj upd_same (r2.mono s1))
  · by_cases q : x = p
    · subst q; rw [upd_same] at e; rw [← e]; exact h2
    · rw [upd_ne q] at e; exact g2.sub x u e
  · have q1' : H' x ≠ none := fun z => by
      cases hx : H x with
      | none => exact q1 hx
      | some o => rw [g.ext x o hx] at z; cases z
    have : x ≠ p := fun q => q1' (by rw [q]; exact np)
    rw [upd_ne this]
    exact g2.loc x q1' (g.loc x q1 q2)
end
/-- the start of an __init__'s body -/
theorem st_init {K : PySem.W.Frag} {Hs H1 : Hp} {N : List Str} {p dx C : Addr} {ws : List V} {ds : List D} (s : Same Hs H1) (np : H1 p = none) (ndx : H1 dx = none) (nex : dx ≠ p) (r : Reps K Hs ws ds) :
    ST K Hs H1 Hs Hs (upd (upd H1 dx (.own p)) p (.ins C dx [])) (L2.start N (.ref p :: ws)) (Sl.ob p C [] :: (ds.map Sl.sh ++ List.replicate (N.length - (ds.length + 1)) .no)) := by
  have e1 : Same H1 (upd (upd H1 dx (.own p)) p (.ins C dx [])) := fun x u e => by rw [upd_ne (ne_of_none e np), upd_ne (ne_of_none e ndx)]; exact e
  have base := st_start (N := N.tail) s r
  have hl := r.length
  have get : ∀ (i : Nat), (L2.start N (V.ref p :: ws))[i + 1]? = (ws.map some ++ List.replicate (N.length - (ws.length + 1)) none)[i]? := fun i => rfl
  refine ⟨⟨Same.refl _, e1, s.trans e1, fun _ _ h => h⟩, Same.refl _, ?_, fun i d q => ?_, fun i u q w => ?_, fun i j u u' l hij q q' w w' => ?_⟩
  · unfold L2.start; simp [hl]
  · cases i with
    | zero => cases q
    | succ i =>
      have q : (ds.map Sl.sh ++ List.replicate (N.length - (ds.length + 1)) .no)[i]? = some (Sl.sh d) := q
      rw [get]
      by_cases h : i < ds.length
      · rw [List.getElem?_append_left (by simpa using h), List.getElem?_map] at q
        cases e : ds[i]? with
        | none => rw [e] at q; cases q
        | some d' =>
          rw [e] at q
          cases q
          obtain ⟨v, hv, rv⟩ := r.get e
          refine ⟨v, ?_, rv⟩
          rw [List.getElem?_append_left (by rw [List.length_map, hl]; exact h), List.getElem?_map, hv] <;> rfl
      · rw [List.getElem?_append_right (by simpa using Nat.le_of_not_lt h), List.getElem?_replicate] at q
        split at q <;> cases q
  · cases i with
    | zero =>
      cases q
      exact ⟨p, _, rfl, upd_same, s.free np, np, rfl, dx, [], rfl, .nil⟩
    | succ i =>
      have q : (ds.map Sl.sh ++ List.replicate (N.length - (ds.length + 1)) .no)[i]? = some u := q
      by_cases h : i < ds.length
      · rw [List.getElem?_append_left (by simpa using h), List.getElem?_map] at q
        cases e : ds[i]? with
        | none => rw [e] at q; cases q
        | some d' => rw [e] at q; cases q; cases w
      · rw [List.getElem?_append_right (by simpa using Nat.le_of_not_lt h), List.getElem?_replicate] at q
        split at q <;> cases q
        cases w
  · have only : ∀ (i : Nat) (u : Sl), (Sl.ob p C [] :: (ds.map Sl.sh ++ List.replicate (N.length - (ds.length + 1)) Sl.no))[i]? = some u → u.isO = true → i = 0 := fun i u q w => by
      cases i with
      | zero => rfl
      | succ i =>
        have q : (ds.map Sl.sh ++ List.replicate (N.length - (ds.length + 1)) .no)[i]? = some u := q
        by_cases h : i < ds.length
        · rw [List.getElem?_append_left (by simpa using h), List.getElem?_map] at q
          cases e : ds[i]? with
          | none => rw [e] at q; cases q
          | some d' => rw [e] at q; cases q; cases w
        · rw [List.getElem?_append_right (by simpa using Nat.le_of_not_lt h), List.getElem?_replicate] at q
          split at q <;> cases q
          cases w
    exact absurd ((only i u q w).trans (only j u' q' w').symm) hij
/-- an __init__ that raises nothing -/
theorem fnI {P : Program} {w : World} {K : PySem.W.Frag} {mg : Str → Option Value} {base : Heap} {x qual : Str} {params : Arguments} {body : List Stmt} {scope : Scope} {f C : Addr} {fd : FuncData} {N ps : List Str} {k : Nat} {dvs : List V} {kws : List (Str × V)} {G : List D → List (Str × D) → Prop}
    (F : FunD K x qual params body scope dvs kws f fd) (S : FnScope N ps scope) (len : ∀ ds fs, G ds fs → ds.length + 1 = ps.length)
    (hbody : ∀ cdv A outer s H E, Room k (BX P w K mg base N qual scope f cdv A outer s H E).A → ∀ p ds fs, G ds fs → SD (BX P w K mg base N qual scope f cdv A outer s H E) body (Sl.ob p C [] :: (ds.map Sl.sh ++ List.replicate (N.length - (ds.length + 1)) .no)) { nx := fun γ => γ[0]? = some (.ob p C fs), rt := fun _ => False }) :
    FnOk P w K mg base CX0 (k + 1) f fd ps (spI K C G) := by
  refine F.ok S (fun vs H Q E h => ?_) (fun cdv A outer s H vs Q E hr h => ?_)
  · obtain ⟨Hs, H1, p, dx, ws, ds, fs, rfl, _, _, _, _, _, r, hG, _⟩ := h
    rw [List.length_cons, r.length]
    exact len ds fs hG
  · obtain ⟨Hs, H1, p, dx, ws, ds, fs, rfl, rfl, np, ndx, nex, sm, r, hG, kk⟩ := h
    refine ⟨_, PSs.nox (wSs_ok _), ?_⟩
    refine hbody cdv A outer s _ E hr p ds fs hG Hs H1 Hs { nx := fun _ H' => Q .non H', rt := Q } ⟨fun γ σ Hs' H' t q => ?_, fun _ _ _ _ _ q => q.elim, fun _ _ _ _ _ q => q.elim, fun d' v Hs' H' g r' q => q.elim, fun es l us Hs' H' g h1 h2 h3 r' q => q.elim, .inl fun _ _ _ q => q⟩ _ Hs _ (st_init sm np ndx nex r)
    obtain ⟨l, o, a, b, c, d0, rfl, dx', us, rfl, r'⟩ := t.own 0 _ q rfl
    exact kk Hs' H' dx' us t.gr c b r'
end Pd
end

section
set_option Elab.async false
set_option linter.all false
set_option maxRecDepth 100000
set_option maxHeartbeats 4000000
set_option autoImplicit false
namespace Pd
open PySem PySem.Spec PyProof.Rows L2

/-! ### errors of one field -/
/-- __init__(self, x): self.f = x -/
def spE1 (K : PySem.W.Frag) (C : Addr) (f : Str) : Sp := fun vs H Q _ => ∃ (a : Addr) (v : V), vs = [.ref a, v] ∧ H a = some (exo a C none) ∧ ∀ dx, H dx = none → dx ≠ a → Q .non (upd (upd H dx (exd dx [(f, v)])) a (exo a C (some dx)))
/-- an error class of the module's, its __init__ of one field -/
structure DE (P : Program) (w : World) (K : PySem.W.Frag) (mg : Str → Option Value) (base : Heap) (x : Str) (C : Addr) (f : Str) : Prop where
  T : OexC K C
  m : mg x = some (.ref C)
  ex : ∃ fI fd ps, PySem.W.findIn K (.ref C) "__init__" = some (some (.ref fI)) ∧ PySem.W.typeIn K (.ref fI) = some (.type "function") ∧ FnOk P w K mg base CX0 1 fI fd ps (spE1 K C f) ∧ Binds K fd ps []
theorem okE {P : Program} {w : World} {K : PySem.W.Frag} {mg : Str → Option Value} {base : Heap} {qual : Str} {params : Arguments} {scope : Scope} {f C : Addr} {fd : FuncData} {s x fl : Str} {p1 p2 p3 p4 : Pos}
    (F : FunD K "__init__" qual params [.Assign [.Attribute (.Name s p1) fl p2] (.Name x p3) p4] scope [] [] f fd) (S : FnScope [s, x] [s, x] scope) (T : OexC K C) (hno : PySem.W.findIn K (.ref C) fl = some none) (v0 : Vis scope s) (v1 : Vis scope x)
    (d0 : (s == ("__debug__" : Str)) = false) (d1 : (x == ("__debug__" : Str)) = false) (c0 : (s == ("__classdict__" : Str)) = false) (c1 : (x == ("__classdict__" : Str)) = false) : FnOk P w K mg base CX0 1 f fd [s, x] (spE1 K C fl) := by
  refine F.ok S (fun vs H Q E h => ?_) (fun cdv A outer st H vs Q E hr h => ?_)
  · obtain ⟨a, v, rfl, _⟩ := h
    rfl
  · obtain ⟨a, v, rfl, ha, k⟩ := h
    refine ⟨_, PSs.nox (pss_one (ps_ost (pe_var (i := 0) rfl v0 d0 c0) (pe_var (i := 1) rfl v1 d1 c1))), ?_⟩
    exact ⟨v, rfl, _, rfl, a, C, rfl, T, hno, .inl ⟨ha, k⟩⟩
section
variable {X : Cx} {γ : List Sl} {R : Rs} {e o a b : Expr} {es : List Expr} {x y z d : D} {ds : List D} {pos pn apos : Pos} {C : Addr} {fs : List (Str × D)} {f m n : Str} {k : Nat}
theorem s1_raise (T : DE X.prog X.w X.K X.mg X.base n C f) (hr : Room 2 X.A) (h : PD X γ e d) (kx : R.xs C [(f, d)] γ) (hc : X.calm = true := by rfl) (hg : Gl X n := by rfl) (hdb : (n == ("__debug__" : Str)) = false := by decide) (he : starEach [e] X.env = (false, eval e X.env) :: starEach [] X.env := by rfl)
    (hpl : (backTo pn (starEach [] X.env)).any (·.1) = false := by rfl) : S1 X (.Raise (some (.Call (.Name n apos) [e] [] pn)) none pos) γ R := fun Hs0 H0 Hr E F σ Hs H t => by
  obtain ⟨fI, fd, ps, i1, i2, ok, bd⟩ := T.ex
  rcases F.xs with no | ⟨W, tk, hW⟩
  · exact absurd kx (no _ _ _)
  refine wS_of (ps_raise hc tk (pmk_oex T.T i1 i2 ok hr bd .nil (fun _ _ _ _ _ _ _ z => z.elim) hg T.m (wA_ok [e]) hdb he hpl)) ?_
  refine pa_cons h pa_nil he σ Hs H _ t.sub t.se fun vs Hs' H' g r => ?_
  cases r with
  | @cons v _ _ _ r1 rn =>
    cases rn
    refine ⟨by simp, fun a na => ?_⟩
    refine ⟨a, v, rfl, upd_same, fun dx ndx nex => ⟨rfl, dx, [(f, v)], upd_same, ?_, ?_, ?_⟩⟩
    · rw [upd_ne nex, upd_same]
    · rw [upd_ne nex] at ndx; exact ndx
    · rw [upd_ne nex] at ndx
      have e1 : upd (del (upd (upd (upd H' a (exo a C none)) dx (exd dx [(f, v)])) a (exo a C (some dx))) a) dx (.xd [(f, v)]) = upd H' dx (.xd [(f, v)]) := by
        funext b
        by_cases hb : b = dx
        · rw [hb, upd_same, upd_same]
        · rw [upd_ne hb, upd_ne hb]
          by_cases ha : b = a
          · rw [ha, del_same, na]
          · rw [del_ne ha, upd_ne ha, upd_ne hb, upd_ne ha]
      show W (.ref C) (some dx) σ _
      rw [e1]
      have gn := Gr.new g.sub ndx (o := .xd [(f, v)])
      exact hW C [(f, d)] dx [(f, v)] γ σ _ _ (t.go (g.trans gn)) upd_same (.cons (r1.mono gn.sh) .nil) kx
end

/-! ### expressions that raise -/
def PDX (X : Cx) (γ : List Sl) (e : Expr) (C : Addr) (fs : List (Str × D)) : Prop := ∀ (W : WX), Takes X W → ∀ (σ : L2.St) (Hs H : Hp) (Q : VK), Same Hs H → SE X.K Hs σ γ →
  (∀ dd us Hs' H', Gr Hs H Hs' H' → Hs' dd = some (.xd us) → RepF X.K Hs' us fs → W (.ref C) (some dd) σ H') → wE X e σ H Q
def PAX (X : Cx) (γ : List Sl) (es : List Expr) (C : Addr) (fs : List (Str × D)) : Prop := ∀ (W : WX), Takes X W → ∀ (σ : L2.St) (Hs H : Hp) (Q : List V → Hp → Prop), Same Hs H → SE X.K Hs σ γ →
  (∀ dd us Hs' H', Gr Hs H Hs' H' → Hs' dd = some (.xd us) → RepF X.K Hs' us fs → W (.ref C) (some dd) σ H') → wA X es σ H Q
/-- a def that raises -/
def spX (K : PySem.W.Frag) (G : List D → Addr → List (Str × D) → Prop) : Sp := fun vs H _ E => ∃ Hs ds C fs, Same Hs H ∧ Reps K Hs vs ds ∧ G ds C fs ∧ ∀ dd us Hs' H', Gr Hs H Hs' H' → Hs' dd = some (.xd us) → RepF K Hs' us fs → E (.ref C) (some dd) H'
/-- an __init__ that raises -/
def spIX (K : PySem.W.Frag) (C : Addr) (G : List D → Addr → List (Str × D) → Prop) : Sp := fun vs H _ E => ∃ Hs H1 p dx ws ds CE fs, vs = .ref p :: ws ∧ H = upd (upd H1 dx (.own p)) p (.ins C dx []) ∧ H1 p = none ∧ H1 dx = none ∧ dx ≠ p ∧ Same Hs H1 ∧ Reps K Hs ws ds ∧ G ds CE fs ∧
  ∀ dd us Hs' H', Gr Hs H1 Hs' H' → Hs' dd = some (.xd us) → RepF K Hs' us fs → E (.ref CE) (some dd) H'
/-- the context of a def that may raise -/
abbrev RX (P : Program) (w : World) (K : PySem.W.Frag) (mg : Str → Option Value) (base : Heap) (N : List Str) (qual : Str) (scope : Scope) (f : Addr) (cdv : Value) (A : Around) (outer : List Env) (s : Shared) (H : Hp) (E : XK) : Cx := cxOf (L2.CX P w) P w K mg base N qual scope f cdv A outer s H E
structure DFX (P : Program) (w : World) (K : PySem.W.Frag) (mg : Str → Option Value) (base : Heap) (k : Nat) (x : Str) (sp : Sp) : Prop where
  ex : ∃ f fd ps, FnOk P w K mg base (L2.CX P w) k f fd ps sp ∧ mg x = some (.ref f) ∧ PySem.W.keepIn K (.ref f) = true ∧ Binds K fd ps []
structure DCX (P : Program) (w : World) (K : PySem.W.Frag) (mg : Str → Option Value) (base : Heap) (k : Nat) (x : Str) (C : Addr) (G : List D → Addr → List (Str × D) → Prop) : Prop where
  ex : ∃ f fd ps, FnOk P w K mg base (L2.CX P w) k f fd ps (spIX K C G) ∧ mg x = some (.ref C) ∧ Mk K C f ∧ Binds K fd ps []
section
variable {P : Program} {w : World} {K : PySem.W.Frag} {mg : Str → Option Value} {base : Heap} {x qual : Str} {params : Arguments} {body : List Stmt} {scope : Scope} {f C : Addr} {fd : FuncData} {N ps : List Str} {k : Nat} {dvs : List V} {kws : List (Str × V)}
theorem fnX {G : List D → Addr → List (Str × D) → Prop} (F : FunD K x qual params body scope dvs kws f fd) (S : FnScope N ps scope) (len : ∀ ds C fs, G ds C fs → ds.length = ps.length)
    (hbody : ∀ cdv A outer s H E, Room k (RX P w K mg base N qual scope f cdv A outer s H E).A → ∀ ds C fs, G ds C fs → SD (RX P w K mg base N qual scope f cdv A outer s H E) body (st0 N ds) { nx := fun _ => False, rt := fun _ => False, xs := fun C' fs' _ => C' = C ∧ fs' = fs }) :
    FnOk P w K mg base (L2.CX P w) (k + 1) f fd ps (spX K G) := by
  refine F.ok S (fun vs H Q E h => ?_) (fun cdv A outer s H vs Q E hr h => ?_)
  · obtain ⟨Hs, ds, C, fs, _, r, hG, _⟩ := h
    rw [r.length, len ds C fs hG]
  · obtain ⟨Hs, ds, C, fs, sm, r, hG, kk⟩ := h
    refine ⟨_, wSs_ok _, ?_⟩
    refine hbody cdv A outer s H E hr ds C fs hG Hs H Hs { nx := fun _ H' => Q .non H', rt := Q } ⟨fun γ σ Hs' H' t q => q.elim, fun _ _ _ _ _ q => q.elim, fun _ _ _ _ _ q => q.elim, fun d' v Hs' H' g r' q => q.elim, fun es l us Hs' H' g h1 h2 h3 r' q => q.elim,
      .inr ⟨fun cls d _ H' => E cls d H', takes_of rfl rfl rfl rfl, fun C' fs' dd us γ σ Hs' H' t h1 h2 q => ?_⟩⟩ _ Hs H (st_start sm r)
    obtain ⟨rfl, rfl⟩ := q
    exact kk dd us Hs' H' t.gr h1 h2
theorem fnIX {G : List D → Addr → List (Str × D) → Prop} (F : FunD K x qual params body scope dvs kws f fd) (S : FnScope N ps scope) (len : ∀ ds C fs, G ds C fs → ds.length + 1 = ps.length)
    (hbody : ∀ cdv A outer s H E, Room k (RX P w K mg base N qual scope f cdv A outer s H E).A → ∀ p ds CE fs, G ds CE fs → SD (RX P w K mg base N qual scope f cdv A outer s H E) body (Sl.ob p C [] :: (ds.map Sl.sh ++ List.replicate (N.length - (ds.length + 1)) .no)) { nx := fun _ => False, rt := fun _ => False, xs := fun C' fs' _ => C' = CE ∧ fs' = fs }) :
    FnOk P w K mg base (L2.CX P w) (k + 1) f fd ps (spIX K C G) := by
  refine F.ok S (fun vs H Q E h => ?_) (fun cdv A outer s H vs Q E hr h => ?_)
  · obtain ⟨Hs, H1, p, dx, ws, ds, CE, fs, rfl, _, _, _, _, _, r, hG, _⟩ := h
    rw [List.length_cons, r.length]
    exact len ds CE fs hG
  · obtain ⟨Hs, H1, p, dx, ws, ds, CE, fs, rfl, rfl, np, ndx, nex, sm, r, hG, kk⟩ := h
    refine ⟨_, wSs_ok _, ?_⟩
    refine hbody cdv A outer s _ E hr p ds CE fs hG Hs H1 Hs { nx := fun _ H' => Q .non H', rt := Q } ⟨fun γ σ Hs' H' t q => q.elim, fun _ _ _ _ _ q => q.elim, fun _ _ _ _ _ q => q.elim, fun d' v Hs' H' g r' q => q.elim, fun es l us Hs' H' g h1 h2 h3 r' q => q.elim,
      .inr ⟨fun cls d _ H' => E cls d H', takes_of rfl rfl rfl rfl, fun C' fs' dd us γ σ Hs' H' t h1 h2 q => ?_⟩⟩ _ Hs _ (st_init sm np ndx nex r)
    obtain ⟨rfl, rfl⟩ := q
    exact kk dd us Hs' H' t.gr h1 h2
end
section
variable {X : Cx} {γ : List Sl} {R : Rs} {e o a b c : Expr} {es : List Expr} {sts : List Stmt} {x y z d : D} {ds : List D} {pos pn apos : Pos} {C CO : Addr} {fs : List (Str × D)} {f m n : Str} {k : Nat}
theorem pass_of {W : WX} (tk : Takes X W) (C : Addr) (fs : List (Str × D)) (σ : L2.St) (H0 : Hp) : PassesAt (L2.CX X.prog X.w) X σ (WE W σ) := passAt tk σ
theorem px_f {G : List D → Addr → List (Str × D) → Prop} (F : DFX X.prog X.w X.K X.mg X.base k n (spX X.K G)) (hr : Room k X.A) (ha : PDA X γ (e :: es) ds) (hG : G ds C fs) (hg : Gl X n := by rfl) (hdb : (n == ("__debug__" : Str)) = false := by decide)
    (he : starEach (e :: es) X.env = (false, eval e X.env) :: starEach es X.env := by rfl) (hpl : (backTo pos (starEach es X.env)).any (·.1) = false := by rfl) : PDX X γ (.Call (.Name n pn) (e :: es) [] pos) C fs := fun W tk σ Hs H Q s E kk => by
  obtain ⟨f, fd, ps, a, b, c, dd⟩ := F.ex
  refine wE_of (pe_callS a hr hg b c dd (fun σ => passAt tk σ) (wA_ok _) hdb he hpl) (ha σ Hs H _ s E fun vs Hs' H' g r => ?_)
  exact ⟨Hs', ds, C, fs, g.sub, r, hG, fun dd us Hs2 H2 g2 h1 h2 => kk dd us Hs2 H2 (g.trans g2) h1 h2⟩
theorem px_arg0 (h : PDX X γ e C fs) (hs : starEach (e :: es) X.env = (false, eval e X.env) :: starEach es X.env := by rfl) : PAX X γ (e :: es) C fs := fun W tk σ Hs H Q s E kk =>
  wA_of (L2.pa_cons (wE_ok e) (wA_ok es) hs) (h W tk σ Hs H _ s E kk)
theorem px_arg1 (h : PD X γ e d) (h2 : PAX X γ es C fs) (hs : starEach (e :: es) X.env = (false, eval e X.env) :: starEach es X.env := by rfl) : PAX X γ (e :: es) C fs := fun W tk σ Hs H Q s E kk =>
  wA_of (L2.pa_cons (wE_ok e) (wA_ok es) hs) (h σ Hs H _ s E fun v Hs' H' g r => h2 W tk σ Hs' H' _ g.sub (E.mono g.sh) fun dd us Hs2 H2 g2 q1 q2 => kk dd us Hs2 H2 (g.trans g2) q1 q2)
theorem px_tup {j : Nat} (h : PAX X γ es C fs) : PDX X γ (.Tuple es j pos) C fs := fun W tk σ Hs H Q s E kk => wE_of (pe_tup (wA_ok es)) (h W tk σ Hs H _ s E kk)
theorem px_att (h : PDX X γ e C fs) (hb : attributeBase e f X.env (eval e X.env) = eval e X.env := by rfl) : PDX X γ (.Attribute e f pos) C fs := fun W tk σ Hs H Q s E kk => wE_of (pe_fld (wE_ok e) hb) (h W tk σ Hs H _ s E kk)
theorem s1_retX (h : PDX X γ e C fs) (k : R.xs C fs γ) : S1 X (.Return (some e) pos) γ R := fun Hs0 H0 Hr E F σ Hs H t => by
  rcases F.xs with no | ⟨W, tk, hW⟩
  · exact absurd k (no _ _ _)
  exact wS_of (ps_ret (wE_ok e)) (h W tk σ Hs H _ t.sub t.se fun dd us Hs' H' g h1 h2 => hW C fs dd us γ σ Hs' H' (t.go g) h1 h2 k)
theorem s1_dropX (h : PDX X γ e C fs) (k : R.xs C fs γ) (hs : swapsWith e none pos.line X.env = pure false := by rfl) : S1 X (.Expr e pos) γ R := fun Hs0 H0 Hr E F σ Hs H t => by
  rcases F.xs with no | ⟨W, tk, hW⟩
  · exact absurd k (no _ _ _)
  exact wS_of (ps_expr (wE_ok e) hs) (h W tk σ Hs H _ t.sub t.se fun dd us Hs' H' g h1 h2 => hW C fs dd us γ σ Hs' H' (t.go g) h1 h2 k)
theorem s1_asgX {p' : Pos} (i : Nat) (h : PDX X γ e C fs) (k : R.xs C fs γ) (hN : X.N.Nodup) (hi : X.N[i]? = some n := by rfl) (hx : Loc X.env.scope n := by first | exact Or.inl rfl | exact Or.inr rfl) (hs : swapsWith e (some (.Name n p')) pos.line X.env = pure false := by rfl)
    (hf : X.fn n = true ∨ X.env.scope.names.lookup n = some .local := by first | exact .inl rfl | exact .inr rfl) : S1 X (.Assign [.Name n p'] e pos) γ R := fun Hs0 H0 Hr E F σ Hs H t => by
  rcases F.xs with no | ⟨W, tk, hW⟩
  · exact absurd k (no _ _ _)
  exact wS_of (ps_set hN hi hx (wE_ok e) hs hf) (h W tk σ Hs H _ t.sub t.se fun dd us Hs' H' g h1 h2 => hW C fs dd us γ σ Hs' H' (t.go g) h1 h2 k)
/-- making, what is raised told at the slots -/
theorem make_at {pins : List (Addr × Obj)} {σ : L2.St} {H : Hp} {s : Shared} {Q : VK} {us : List Value} {vs : List V} {fI : Addr} {fd : FuncData} {ps : List Str} {sp : Sp} {W : WX} (tk : Takes X W) (M : Mk X.K CO fI)
    (F : FnOk X.prog X.w X.K X.mg X.base (L2.CX X.prog X.w) k fI fd ps sp) (hr : Room (k + 1) X.A) (hb : Binds X.K fd ps []) (I : Inv X pins σ H s) (r : Vals vs us)
    (h : ∀ p dx, H p = none → H dx = none → dx ≠ p → sp (.ref p :: vs) (upd (upd H dx (.own p)) p (.ins CO dx [])) (fun v H2 => v = .non ∧ Q (.ref p) H2) (fun cls d H' => W cls d σ H')) :
    wpAny (model X.prog X.w) X.A (call (.ref CO) us) (EP X pins σ Q) X.xe s := by
  let z := s.heap.objs.size
  have I2 := Inv.made (C := CO) I
  have hq := h (z + 1) z (I.hok.fresh (Nat.le_succ z)) (I.hok.fresh (Nat.le_refl z)) (Nat.ne_of_lt (Nat.lt_succ_self z))
  have rr : Vals (V.ref (z + 1) :: vs) (Value.ref (z + 1) :: us) := .cons rfl r
  have hl : (Value.ref (z + 1) :: us).length = ps.length := by
    have q := rr.length
    rw [F.len _ _ _ _ hq] at q
    exact q.symm
  have bd := hb _ (Value.ref (z + 1) :: us) I2.kIn (by rw [List.append_nil]; exact hl)
  rw [List.append_nil] at bd
  have run := F.run _ X.stack _ _ ⟨Value.ref (z + 1) :: us, []⟩ (Value.ref (z + 1) :: us) _ _ (fun cls d H' => W cls d σ H') (hr.make CO us []) (I2.env0.make CO us []) bd rr hq
  refine wpAny_call (make_map (f := fI) I.kIn M.makes M.init (beq_iff_eq.mp M.fn) (codeAny_mono run fun res s' hq' => ?_))
  match res, hq' with
  | .error er, hq' => exact passAt tk σ pins _ _ er s' I2 hq'
  | .ok (.ret u), hq' =>
    obtain ⟨v, H', I3, rv, ev, q3⟩ := I2.after hq'
    subst ev
    exact ⟨rv, V.ref (z + 1), H', I3, rfl, q3⟩
  | .ok .next, hq' => exact hq'.elim
  | .ok .brk, hq' => exact hq'.elim
  | .ok .cont, hq' => exact hq'.elim
/-- C(e, ..) that raises -/
theorem px_make {G : List D → Addr → List (Str × D) → Prop} (F : DCX X.prog X.w X.K X.mg X.base k n CO G) (hr : Room (k + 1) X.A) (ha : PDA X γ (e :: es) ds) (hG : G ds C fs) (hg : Gl X n := by rfl) (hdb : (n == ("__debug__" : Str)) = false := by decide)
    (he : starEach (e :: es) X.env = (false, eval e X.env) :: starEach es X.env := by rfl) (hpl : (backTo pos (starEach es X.env)).any (·.1) = false := by rfl) : PDX X γ (.Call (.Name n pn) (e :: es) [] pos) C fs := fun W tk σ Hs H Q s E kk => by
  obtain ⟨f, fd, ps, a, b, c, dd⟩ := F.ex
  intro pins st I
  refine wpAny_Call_Name_kw (ld_glob I hg b ?_ hdb)
  refine PySem.W.callWith_K (h₀ := X.base) I.ok.mod.kin c.kp (thn ((wA_ok (e :: es)).run pos pins st σ H _ I (ha σ Hs H (fun vs H1 => ∃ Hs1, Gr Hs H Hs1 H1 ∧ Reps X.K Hs1 vs ds) s E fun vs Hs1 H1 g r => ⟨Hs1, g, r⟩)) fun us s1 ⟨vs, H1, I1, r, Hs1, g, r'⟩ => ⟨I1.kIn, ?_⟩) he hpl
  exact make_at tk c a hr dd I1 r fun p dx np ndx nex => ⟨Hs1, H1, p, dx, vs, ds, C, fs, rfl, rfl, np, ndx, nex, g.sub, r', hG, fun dd us Hs2 H2 g2 h1 h2 => kk dd us Hs2 H2 (g.trans g2) h1 h2⟩
end

/-! ### try: .. except X as n: .. -/
theorem ST.clear {K : PySem.W.Frag} {Hs0 H0 Hr Hs H : Hp} {σ : L2.St} {γ : List Sl} {i : Nat} (t : ST K Hs0 H0 Hr Hs H σ γ) : ST K Hs0 H0 Hr Hs H (σ.set i none) (γ.set i .no) := by
  have q := t.forget (i := i)
  refine ⟨q.gr, q.rf, by simpa using t.len, fun j d h => ?_, fun j u h w => ?_, fun j k u v l hjk h1 h2 w1 w2 => ?_⟩
  · have ne : i ≠ j := fun z => by
      subst z
      cases set_self_of h
    rw [List.getElem?_set_ne ne]
    exact q.shd j d h
  · have ne : i ≠ j := fun z => by
      subst z
      have y := set_self_of h
      subst y
      cases w
    rw [List.getElem?_set_ne ne]
    exact q.own j u h w
  · have ne : i ≠ j := fun z => by
      subst z
      have y := set_self_of h1
      subst y
      cases w1
    have ne2 : i ≠ k := fun z => by
      subst z
      have y := set_self_of h2
      subst y
      cases w2
    rw [List.getElem?_set_ne ne, List.getElem?_set_ne ne2]
    exact q.dif j k u v l hjk h1 h2 w1 w2
section
variable {X : Cx} {γ : List Sl} {R : Rs} {body suite : List Stmt} {b0 : Stmt} {pos pos' np : Pos} {x n : Str} {c : Value}
def tbW (X : Cx) (body : List Stmt) (W : WX) : TS := fun D σ H => ∀ (pn : List (Addr × Obj)) (xe : Value → Shared → Prop), Takes (X.tr pn xe) W → PassesOwn (model X.prog X.w) X.A X.env xe → wSs (X.tr pn xe) body D σ H
def tsW (X : Cx) (suite : List Stmt) (a : Addr) (cls : Value) (d : Option Addr) : TS := fun D σ H => ∀ (oe : Obj) (pn : List (Addr × Obj)), Zc cls d oe → (∃ vs, oe.data = .fields vs) → wSs (X.suite a ((a, oe) :: pn)) suite D σ H
/-- Xs: what the body may raise, and the slots then -/
theorem s1_try (i : Nat) (Xs : Addr → List (Str × D) → List Sl → Prop)
    (hb : ∀ (pn : List (Addr × Obj)) (xe : Value → Shared → Prop), PassesOwn (model X.prog X.w) X.A X.env xe → SD (X.tr pn xe) body γ { R with xs := Xs })
    (hsu : ∀ C fs γ', Xs C fs γ' → PySem.W.exmOne X.K (.ref C) c = some true ∧ ∀ (a dd : Addr) (oe : Obj) (pn : List (Addr × Obj)), Zc (.ref C) (some dd) oe → (∃ vs, oe.data = .fields vs) → SD (X.suite a ((a, oe) :: pn)) (b0 :: suite) (γ'.set i (.sh (.exc a dd fs))) { nx := fun g => R.nx (g.set i .no), rt := R.rt, rn := R.rn })
    (hN : X.N.Nodup) (hc : Names X x c) (hi : X.N[i]? = some n := by rfl) (hln : X.env.kindOf n = some .local := by rfl) (hs : X.stack = X.env :: X.outer := by rfl) (hf : X.env.frame = some X.env.locals := by rfl) :
    S1 X (.Try body [.ExceptHandler (some (.Name x np)) (some n) (b0 :: suite) pos'] [] [] pos) γ R := fun Hs0 H0 Hr E F σ Hs H t => by
  refine wS_of (ps_try_as (tb := tbW X body) (ts := tsW X (b0 :: suite)) (Wout := fun _ _ _ _ => False) hs hf hN hi hln hc (fun _ _ z => by
      obtain ⟨_, _, _, _, _, _, _, _, _, _, _, _, _, _, _, _, y⟩ := z
      exact y.elim)
    (fun W pn xe tk po => ⟨fun pins s σ H D I h => h pn xe tk po pins s I⟩) (fun a oe cls d pn hz hd => ⟨fun pins s σ H D I h => h oe pn hz hd pins s I⟩)) ?_
  intro pn xe tk po
  refine hb pn xe po Hs0 H0 Hr E ⟨F.nx, F.bk, F.ct, F.rt, F.rn, .inr ⟨_, tk, fun C fs dd us γ' σ' Hs' H' t' h1 h2 q => ?_⟩⟩ σ Hs H t
  obtain ⟨h3, h4⟩ := hsu C fs γ' q
  refine ⟨true, h3, fun _ a na => ?_, fun z => by cases z⟩
  intro oe pn' hz hd
  exact h4 a dd oe pn' hz hd Hs0 H0 Hr { nx := fun σ' H' => E.nx (σ'.set i none) H', rt := E.rt, bk := fun σ' H' => E.bk (σ'.set i none) H', ct := fun σ' H' => E.ct (σ'.set i none) H' }
    ⟨fun g σ2 Hs2 H2 t2 q2 => F.nx _ _ Hs2 H2 t2.clear q2, fun _ _ _ _ _ z => z.elim, fun _ _ _ _ _ z => z.elim, F.rt, F.rn, .inl fun _ _ _ z => z⟩ _ Hs' H' (t'.set (.exc h1 h2))
end
/-! ### in an except suite: n.f, isinstance(n, T) -/
section
variable {X : Cx} {γ : List Sl} {e : Expr} {d : D} {pos pn' : Pos} {a dd C : Addr} {oe : Obj} {pn : List (Addr × Obj)} {fs : List (Str × D)} {f : Str}
theorem pd_xf (T : XfC X.K C) (hno : PySem.W.findIn X.K (.ref C) f = some none) (hz : Zc (.ref C) (some dd) oe) (hf : ∃ vs, oe.data = .fields vs) (h : PD (X.suite a ((a, oe) :: pn)) γ e (.exc a dd fs)) (hl : fs.lookup f = some d)
    (hb : attributeBase e f (X.suite a ((a, oe) :: pn)).env (eval e (X.suite a ((a, oe) :: pn)).env) = eval e (X.suite a ((a, oe) :: pn)).env := by rfl) : PD (X.suite a ((a, oe) :: pn)) γ (.Attribute e f pos) d := fun σ Hs H Q s E kk =>
  wE_of (pe_xf T hno hz hf (wE_ok e) hb) (h σ Hs H _ s E fun v Hs' H' g r => by
    cases r with
    | exc h1 r1 =>
      obtain ⟨u, hu, ru⟩ := r1.get hl
      exact ⟨rfl, rfl, dd, _, u, rfl, g.sub _ _ h1, hu, kk u Hs' H' g ru⟩)
end
end Pd
end

section
set_option Elab.async false
set_option linter.all false
set_option maxRecDepth 100000
set_option maxHeartbeats 4000000
set_option autoImplicit false
namespace Pd
open PySem PySem.Spec PyProof.Rows L2
/-! ### errors as values: their class -/
section
open PySem.W PySem.Calls
variable {prog : Program} {w : World} {A : Around} {E : Value → Shared → Prop} {s : Shared} {K : Frag} {x D : Addr} {ox : Obj} {od : Option Obj}
theorem cls_ev {Q : Option Value → Shared → Prop} (T : ExcC K D) (X : K.In s.heap) (I : InstAt s.heap x ox D od) (h : Q (some (.ref D)) { s with toks := s.toks + 1 }) :
    wpAny (model prog w) A (getAttr? (.ref x) "__class__") Q E s := by
  obtain ⟨cdD, hcD, _⟩ := any_some T.hd
  have hf : findObj K D od "__class__" = some (.bind (.builtin "getset_descriptor.__get__") (.builtin "object.__class__")) := by
    cases od with
    | none => exact findObj_dataN (by rw [hcD]; rfl) T.ha T.hn T.ht
    | some o => exact findObj_data (by rw [hcD]; rfl) T.ha T.hn T.ht
  obtain ⟨hp, g, d, t, os⟩ := s
  have l0 := I.type (M := model prog w); have l1 := looks_findIn (M := model prog w) X T.hg; have l2 := looks_findIn (M := model prog w) X T.hk
  have l3 := looks_find (M := model prog w) X I hf
  have sb : Looks (model prog w) hp (isInstance (.ref x) (.type "BaseException")) true := l0.andThen (looks_subIn X T.hs)
  have ne1 : (Value.builtin "BaseException.__getattribute__" == Value.builtin "object.__getattribute__") = false := by decide +kernel
  have ne0 : (onTheHeap (Value.ref D) && Value.builtin "BaseException.__getattribute__" == Value.builtin "object.__getattribute__") = false := by rw [ne1, Bool.and_false]
  unfold getAttr? getAttrBy? getAttrBy
  refine wpAny_bind (wpAny_mkText (wpAny_bind (wpAny_attempt (wpAny_holding (wpAny_bind (l0.at (wpAny_bind (l1.at ?_))))))))
  show wpAny _ _ (if (onTheHeap (Value.ref D) && Value.builtin "BaseException.__getattribute__" == Value.builtin "object.__getattribute__") = true then _ else _) _ _ _
  rw [ne0, if_neg Bool.false_ne_true]; unfold getAttrByItsOwn hookBefore; refine wpAny_bind ?_
  rw [if_pos (show onTheHeap (Value.ref D) = true from rfl)]; refine l2.at ?_
  refine wpAny_bind (wpAny_attempt (wpAny_holding ?_)); unfold callGetattribute
  rw [show (false && onTheHeap (Value.builtin "BaseException.__getattribute__")) = false from rfl, if_neg Bool.false_ne_true]; unfold boundAndCalled
  rw [PySem.F.excAttr_ValueError.ga.bind (.ref x)]; refine wpAny_bind (wpAny_pure ?_)
  show wpAny _ _ (call (.builtin "BaseException.__getattribute__") [.ref x, .str "__class__" t]) _ _ _
  refine wpAny_call (codeAny_call_builtin PySem.F.excAttr_ValueError.ga.plain PySem.F.entry_bexc_ga (@check_slot (model prog w) _ _ ⟨hp, g, d, t + 1, os⟩ "BaseException.__getattribute__" "BaseException" "__getattribute__" (.ref x) [.str "__class__" t] [] _ (by decide +kernel) (by decide +kernel) sb (PySem.F.args_bexc_ga (.ref x) (.str "__class__" t)) ?_))
  unfold Builtin.«object.__getattribute__»
  refine wpAny_bind (wpAny_of_eq (a := ((Value.ref x : Value), [Value.str "__class__" t])) (by first | rfl | (simp only [slotArgs]; rfl)) (wpAny_bind (wpAny_pure (wpAny_bind (l0.at (wpAny_bind (l3.at ?_)))))))
  show wpAny _ _ (holding [Value.builtin "object.__class__"] (call (.builtin "getset_descriptor.__get__") [.builtin "object.__class__", .ref x, .ref D]) >>= ret) _ _ _
  refine wpAny_bind (wpAny_holding (wpAny_call (class_get (s := ⟨hp, g, d, t + 1, os⟩) (ox := ox) (od := od) X I T.hm (wpAny_pure ?_))))
  show wpAny _ _ (handedOut (.ref D)) _ _ _
  rw [handedOut_of (v := .ref D) rfl]
  first | exact wpAny_pure (wpAny_pure h) | exact wpAny_pure h | exact wpAny_pure (wpAny_bind (wpAny_pure (wpAny_pure h)))
theorem kit_ev (T : ExcC K D) : KitX K (.ref x) (.ref D) (fun h => ∃ ox od, InstAt h x ox D od) where
  ty := fun _ _ _ ⟨_, _, I⟩ => I.type
  it := fun _ _ X _ => by
    obtain ⟨cdD, hcD, _⟩ := any_some T.hd
    unfold clsIn at hcD
    split at hcD
    · next ho => exact fun _ _ _ _ k q => by unfold isType loadHead; exact wpAny_bind (wpAny_loadPart (k _ _ (X _ _ ho)) (wpAny_pure q))
    · cases hcD
  ne := fun h tp dd its n sl X htp => by
    obtain ⟨cdD, hcD, _⟩ := any_some T.hd
    cases e : (Value.ref D == Value.ref tp) with
    | false => rfl
    | true =>
      obtain rfl : D = tp := Value.ref.inj (beq_iff_eq.mp e)
      unfold clsIn at hcD
      split at hcD
      · next ho => cases (X _ _ ho).symm.trans htp
      · cases hcD
  ca := fun X ⟨_, _, I⟩ k => cls_ev T X I k
end
/-! ### the object of an error that is held -/
section
variable {X : Cx} {γ : List Sl} {R : Rs} {e o a b : Expr} {es : List Expr} {x y z d : D} {ds : List D} {pos pn apos : Pos} {C D' : Addr} {fs : List (Str × D)} {f m n : Str} {k : Nat} {p q : Bool}
theorem inst_ev {P : Program} {w : World} {K : PySem.W.Frag} {Hs H : Hp} {h : Heap} {v : V} (hok : HOk P w H h) (s : Same Hs H) (r : Rep K Hs v (.ev C fs)) : ∃ a, v = .ref a ∧ ∃ ox od, PySem.W.InstAt h a ox C od := by
  cases r with
  | ev0 h1 =>
    obtain ⟨t1, e1⟩ := exo_at hok (s _ _ h1)
    exact ⟨_, rfl, _, none, e1, rfl, rfl, trivial⟩
  | ev1 h1 h2 r1 =>
    obtain ⟨t1, e1⟩ := exo_at hok (s _ _ h1)
    obtain ⟨mA, hns, rel⟩ := exd_at hok (s _ _ h2)
    obtain ⟨od, ho, _⟩ := lookIn_ns hns
    exact ⟨_, rfl, _, some od, e1, rfl, rfl, ho⟩
/-- isinstance(e, c) of such a thing -/
def rIsV (K : PySem.W.Frag) : List V → Hp → VK → Prop := fun xs H Q => ∃ (Hs : Hp) (v c : V) (C : Addr) (fs : List (Str × D)) (cv : Value) (b : Bool), xs = [v, c] ∧ Same Hs H ∧ Rep K Hs v (.ev C fs) ∧ ExcC K C ∧ (∀ u, RelV c u → u = cv) ∧ PySem.W.kitOne K (.ref C) cv = some b ∧ Q (.bl b) H
theorem call_isV : CallR X (.builtin "isinstance") (rIsV X.K) := by
  intro pins s σ H xs us Q I r h
  obtain ⟨Hs, v, c, C, fs, cv, b, rfl, sm, rv, T, hcv, hk, q⟩ := h
  obtain ⟨a, rfl, J⟩ := inst_ev I.hok sm rv
  cases r with
  | cons rx rr =>
    cases rr with
    | cons rt rr =>
      cases rr
      cases rx
      have ec := hcv _ rt
      subst ec
      exact PySem.W.kia_one (kit_ev T) I.kIn J hk (fun z => nomatch z) fun tk => ⟨.bl b, H, I.tok tk, rfl, q⟩
/-- isinstance(e, C): a class of the module's, by its name -/
theorem pd_isvC {p2 : Pos} (h : PD X γ e (.ev C fs)) (T : ExcC X.K C) (hmC : X.mg n = some (.ref D')) (hk : PySem.W.kitOne X.K (.ref C) (.ref D') = some q) (hm : X.mg "isinstance" = none) (hg : Gl X "isinstance" := by rfl) (hgC : Gl X n := by rfl) (hd : (n == ("__debug__" : Str)) = false := by decide)
    (he : starEach [e, .Name n p2] X.env = (false, eval e X.env) :: starEach [.Name n p2] X.env := by rfl) (he2 : starEach [.Name n p2] X.env = (false, eval (.Name n p2) X.env) :: starEach [] X.env := by rfl) (hpl : (backTo pos (starEach [.Name n p2] X.env)).any (·.1) = false := by rfl) :
    PD X γ (.Call (.Name "isinstance" pn) [e, .Name n p2] [] pos) (.bl q) :=
  pd_cb call_isV (fun Hs H vs Q s rs kk => by
    cases rs with
    | cons r1 rn =>
      cases rn with
      | cons r2 rn =>
        cases rn
        cases r2
        exact ⟨Hs, _, _, C, fs, .ref D', q, rfl, s, r1, T, fun u hu => hu, hk, kk _ Hs H (Gr.refl s) (.bl q)⟩) hg hm (by decide +kernel) (pa_cons h (pa_cons (pd_glob (v := .ref D') hgC hmC rfl (fun _ => .adr D') hd) pa_nil he2) he) (by decide) (by decide) he hpl
/-- isinstance(e, T): a built-in type -/
theorem pd_isvT {t : String} {p2 : Pos} (h : PD X γ e (.ev C fs)) (T : ExcC X.K C) (hmT : X.mg n = none) (hv : bootBuiltins n = some (.type t)) (hk : PySem.W.kitOne X.K (.ref C) (.type t) = some q) (hm : X.mg "isinstance" = none) (hg : Gl X "isinstance" := by rfl) (hgT : Gl X n := by rfl) (hn : n ≠ "__name__" := by decide) (hd : (n == ("__debug__" : Str)) = false := by decide)
    (he : starEach [e, .Name n p2] X.env = (false, eval e X.env) :: starEach [.Name n p2] X.env := by rfl) (he2 : starEach [.Name n p2] X.env = (false, eval (.Name n p2) X.env) :: starEach [] X.env := by rfl) (hpl : (backTo pos (starEach [.Name n p2] X.env)).any (·.1) = false := by rfl) :
    PD X γ (.Call (.Name "isinstance" pn) [e, .Name n p2] [] pos) (.bl q) :=
  pd_cb call_isV (fun Hs H vs Q s rs kk => by
    cases rs with
    | cons r1 rn =>
      cases rn with
      | cons r2 rn =>
        cases rn
        cases r2
        exact ⟨Hs, _, _, C, fs, .type t, q, rfl, s, r1, T, fun u hu => hu, hk, kk _ Hs H (Gr.refl s) (.bl q)⟩) hg hm (by decide +kernel) (pa_cons h (pa_cons (pd_ty hmT hv hgT hn hd) pa_nil he2) he) (by decide) (by decide) he hpl
/-- e.f -/
theorem pd_evf (h : PD X γ e (.ev C fs)) (T : XfC X.K C) (hno : PySem.W.findIn X.K (.ref C) f = some none) (hl : fs.lookup f = some d) (hb : attributeBase e f X.env (eval e X.env) = eval e X.env := by rfl) : PD X γ (.Attribute e f pos) d := fun σ Hs H Q s E kk => by
  intro pins st I
  refine attr_of hb (thn ((wE_ok e).run pins st σ H _ I (h σ Hs H (fun v H1 => ∃ Hs1, Gr Hs H Hs1 H1 ∧ Rep X.K Hs1 v (.ev C fs)) s E fun v Hs1 H1 g r => ⟨Hs1, g, r⟩)) fun u s1 hh => ?_)
  obtain ⟨v, H1, I1, rx, Hs1, g, r⟩ := hh
  cases r with
  | ev0 _ => cases hl
  | ev1 h1 h2 r1 =>
    cases rx
    obtain ⟨t1, e1⟩ := exo_at I1.hok (g.sub _ _ h1)
    obtain ⟨mA, hns, rel⟩ := exd_at I1.hok (g.sub _ _ h2)
    obtain ⟨od, ho, hlk⟩ := lookIn_ns hns
    obtain ⟨v, hv, rv⟩ := r1.get hl
    obtain ⟨u, hu, ru⟩ := RelO.some_of (v := v) (o := mA f) (by rw [← hv]; exact rel f)
    have J : PySem.W.InstAt s1.heap _ _ C (some od) := ⟨e1, rfl, rfl, ho⟩
    exact HandSPX.exc_get I1.kIn J T.ga T.gg T.exC (PySem.W.findObj_own T.hdC hno rfl (by rw [hlk, hu])) (handed_of ru) ⟨v, H1, I1.tok _, ru, kk v Hs1 H1 g rv⟩
end
end Pd
end

section
set_option Elab.async false
set_option linter.all false
set_option maxRecDepth 100000
set_option maxHeartbeats 4000000
set_option autoImplicit false
namespace Pd
open PySem PySem.Spec PyProof.Rows L2
/-! ### an error is made and held -/
def tMkV (C : Addr) (sp : Sp) (ta : TA) : TE := fun σ H Q => ta σ H fun vs H1 => vs.length ≤ 1000 ∧ ∀ a, H1 a = none → sp (.ref a :: vs) (upd H1 a (exo a C none)) (fun v H2 => v = .non ∧ Q (.ref a) H2) (fun _ _ _ => False)
section
variable {X : Cx} {CX : CXT} {x : Str} {C fI : Addr} {k : Nat} {fd : FuncData} {ps : List Str} {sp : Sp} {e : Expr} {es : List Expr} {ta : TA} {p pos : Pos}
theorem pe_oexV (T : OexC X.K C) (iC : PySem.W.findIn X.K (.ref C) "__init__" = some (some (.ref fI))) (tI : PySem.W.typeIn X.K (.ref fI) = some (.type "function")) (F1 : FnOk X.prog X.w X.K X.mg X.base CX k fI fd ps sp) (hr : Room (k + 1) X.A) (hb : Binds X.K fd ps []) (hx : Passes CX X (fun _ _ _ => False))
    (hg : Gl X x) (hm : X.mg x = some (.ref C)) (ha : PA X (e :: es) ta) (hdb : (x == ("__debug__" : Str)) = false := by decide) (he : starEach (e :: es) X.env = (false, eval e X.env) :: starEach es X.env := by rfl) (hpl : (backTo pos (starEach es X.env)).any (·.1) = false := by rfl) :
    PE X (.Call (.Name x p) (e :: es) [] pos) (tMkV C sp ta) := by
  refine ⟨fun pins s σ H Q I h => ?_⟩
  obtain ⟨nm, q, N, bs, bm, sn, sub, ab, col, dd, k0, k1, k2, k3, k5, hC, hbm⟩ := T.cls
  refine wpAny_Call_Name_kw (ld_glob I hg hm (PySem.W.callWith_K (h₀ := X.base) I.ok.mod.kin T.kC (thn (ha.run pos pins s σ H _ I h) fun us s1 ⟨vs, H1, I1, r1, hz, q1⟩ => ⟨I1.kIn, ?_⟩) he hpl) hdb)
  show wpAny _ _ (call (.ref C) us) _ _ _
  obtain ⟨hp, g, dr, tk, os⟩ := s1
  let z := hp.objs.size + 1
  have hn : H1 z = none := I1.hok.fresh (Nat.le_succ _)
  have hq := q1 z hn
  have hget : ((hp.push (PySem.W.kdv_tup us)).push (PySem.HandSPX.excO C hp.objs.size)).get? (hp.objs.size + 1) = some (PySem.HandSPX.excO C hp.objs.size) := by heap_get
  have I2 : Inv X pins σ (upd H1 z (exo z C none)) ⟨(hp.push (PySem.W.kdv_tup us)).push (PySem.HandSPX.excO C hp.objs.size), g, dr, tk, os⟩ :=
    I1.laid (t' := tk) (a := z) (o := exo z C none) (h' := (hp.push (PySem.W.kdv_tup us)).push (PySem.HandSPX.excO C hp.objs.size)) (fun b o e => Heap.get?_push_of_some _ (Heap.get?_push_of_some _ e)) (Nat.le_succ _) (exo_ok hget)
  have r2 : Vals (V.ref z :: vs) (Value.ref z :: us) := .cons rfl r1
  have hl : (Value.ref z :: us).length = ps.length := by
    have y := r2.length
    rw [F1.len _ _ _ _ hq] at y
    exact y.symm
  have bd := hb _ (Value.ref z :: us) I2.kIn (by rw [List.append_nil]; exact hl)
  rw [List.append_nil] at bd
  have hus : us.length ≤ sizeLine := by
    have y := Paired.length r1
    rw [sizeLine_eq]; omega
  have run := F1.run _ X.stack _ _ ⟨Value.ref z :: us, []⟩ (Value.ref z :: us) _ _ (fun _ _ _ => False) (hr.make C us []) (I2.env0.make C us []) bd r2 hq
  refine wpAny_call (PySem.HandSPX.call_own PySem.F.excBase_ValueError (fun Y => PySem.HandSPX.refsVE_contains Y bm hbm) (I1.kIn _ _ hC) (PySem.W.looks_findIn I1.kIn iC) (fun self => PySem.W.bind_fn I1.kIn self tI) hus (codeAny_mono run fun r s' hq' => ?_))
  match r, hq' with
  | .error er, hq' => exact hx pins σ _ _ er s' I2 hq'
  | .ok (.ret u), hq' =>
    obtain ⟨v, H', I3, rv, ev, q3⟩ := I2.after hq'
    subst ev
    exact ⟨rv, V.ref z, H', I3, rfl, q3⟩
  | .ok .next, hq' => exact hq'.elim
  | .ok .brk, hq' => exact hq'.elim
  | .ok .cont, hq' => exact hq'.elim
/-- X(), without an own __init__ -/
theorem pe_exc0 {bmB : List Value} {B newId initId : String} (F : ExcBaseFacts B newId initId bmB) (q : PySem.W.excIn X.K C bmB newId = true) (gC : X.mg x = some (.ref C)) (kC : PySem.W.keepIn X.K (.ref C) = true) (hg : Gl X x) (hdb : (x == ("__debug__" : Str)) = false := by decide) :
    PE X (.Call (.Name x p) [] [] pos) (fun σ H Q => ∀ a, H a = none → Q (.ref a) (upd H a (exo a C none))) := by
  refine ⟨fun pins s σ H Q I h => ?_⟩
  refine wpAny_Call_Name_kw (ld_glob I hg gC (PySem.W.callWith_K0 I.kIn kC ?_) hdb)
  obtain ⟨bm, N, nm, qn, bs, hdct, sn, sub, ab, col, dd, k0, k1, k2, k3, k5, mN, hC, hN, hni, T⟩ := exc_obj I.kIn q
  refine wpAny_call_exc_subT F T hC hN hni (fun h' a hm => ?_) (by show 0 ≤ sizeLine; omega)
  have hn : H a = none := I.hok.gone hm.new
  obtain ⟨t, ht, _, _⟩ := hm.there
  exact ⟨.ref a, upd H a (exo a C none), I.laidN hm.keeps hm.new hn (exo_ok ht), rfl, h a hn⟩
end
/-- __init__(self, x, ..) of an error: its fields by its arguments -/
def spEV (K : PySem.W.Frag) (C : Addr) (G : List D → List (Str × D) → Prop) : Sp := fun vs H Q _ => ∃ (Hs H1 : Hp) (a : Addr) (ws : List V) (ds : List D) (fs : List (Str × D)), vs = .ref a :: ws ∧ H1 a = none ∧ H = upd H1 a (exo a C none) ∧ Same Hs H1 ∧ Reps K Hs ws ds ∧ G ds fs ∧
  ∀ Hs' H', Gr Hs H1 Hs' H' → Rep K Hs' (.ref a) (.ev C fs) → Q .non H'
structure DV (P : Program) (w : World) (K : PySem.W.Frag) (mg : Str → Option Value) (base : Heap) (x : Str) (C : Addr) (G : List D → List (Str × D) → Prop) : Prop where
  T : OexC K C
  m : mg x = some (.ref C)
  ex : ∃ fI fd ps, PySem.W.findIn K (.ref C) "__init__" = some (some (.ref fI)) ∧ PySem.W.typeIn K (.ref fI) = some (.type "function") ∧ FnOk P w K mg base CX0 1 fI fd ps (spEV K C G) ∧ Binds K fd ps []
section
variable {X : Cx} {γ : List Sl} {R : Rs} {e o a b : Expr} {es : List Expr} {x y z d : D} {ds : List D} {pos pn apos : Pos} {C D' : Addr} {fs : List (Str × D)} {f m n : Str} {k : Nat} {p q : Bool}
theorem pd_mkev {G : List D → List (Str × D) → Prop} (T : DV X.prog X.w X.K X.mg X.base n C G) (hr : Room 2 X.A) (ha : PDA X γ (e :: es) ds) (hG : G ds fs) (hz : ds.length ≤ 1000 := by simp) (hg : Gl X n := by rfl) (hdb : (n == ("__debug__" : Str)) = false := by decide)
    (he : starEach (e :: es) X.env = (false, eval e X.env) :: starEach es X.env := by rfl) (hpl : (backTo pos (starEach es X.env)).any (·.1) = false := by rfl) : PD X γ (.Call (.Name n pn) (e :: es) [] pos) (.ev C fs) := fun σ Hs H Q s E kk => by
  obtain ⟨fI, fd, ps, i1, i2, ok, bd⟩ := T.ex
  refine wE_of (pe_oexV T.T i1 i2 ok hr bd (fun _ _ _ _ _ _ _ z => z.elim) hg T.m (wA_ok _) hdb he hpl) ?_
  refine ha σ Hs H _ s E fun vs Hs' H' g r => ⟨by rw [r.length]; exact hz, fun a na => ?_⟩
  exact ⟨Hs', H', a, vs, ds, fs, rfl, na, rfl, g.sub, r, hG, fun Hs2 H2 g2 r2 => ⟨rfl, kk _ Hs2 H2 (g.trans g2) r2⟩⟩
theorem pd_mkev0 (q : PySem.W.excIn X.K C He.veBase "ValueError.__new__" = true) (kC : PySem.W.keepIn X.K (.ref C) = true) (hm : X.mg n = some (.ref C)) (hg : Gl X n := by rfl) (hdb : (n == ("__debug__" : Str)) = false := by decide) : PD X γ (.Call (.Name n pn) [] [] pos) (.ev C []) := fun σ Hs H Q s E kk =>
  wE_of (pe_exc0 PySem.F.excBase_ValueError q hm kC hg hdb) fun a na => by
    have g := Gr.new s na (o := exo a C none)
    exact kk _ _ _ g (.ev0 upd_same)
end
/-! ### __init__ of one, of two fields -/
section
variable {P : Program} {w : World} {K : PySem.W.Frag} {mg : Str → Option Value} {base : Heap} {qual : Str} {params : Arguments} {scope : Scope} {f C : Addr} {fd : FuncData} {s x y f1 f2 : Str} {p1 p2 p3 p4 q1 q2 q3 q4 : Pos}
theorem ev_end {Hs H1 : Hp} {a dx : Addr} {vs : List (Str × V)} {ds : List (Str × D)} (sm : Same Hs H1) (na : H1 a = none) (ndx : H1 dx = none) (ne : dx ≠ a) (r : RepF K Hs vs ds) :
    ∃ Hs', Gr Hs H1 Hs' (upd (upd H1 dx (exd dx vs)) a (exo a C (some dx))) ∧ Rep K Hs' (.ref a) (.ev C ds) := by
  have g1 := Gr.new sm ndx (o := exd dx vs)
  have na2 : upd H1 dx (exd dx vs) a = none := by rw [upd_ne (Ne.symm ne)]; exact na
  have g2 := Gr.new g1.sub na2 (o := exo a C (some dx))
  refine ⟨_, g1.trans g2, .ev1 upd_same ?_ (RepF.mono (g1.sh.trans g2.sh) r)⟩
  rw [upd_ne ne, upd_same]
theorem upd_2 {H : Hp} {a b : Addr} {o u v : HO} (ne : b ≠ a) : upd (upd (upd H a o) b u) a v = upd (upd H b u) a v := by
  funext c
  by_cases h1 : c = a
  · subst h1; rw [upd_same, upd_same]
  · rw [upd_ne h1, upd_ne h1]
    by_cases h2 : c = b
    · subst h2; rw [upd_same, upd_same]
    · rw [upd_ne h2, upd_ne h2, upd_ne h1]
theorem upd_3 {H : Hp} {a b : Addr} {u v w : HO} (ne : b ≠ a) : upd (upd (upd H b u) a v) b w = upd (upd H b w) a v := by
  funext c
  by_cases h1 : c = b
  · subst h1; rw [upd_same, upd_ne ne, upd_same]
  · rw [upd_ne h1]
    by_cases h2 : c = a
    · subst h2; rw [upd_same, upd_same]
    · rw [upd_ne h2, upd_ne h2, upd_ne h1, upd_ne h1]
def gE1 (f1 : Str) : List D → List (Str × D) → Prop := fun ds fs => ∃ d, ds = [d] ∧ fs = [(f1, d)]
def gE2 (f1 f2 : Str) : List D → List (Str × D) → Prop := fun ds fs => ∃ d e, ds = [d, e] ∧ fs = [(f2, e), (f1, d)]
theorem okEV1 (F : FunD K "__init__" qual params [.Assign [.Attribute (.Name s p1) f1 p2] (.Name x p3) p4] scope [] [] f fd) (S : FnScope [s, x] [s, x] scope) (T : OexC K C) (hno : PySem.W.findIn K (.ref C) f1 = some none) (v0 : Vis scope s) (v1 : Vis scope x)
    (d0 : (s == ("__debug__" : Str)) = false) (d1 : (x == ("__debug__" : Str)) = false) (c0 : (s == ("__classdict__" : Str)) = false) (c1 : (x == ("__classdict__" : Str)) = false) : FnOk P w K mg base CX0 1 f fd [s, x] (spEV K C (gE1 f1)) := by
  refine F.ok S (fun vs H Q E h => ?_) (fun cdv A outer st H vs Q E hr h => ?_)
  · obtain ⟨Hs, H1, a, ws, ds, fs, rfl, _, _, _, r, ⟨d, rfl, _⟩, _⟩ := h
    show ws.length + 1 = 2
    rw [r.length] <;> rfl
  · obtain ⟨Hs, H1, a, ws, ds, fs, rfl, na, rfl, sm, r, ⟨d, rfl, rfl⟩, kk⟩ := h
    cases r with
    | @cons v _ _ _ r1 rn =>
      cases rn
      refine ⟨_, PSs.nox (pss_one (ps_ost (pe_var (i := 0) rfl v0 d0 c0) (pe_var (i := 1) rfl v1 d1 c1))), ?_⟩
      refine ⟨v, rfl, _, rfl, a, C, rfl, T, hno, .inl ⟨upd_same, fun dx ndx ne => ?_⟩⟩
      rw [upd_ne ne] at ndx
      obtain ⟨Hs', g, rr⟩ := ev_end (C := C) sm na ndx ne (RepF.cons (x := f1) r1 RepF.nil)
      show Q .non _
      rw [upd_2 ne]
      exact kk Hs' _ g rr
theorem okEV2 (F : FunD K "__init__" qual params [.Assign [.Attribute (.Name s p1) f1 p2] (.Name x p3) p4, .Assign [.Attribute (.Name s q1) f2 q2] (.Name y q3) q4] scope [] [] f fd) (S : FnScope [s, x, y] [s, x, y] scope) (T : OexC K C) (hno : PySem.W.findIn K (.ref C) f1 = some none) (hno2 : PySem.W.findIn K (.ref C) f2 = some none) (v0 : Vis scope s) (v1 : Vis scope x) (v2 : Vis scope y)
    (d0 : (s == ("__debug__" : Str)) = false) (d1 : (x == ("__debug__" : Str)) = false) (c0 : (s == ("__classdict__" : Str)) = false) (c1 : (x == ("__classdict__" : Str)) = false) (d2 : (y == ("__debug__" : Str)) = false) (c2 : (y == ("__classdict__" : Str)) = false) : FnOk P w K mg base CX0 1 f fd [s, x, y] (spEV K C (gE2 f1 f2)) := by
  refine F.ok S (fun vs H Q E h => ?_) (fun cdv A outer st H vs Q E hr h => ?_)
  · obtain ⟨Hs, H1, a, ws, ds, fs, rfl, _, _, _, r, ⟨d, e, rfl, _⟩, _⟩ := h
    show ws.length + 1 = 3
    rw [r.length] <;> rfl
  · obtain ⟨Hs, H1, a, ws, ds, fs, rfl, na, rfl, sm, r, ⟨d, e, rfl, rfl⟩, kk⟩ := h
    cases r with
    | @cons v _ _ _ r1 rn =>
      cases rn with
      | @cons u2 _ _ _ r2 rn =>
        cases rn
        refine ⟨_, PSs.nox (pss_cons (ps_ost (pe_var (i := 0) rfl v0 d0 c0) (pe_var (i := 1) rfl v1 d1 c1)) (pss_one (ps_ost (pe_var (i := 0) rfl v0 d0 c0) (pe_var (i := 2) rfl v2 d2 c2)))), ?_⟩
        refine ⟨v, rfl, _, rfl, a, C, rfl, T, hno, .inl ⟨upd_same, fun dx ndx ne => ?_⟩⟩
        rw [upd_ne ne] at ndx
        rw [upd_2 ne]
        refine ⟨u2, rfl, _, rfl, a, C, rfl, T, hno2, .inr ⟨dx, [(f1, v)], upd_same, by rw [upd_ne ne, upd_same], by simp, ?_⟩⟩
        obtain ⟨Hs', g, rr⟩ := ev_end (C := C) sm na ndx ne (RepF.cons (x := f2) r2 (RepF.cons (x := f1) r1 RepF.nil))
        show Q .non _
        rw [upd_3 ne]
        exact kk Hs' _ g rr
end
/-! ### counting, joining -/
section
variable {X : Cx} {γ : List Sl} {R : Rs} {e o a b : Expr} {es : List Expr} {x y z d : D} {ds es' : List D} {pos pn apos : Pos} {p q : Bool}
def cntB (q : Bool) (v : Value) : Bool := match v with
  | .bool b => b == q
  | _ => false
theorem vals_bl : ∀ {bs : List Bool} {us : List Value}, Vals (bs.map V.bl) us → us = bs.map Value.bool
  | [], _, .nil => rfl
  | b :: bs, _, .cons r t => by rw [vals_bl t]; cases (show _ = Value.bool b from r); rfl
theorem reps_bl {K : PySem.W.Frag} {H : Hp} : ∀ {vs : List V} {bs : List Bool}, Reps K H vs (bs.map D.bl) → vs = bs.map V.bl
  | [], [], _ => rfl
  | [], _ :: _, h => by cases h
  | _ :: _, [], h => by cases h
  | v :: vs, n :: ns, h => by
    cases h with
    | cons r t => cases r; rw [reps_bl t] <;> rfl
def rCntB (K : PySem.W.Frag) : V → List V → Hp → VK → Prop := fun x xs H Q => ∃ (p : Addr) (bs : List Bool) (k : Bool), x = .ref p ∧ xs = [.bl k] ∧ SqL K H p (bs.map V.bl) ∧ Q (.int (bs.count k : Nat)) H
theorem mt_cntB : MtR X "list.count" (rCntB X.K) := by
  intro pins s σ H x xs v us Q I rx rxs h
  obtain ⟨p, bs, k, rfl, rfl, hs, q⟩ := h
  cases rx
  obtain ⟨u, rfl, ru⟩ := rxs.one
  cases (show u = Value.bool k from ru)
  obtain ⟨its, rv, ⟨⟨cls, dd, data, sl⟩, n, ho, hc, hdn, hd⟩, hlen⟩ := I.list hs
  simp only at hc hd
  subst hc hd
  have hi := vals_bl rv
  subst hi
  refine call_meets PySem.F.slot_list_count ⟨_, ho, rfl⟩ PySem.F.entry_list_count (PySem.F.args_list_count_2 _ _) (SeqAt.list_countAt p _ n dd sl (.bool k) (cntB k)) ⟨ho, fun y hy => ?_, ?_⟩
  · obtain ⟨b, _, rfl⟩ := List.mem_map.mp (by simpa using hy : y ∈ bs.map Value.bool)
    exact PySem.SeqAt.EqAt.bool_bool b k
  · have ec : ∀ l : List Bool, (l.map Value.bool).countP (cntB k) = l.count k := by
      intro l
      induction l with
      | nil => rfl
      | cons b r ih => rw [List.map_cons, List.countP_cons, List.count_cons, ih] <;> rfl
    refine ⟨.int (bs.count k : Nat), H, I.tok _, ⟨s.toks, ?_⟩, q⟩
    show Value.int (((bs.map Value.bool).countP (cntB k) : Nat) : Int) s.toks = Value.int ((bs.count k : Nat) : Int) s.toks
    rw [ec]
theorem ty_lcnt : typeOf (.builtin "list.count") = pure (.type "method_descriptor") := by show builtinType _ = _; rw [builtinType_eq_fast]; kernel_rfl
theorem pd_cntB {bs : List Bool} {k : Nat} {p2 ap : Pos} (h : PD X γ o (.lst (bs.map .bl))) (hbase : attributeBase o "count" X.env (eval o X.env) = eval o X.env := by rfl)
    (hfew : ((backTo pos (starEach [.Constant (.bool q) k p2] X.env)).all (fun x => !x.1) && (backToKw pos (keywordEach [] X.env)).all (fun x => x.1.isSome) && decide (([Expr.Constant (.bool q) k p2] : List Expr).length + ([] : List Keyword).length + (if ([] : List Keyword).isEmpty then 0 else 1) < 30)) = true := by rfl)
    (hline : (ap.endLine == pos.line) = true := by rfl) : PD X γ (.Call (.Attribute o "count" ap) [.Constant (.bool q) k p2] [] pos) (.int (bs.count q : Nat)) := fun σ Hs H Q s E kk => by
  refine wE_of (pe_bm (r := rCntB X.K) PySem.F.plainAttrs_list PySem.F.slot_list_count ty_lcnt mt_cntB (wE_ok o) (L2.pa_cons pe_bl L2.pa_nil) hbase hfew hline) ?_
  refine h σ Hs H _ s E fun v Hs' H' g r => ?_
  cases r with
  | lst h1 r1 =>
    have ev := reps_bl r1
    subst ev
    refine ⟨?_, ?_⟩
    · show tyV X.K "list" _ H'
      exact .inl ⟨rfl, _, .inl (.inl (g.sub _ _ h1))⟩
    · exact ⟨_, bs, q, rfl, rfl, .inl (.inl (g.sub _ _ h1)), kk _ Hs' H' g (.int _)⟩
/-- sep.join(xs), the texts one sign each, no separator -/
theorem reps_str {K : PySem.W.Frag} {H : Hp} : ∀ {vs : List V} {xs : List Str}, Reps K H vs (xs.map D.str) → vs = xs.map V.str
  | [], [], _ => rfl
  | [], _ :: _, h => by cases h
  | _ :: _, [], h => by cases h
  | v :: vs, n :: ns, h => by
    cases h with
    | cons r t => cases r; rw [reps_str t] <;> rfl
theorem pd_join {u : Str} {ys : List Str} {ap : Pos} (ho : PD X γ o (.str u)) (he : PD X γ e (.lst (ys.map .str))) (hz : (ys.map (·.length)).sum + ys.length * u.length ≤ 16777216) (hs : starEach [e] X.env = [(false, eval e X.env)] := by rfl)
    (hbase : attributeBase o "join" X.env (eval o X.env) = eval o X.env := by rfl) (hline : (ap.endLine == pos.line) = true := by rfl) : PD X γ (.Call (.Attribute o "join" ap) [e] [] pos) (.str (Txt.join u ys)) := fun σ Hs H Q s E kk => by
  refine wE_of (pe_join (wE_ok o) (wE_ok e) hs hbase hline) ?_
  refine ho σ Hs H _ s E fun v Hs' H' g r => ?_
  cases r
  refine ⟨⟨u, rfl⟩, he σ Hs' H' _ g.sub (E.mono g.sh) fun v2 Hs2 H2 g2 r2 => ?_⟩
  cases r2 with
  | lst h1 r1 =>
    have ev := reps_str r1
    subst ev
    exact ⟨u, _, ys, rfl, rfl, .inl (.inl (.inl (g2.sub _ _ h1))), hz, kk _ Hs2 H2 (g.trans g2) (.str _)⟩
theorem pd_catT (ha : PD X γ a (.tup ds)) (hb : PD X γ b (.tup es')) (h1 : ds ≠ []) (h2 : es' ≠ []) (hz : ds.length + es'.length ≤ 100000) : PD X γ (.BinOp a .Add b pos) (.tup (ds ++ es')) :=
  pd_op op_catT (fun Hs H v u Q s r1 r2 k => by
    cases r1 with
    | tup t1 r1 =>
      cases r2 with
      | tup t2 r2 =>
        exact ⟨_, _, _, _, rfl, rfl, sqT_mono s t1, sqT_mono s t2, fun z => h1 (by have y := r1.length; rw [z] at y; exact List.eq_nil_of_length_eq_zero y.symm), sz_of (by rw [r1.length, r2.length]; exact hz), fun z => absurd (show es' = [] by have y := r2.length; rw [z] at y; exact List.eq_nil_of_length_eq_zero y.symm) h2, fun _ => newT s (r1.append r2) k⟩) ha hb
end
end Pd
end

section
set_option Elab.async false
set_option linter.all false
set_option maxRecDepth 100000
set_option maxHeartbeats 4000000
set_option autoImplicit false
namespace Pd
open PySem PySem.Spec PyProof.Rows L2
/-! ### enumerate(v), v told by its iterator's first object -/
theorem enum_new1 {v : Value} {o : Obj} {C : Heap → Prop} (B : Begins v o C) : Meets (Builtin.«enumerate.__new__» ⟨[.type "enumerate", v], []⟩) (fun _ R s => C s.heap ∧
    R (.ok (.ret (.ref (s.heap.push o).objs.size))) { s with heap := (s.heap.push o).push { cls := .type "enumerate", data := .fields #[.none, .bool false, .ref s.heap.objs.size, rawInt 0, .none, .none] } }) :=
  .of_wp fun prog w A R s h => by
    obtain ⟨hp, g, d, tk, os⟩ := s; obtain ⟨c, h⟩ := h
    have sb := sub_enumerate
    have go : ∀ {A' : Around} {E : Value → Shared → Prop} {Q : Value → Shared → Prop}, Q (.ref hp.objs.size) ⟨hp.push o, g, d, tk, os⟩ → wpAny (model prog w) A' (pyIter v) Q E ⟨hp, g, d, tk, os⟩ := fun q => B.iter prog w _ _ ⟨hp, g, d, tk, os⟩ _ c q
    wp_walk using go
    refine wpAny_stack_any fun st => wpAny_pure ?_
    split
    · rename_i c' _ _ _ _ _
      cases (c' == Value.type "enumerate")
      · wp_walk using go
        exact ⟨_, rfl, h⟩
      · wp_walk using go
        exact ⟨_, rfl, h⟩
    · wp_walk using go
      exact ⟨_, rfl, h⟩
theorem enum_call1 {prog : Program} {w : World} {A : Around} {E : Value → Shared → Prop} {s : Shared} {v : Value} {o : Obj} {C : Heap → Prop} {Q : Value → Shared → Prop} (B : Begins v o C) (c : C s.heap)
    (h : ∀ h', IsEnum h' (s.heap.objs.size + 1) s.heap.objs.size 0 .none → h'.get? s.heap.objs.size = some o → (∀ b o, s.heap.get? b = some o → h'.get? b = some o) → Q (.ref (s.heap.objs.size + 1)) { s with heap := h' }) :
    wpAny (model prog w) A (call (.type "enumerate") [v]) Q E s := by
  refine callType_new F.called_enumerate (by decide) (F.typeCall_enumerate_1 _) (F.newCall_enumerate_1 _) (fun obj => F.args_object_init_2 obj _) F.entry_enumerate_new (enum_new1 B) ⟨c, ?_⟩
  have z : (s.heap.push o).objs.size = s.heap.objs.size + 1 := Heap.size_push ..
  show _ ∧ _
  rw [z]
  have he : IsEnum ((s.heap.push o).push { cls := .type "enumerate", data := .fields #[.none, .bool false, .ref s.heap.objs.size, rawInt 0, .none, .none] }) (s.heap.objs.size + 1) s.heap.objs.size 0 .none := by
    have y := Heap.get?_push_size (s.heap.push o) (o := { cls := .type "enumerate", data := .fields #[.none, .bool false, .ref s.heap.objs.size, rawInt 0, .none, .none] }) rfl
    rw [z] at y; exact y
  exact ⟨⟨_, he, rfl⟩, h _ he (Heap.get?_push_of_some _ (Heap.get?_push_size _ B.free)) fun b o x => Heap.get?_push_of_some _ (Heap.get?_push_of_some _ x)⟩
/-- the tuple at a, each item in a new pair -/
def ItT (K : PySem.W.Frag) (a : Addr) : It :=
  ⟨fun i H => ∃ (xs : List V) (x : V), SqT K H a xs ∧ xs[i]? = some x, fun i H v H' => ∃ T x, v = .ref T ∧ H T = none ∧ H' = upd H T (.tup [.int (i : Nat), x]) ∧ ∀ xs, SqT K H a xs → xs[i]? = some x, fun i H => ∃ xs : List V, SqT K H a xs ∧ xs.length = i⟩
theorem turn_eT {P : Program} {w : World} {K : PySem.W.Frag} {elts : List Expr} {kk : Nat} {tpos : Pos} (a e it : Addr) :
    Turn P w K (.Tuple elts kk tpos) (ItT K a) [e, it] e (fun i h => (∃ old, IsEnum h e it ((i : Nat) : Int) old) ∧ h.IsTupleIter it a i ∧ e ≠ it ∧ a ≠ it ∧ e ≠ a) where
  mem := List.mem_cons_self
  obj := fun i h st b hb => by
    obtain ⟨⟨old, he⟩, ⟨o, ho, hc, hd⟩, _⟩ := st
    rcases List.mem_cons.mp hb with z | z
    · subst z; exact ⟨_, he, fun v q => nomatch q⟩
    · obtain rfl := List.mem_singleton.mp z
      exact ⟨o, ho, fun v q => by rw [hd] at q; cases q⟩
  keep := fun i h h' st k => let ⟨⟨old, he⟩, hi, hne⟩ := st; ⟨⟨old, k e (by simp) _ he⟩, hi.at fun o q => k it (by simp) o q, hne⟩
  item := by
    intro X hP hw hK hc i pins s σ H E I hf st hg
    subst hP hw hK
    obtain ⟨⟨old, he⟩, hit, hne, hai, hea⟩ := st
    obtain ⟨xs, x, hq, hx⟩ := hg
    obtain ⟨its, rv, p, hz⟩ := I.tuple hq
    obtain ⟨u, hu, ru⟩ := rv.get hx
    have hel : e < s.heap.objs.size := Heap.lt_size he
    have hil : it < s.heap.objs.size := by obtain ⟨_, q, _⟩ := hit; exact Heap.lt_size q
    have hi : i < its.toArray.size := by
      have := (List.getElem?_eq_some_iff.mp hu).1
      simpa using this
    refine wpAny_pyNext_enum_itemD (Draws.tuple (A := X.A.in1) (I.ok.hd hc) it a hai its.toArray) he ⟨hit, p⟩ hi hne (by simp [hne, hea]) fun y h' tk hy ho st' hT hsz hk => ?_
    have ey : y = u := by
      have : its[i]? = some y := by simpa using hy
      rw [hu] at this
      exact (Option.some.inj this).symm
    subst ey
    refine ⟨_, rfl, wpAny_letOwnedTupleGo_enum (s := { s with heap := h', toks := tk + 1 }) ho fun h'' he' sb => ?_⟩
    have hT2 : h''.get? s.heap.objs.size = some { cls := .type "tuple", data := .seq #[.int i tk, y] } := (sb.2 _ (Nat.ne_of_gt hel)).trans hT
    have new : ObjOk X.prog X.w (upd H s.heap.objs.size (.tup [.int (i : Nat), x])) h'' s.heap.objs.size (.tup [.int (i : Nat), x]) :=
      ⟨by show 2 ≤ sizeLine; decide, [.int i tk, y], .cons ⟨_, rfl⟩ (.cons ru .nil), ⟨_, hT2, rfl, _, rfl⟩⟩
    have I1 : Inv X pins σ (upd H s.heap.objs.size (.tup [.int (i : Nat), x])) { s with heap := h'', toks := tk + 1 } :=
      I.turnedNew (ch := [e, it]) (fun b ob hb q => (sb.2 b (fun z => hb (by simp [z]))).trans (hk b ob (fun z => hb (by simp [z])) (fun z => hb (by simp [z])) q)) hf (Nat.le_refl _) new
    refine ⟨.ref s.heap.objs.size, _, I1, rfl, ⟨_, x, rfl, I.hok.fresh (Nat.le_refl _), rfl, fun ys hy2 => by rw [I.tuple_inj hy2 hq]; exact hx⟩, ⟨⟨y, ?_⟩, st'.1.at fun o q => (sb.2 it (Ne.symm hne)).trans q, hne, hai, hea⟩, fun b hb => ?_⟩
    · have e1 : ((i + 1 : Nat) : Int) = (i : Int) + 1 := by omega
      rw [e1]; exact he'
    · have hb' : b < s.heap.objs.size := by
        rcases List.mem_cons.mp hb with z | z
        · subst z; exact hel
        · obtain rfl := List.mem_singleton.mp z
          exact hil
      rw [upd_ne (Nat.ne_of_lt hb')]
      exact (hf b hb).1
  done := by
    intro X hP hw hK hc i pins s σ H E I hf st hg
    subst hP hw hK
    obtain ⟨⟨old, he⟩, hit, hne, hai, hea⟩ := st
    obtain ⟨xs, hq, hx⟩ := hg
    obtain ⟨its, rv, p, hz⟩ := I.tuple hq
    obtain ⟨f0, f1, f2, f3, f4, f5⟩ := hf it (by simp)
    have hl := rv.length
    have ei : i = its.toArray.size := by simp; omega
    subst ei
    exact wpAny_pyNext_enum_endD (Draws.tuple (A := X.A.in1) (I.ok.hd hc) it a hai its.toArray) he ⟨hit, p⟩ fun h' eb => ⟨rfl, I.turned (t' := s.toks) (fun b o hb q => eb b o hb q) f0 f1 f3 f4 f5⟩
  self := fun A i s Q E st h => let ⟨⟨_, he⟩, _⟩ := st; wpAny_pyIter_enum he h
def iEnT (K : PySem.W.Frag) (ta : TA) : TI := fun σ H R => ta σ H fun vs H1 => ∃ a xs, vs = [.ref a] ∧ SqT K H1 a xs ∧ R (ItT K a) H1
theorem pi_enT {X : Cx} {e : Expr} {ta : TA} {p pos tpos : Pos} {elts : List Expr} {kk : Nat} (hg : Gl X "enumerate") (hm : X.mg "enumerate" = none) (ha : PA X [e] ta) (hs : starEach [e] X.env = [(false, eval e X.env)] := by rfl) :
    PI X (.Tuple elts kk tpos) (.Call (.Name "enumerate" p) [e] [] pos) (iEnT X.K ta) := by
  constructor
  intro pins s σ H R I h
  refine Call_ (ld_blt I hg hm boot_enumerate (PyProof.Rows.callWith_type1 (thn (ha.run pos pins s σ H _ I h) ?_) hs rfl))
  rintro us s1 ⟨vs, H1, I1, r1, a, xs, rfl, hq, q⟩
  cases r1 with
  | cons r rr =>
    cases rr; cases r
    obtain ⟨its, rv, p', hz⟩ := I1.tuple hq
    have hal : a < s1.heap.objs.size := by obtain ⟨o, ho, _⟩ := p'; exact Heap.lt_size ho
    refine enum_call1 (begins_tuple a its.toArray) p' fun h' he hit hk => wpAny_pyIter_enum he ?_
    refine ⟨s1.heap.objs.size + 1, [s1.heap.objs.size + 1, s1.heap.objs.size], _, _, H1, rfl, I1.kept (t' := s1.toks) hk, turn_eT a (s1.heap.objs.size + 1) s1.heap.objs.size, ⟨⟨.none, he⟩, ⟨_, hit, rfl, rfl⟩, Nat.succ_ne_self _, Nat.ne_of_lt hal, fun z => ?_⟩, fun b hb => ?_, q⟩
    · exact absurd hal (by rw [← z]; exact Nat.not_lt.mpr (Nat.le_succ _))
    · have hle : s1.heap.objs.size ≤ b := by
        rcases List.mem_cons.mp hb with z | z
        · rw [z]; exact Nat.le_succ _
        · rw [List.mem_singleton.mp z]; exact Nat.le_refl _
      exact Inv.fpOk (I1.kept (t' := s1.toks) (h' := s1.heap) fun b o z => z) hle (I1.hok.fresh hle)
/-! ### the two as sources, pairs as targets -/
def enD (ds : List D) : List D := (List.range ds.length).map fun i => D.tup [.int (i : Nat), ds.getD i .non]
theorem enD_len (ds : List D) : (enD ds).length = ds.length := by unfold enD; simp
theorem enD_at {ds : List D} {i : Nat} {d : D} (h : (enD ds)[i]? = some d) : i < ds.length ∧ ∃ x, ds[i]? = some x ∧ d = .tup [.int (i : Nat), x] := by
  unfold enD at h
  rw [List.getElem?_map] at h
  by_cases q : i < ds.length
  · rw [List.getElem?_range q] at h
    refine ⟨q, ds[i], by simp [q], ?_⟩
    simp [q] at h
    exact h.symm
  · rw [List.getElem?_eq_none (by simpa using Nat.le_of_not_lt q)] at h
    cases h
section
variable {X : Cx} {γ : List Sl} {e a b : Expr} {es : List Expr} {d x y : D} {ds : List D} {pos pn tpos : Pos} {elts : List Expr} {kk : Nat}
theorem feeds_eT {K : PySem.W.Frag} {Hs : Hp} {l : Addr} {vs : List V} (h1 : SqT K Hs l vs) (r : Reps K Hs vs ds) : Feeds K (ItT K l) (enD ds) Hs := fun Hs' H' s1 s2 => by
  have q := sqT_mono (s1.trans s2) h1
  refine ⟨fun i d hd => ?_, vs, q, by rw [enD_len]; exact r.length⟩
  obtain ⟨hi, x, hx, rfl⟩ := enD_at hd
  obtain ⟨v, hv, rv⟩ := r.get hx
  refine ⟨⟨vs, v, q, hv⟩, fun u H'' z => ?_⟩
  obtain ⟨T, w, rfl, hT, rfl, hw⟩ := z
  have e2 := hw vs q
  rw [hv] at e2
  cases e2
  have g := Gr.new s2 hT (o := .tup [.int (i : Nat), v])
  exact ⟨_, g, .tup (SqT.of upd_same) (.cons (.int _) (.cons ((rv.mono s1).mono g.sh) .nil))⟩
theorem feeds_eL {K : PySem.W.Frag} {Hs : Hp} {l : Addr} {vs : List V} (h1 : SqL K Hs l vs) (r : Reps K Hs vs ds) : Feeds K (Ite K l) (enD ds) Hs := fun Hs' H' s1 s2 => by
  have q := sqL_mono (s1.trans s2) h1
  refine ⟨fun i d hd => ?_, vs, q, Nat.le_of_eq (by rw [enD_len]; exact r.length)⟩
  obtain ⟨hi, x, hx, rfl⟩ := enD_at hd
  obtain ⟨v, hv, rv⟩ := r.get hx
  refine ⟨⟨vs, v, q, hv⟩, fun u H'' z => ?_⟩
  obtain ⟨T, w, rfl, hT, rfl, hw⟩ := z
  have e2 := hw vs q
  rw [hv] at e2
  cases e2
  have g := Gr.new s2 hT (o := .tup [.int (i : Nat), v])
  exact ⟨_, g, .tup (SqT.of upd_same) (.cons (.int _) (.cons ((rv.mono s1).mono g.sh) .nil))⟩
theorem it_enL (h : PD X γ e (.lst ds)) (hm : X.mg "enumerate" = none) (hg : Gl X "enumerate" := by rfl) (hs : starEach [e] X.env = [(false, eval e X.env)] := by rfl) : PDIt X γ (.Tuple elts kk tpos) (.Call (.Name "enumerate" pn) [e] [] pos) (enD ds) :=
  ⟨iEnum X.K (wA X [e]), pi_enum hg hm (wA_ok _) hs, fun σ Hs H R s E k => pa_cons h pa_nil hs σ Hs H _ s E fun vs Hs' H' g r => by
    cases r with
    | cons r1 rn =>
      cases rn
      cases r1 with
      | lst h1 r1 => exact ⟨_, _, rfl, SqL.of (g.sub _ _ h1), k _ Hs' H' g (feeds_eL (SqL.of h1) r1)⟩⟩
theorem it_enT (h : PD X γ e (.tup ds)) (hm : X.mg "enumerate" = none) (hg : Gl X "enumerate" := by rfl) (hs : starEach [e] X.env = [(false, eval e X.env)] := by rfl) : PDIt X γ (.Tuple elts kk tpos) (.Call (.Name "enumerate" pn) [e] [] pos) (enD ds) :=
  ⟨iEnT X.K (wA X [e]), pi_enT hg hm (wA_ok _) hs, fun σ Hs H R s E k => pa_cons h pa_nil hs σ Hs H _ s E fun vs Hs' H' g r => by
    cases r with
    | cons r1 rn =>
      cases rn
      cases r1 with
      | tup h1 r1 => exact ⟨_, _, rfl, sqT_mono g.sub h1, k _ Hs' H' g (feeds_eT h1 r1)⟩⟩
/-- a, b = a pair -/
theorem pg_tup2 {t1 t2 : Expr} {γ1 γ2 : List Sl} {j1 j2 : List Nat} (h1 : PDG X γ t1 x γ1 j1) (h2 : PDG X γ1 t2 y γ2 j2) (hc : X.calm = true := by rfl) (hn : (assignEach [t1, t2] X.env).length = 2 := by rfl) (hst : (assignEach [t1, t2] X.env).findIdx? (·.1) = none := by rfl)
    (hs1 : (assignEach [t1, t2] X.env).map (·.2) = assign t1 X.env :: (assignEach [t2] X.env).map (·.2) := by rfl) (hs2 : (assignEach [t2] X.env).map (·.2) = assign t2 X.env :: (assignEach [] X.env).map (·.2) := by rfl) :
    PDG X γ (.Tuple [t1, t2] kk tpos) (.tup [x, y]) γ2 (j1 ++ j2) := fun Hs0 H0 Hr Hs H σ v Q t r k => by
  refine wG_of (pg_tup hc (pgs_cons (wG_ok t1) (pgs_cons (wG_ok t2) pgs_nil hs2) hs1) hn hst) ?_
  cases r with
  | tup q r =>
    cases r with
    | @cons u1 _ _ _ r1 rn =>
      cases rn with
      | @cons u2 _ _ _ r2 rn =>
        cases rn
        refine ⟨_, [u1, u2], rfl, sqT_mono t.sub q, rfl, u1, [u2], rfl, h1 Hs0 H0 Hr Hs H σ u1 _ t r1 fun σ1 Hs1 H1 t1 g1 l1 o1 => ?_⟩
        refine ⟨u2, [], rfl, h2 Hs0 H0 Hr Hs1 H1 σ1 u2 _ t1 (r2.mono g1.sh) fun σ2 Hs2 H2 t2 g2 l2 o2 => ?_⟩
        exact ⟨rfl, k σ2 Hs2 H2 t2 (g1.trans g2) (l2.trans l1) fun i hi => by
          rw [o2 i (fun z => hi (List.mem_append_right _ z)), o1 i (fun z => hi (List.mem_append_left _ z))]⟩
end
end Pd
end

section
set_option Elab.async false
set_option linter.all false
set_option maxRecDepth 100000
set_option maxHeartbeats 4000000
set_option autoImplicit false
namespace Pd
open PySem PySem.Spec PyProof.Rows L2
/-! ### len(set(t)), t a tuple of ints -/
/-- how many numbers are in the list, each once -/
def kinds : List Int → List Int
  | [] => []
  | a :: r => if a ∈ r then kinds r else a :: kinds r
theorem kinds_mem : ∀ {l : List Int} {x : Int}, x ∈ kinds l ↔ x ∈ l
  | [], x => Iff.rfl
  | a :: r, x => by
    unfold kinds
    by_cases h : a ∈ r
    · rw [if_pos h, kinds_mem, List.mem_cons]
      exact ⟨Or.inr, fun z => z.elim (fun e => by rw [e]; exact h) id⟩
    · rw [if_neg h, List.mem_cons, List.mem_cons, kinds_mem]
theorem kinds_nd : ∀ l : List Int, (kinds l).Nodup
  | [] => List.nodup_nil
  | a :: r => by
    unfold kinds
    by_cases h : a ∈ r
    · rw [if_pos h]; exact kinds_nd r
    · rw [if_neg h]; exact List.nodup_cons.mpr ⟨fun z => h (kinds_mem.mp z), kinds_nd r⟩
theorem nd_le : ∀ {a b : List Int}, a.Nodup → (∀ x ∈ a, x ∈ b) → a.length ≤ b.length
  | [], b, _, _ => Nat.zero_le _
  | x :: r, b, n, h => by
    obtain ⟨n1, n2⟩ := List.nodup_cons.mp n
    have hx := h x List.mem_cons_self
    have q := nd_le (a := r) (b := b.erase x) n2 fun y hy => (List.mem_erase_of_ne (fun z => n1 (by rw [← z]; exact hy))).mpr (h y (List.mem_cons_of_mem _ hy))
    rw [List.length_erase_of_mem hx] at q
    have := List.length_pos_of_mem hx
    rw [List.length_cons]; omega
theorem nd_eq {a b : List Int} (h1 : a.Nodup) (h2 : b.Nodup) (h : ∀ x, x ∈ a ↔ x ∈ b) : a.length = b.length := Nat.le_antisymm (nd_le h1 fun x hx => (h x).mp hx) (nd_le h2 fun x hx => (h x).mpr hx)
def tLS (K : PySem.W.Frag) (ta : TE) : TE := fun σ H Q => ta σ H fun x H1 => ∃ (l : Addr) (ns : List Int), x = V.ref l ∧ SqT K H1 l (ns.map V.int) ∧ ns.length ≤ 4000 ∧ Q (.int (kinds ns).length) H1
theorem pe_lenS {X : Cx} {a : Expr} {ta : TE} {p p2 q pos : Pos} (hg : Gl X "len") (hm : X.mg "len" = none) (hg2 : Gl X "set") (hm2 : X.mg "set" = none) (ha : PE X a ta) (hc : X.calm = true := by rfl)
    (na : starEach [a] X.env = (false, eval a X.env) :: starEach [] X.env := by rfl) : PE X (.Call (.Name "len" p) [.Call (.Name "set" p2) [a] [] q] [] pos) (tLS X.K ta) := by
  refine ⟨fun pins s σ H Q I h => Call_ (ld_blt I hg hm boot_len (PyProof.Rows.callWith_builtin1 (PyProof.Rows.args_cons (Call_ (ld_blt I hg2 hm2 boot_set (PyProof.Rows.callWith_type1 (PyProof.Rows.args_cons (thn (ha.run pins s σ H _ I h) ?_) na) na rfl))) rfl) rfl rfl))⟩
  rintro v s1 ⟨x, H1, I1, r1, l, ns, rfl, hq, hl, q1⟩
  cases r1
  obtain ⟨its, r, pl, hz⟩ := I1.tuple hq
  refine PyProof.Rows.args_nil (call_set_tupI ns (I1.ok.hd hc) pl (by simpa using intsAre_of r) (by unfold scanBound; omega) fun h' tk c hS hcn hk => PyProof.Rows.args_nil ?_)
  obtain ⟨o, es, ep, t, ho, hex, hd, _, hnd, hmem, _, hf, hn, _⟩ := hS
  have I2 : Inv X pins σ H1 { s1 with heap := h', toks := tk } := I1.kept hk
  have e : es.size = (kinds ns).length := by
    have z := nd_eq hnd (kinds_nd ns) fun x => by
      rw [kinds_mem, ← hmem x]
      exact decide_eq_true_iff
    rw [← z, List.length_map, Array.length_toList]
  exact call_len_set ho hex hd hf (by rw [hn]; omega) ⟨.int (kinds ns).length, H1, I2.tok _, ⟨_, by rw [e]⟩, q1⟩
theorem pd_lenS2 {X : Cx} {γ : List Sl} {a : Expr} {ns : List Int} {p p2 q pos : Pos} (h : PD X γ a (.tup (ns.map .int))) (hz : ns.length ≤ 4000) (hm : X.mg "len" = none) (hm2 : X.mg "set" = none) (hg : Gl X "len" := by rfl) (hg2 : Gl X "set" := by rfl) (hc : X.calm = true := by rfl)
    (na : starEach [a] X.env = (false, eval a X.env) :: starEach [] X.env := by rfl) : PD X γ (.Call (.Name "len" p) [.Call (.Name "set" p2) [a] [] q] [] pos) (.int ((kinds ns).length : Nat)) := fun σ Hs H Q s E kk =>
  wE_of (pe_lenS hg hm hg2 hm2 (wE_ok a) hc na) (h σ Hs H _ s E fun v Hs' H' g r => by
    cases r with
    | tup h1 r1 =>
      have ev := r1.ints
      subst ev
      exact ⟨_, ns, rfl, sqT_mono g.sub h1, hz, kk _ Hs' H' g (.int _)⟩)
section
variable {X : Cx} {γ : List Sl} {e : Expr} {x : D} {ds : List D} {pos pn tpos : Pos} {elts : List Expr} {kk : Nat}
theorem it_en (h : PD X γ e x) (hx : x = .lst ds ∨ x = .tup ds) (hm : X.mg "enumerate" = none) (hg : Gl X "enumerate" := by rfl) (hs : starEach [e] X.env = [(false, eval e X.env)] := by rfl) : PDIt X γ (.Tuple elts kk tpos) (.Call (.Name "enumerate" pn) [e] [] pos) (enD ds) := by
  rcases hx with rfl | rfl
  · exact it_enL h hm hg hs
  · exact it_enT h hm hg hs
theorem pd_tupleX (h : PD X γ e x) (hx : x = .lst ds ∨ x = .tup ds) (hm : X.mg "tuple" = none) (hg : Gl X "tuple" := by rfl) (he : starEach [e] X.env = (false, eval e X.env) :: starEach [] X.env := by rfl) : PD X γ (.Call (.Name "tuple" pn) [e] [] pos) (.tup ds) := by
  rcases hx with rfl | rfl
  · exact pd_tupleL h hm hg he
  · exact pd_tupleT h hm hg he
theorem len_x (hx : x = .lst ds ∨ x = .tup ds) {n : Nat} (hn : n = ds.length) : (∃ ds, x = .lst ds ∧ n = ds.length) ∨ (∃ ds, x = .rol ds ∧ n = ds.length) ∨ (∃ ds, x = .tup ds ∧ n = ds.length) := by
  rcases hx with rfl | rfl
  · exact .inl ⟨_, rfl, hn⟩
  · exact .inr (.inr ⟨_, rfl, hn⟩)
end
end Pd
end

section
set_option Elab.async false
set_option linter.all false
set_option maxRecDepth 100000
set_option maxHeartbeats 4000000
set_option autoImplicit false
namespace Pd
open PySem PySem.Spec PyProof.Rows L2
/-! ### methods of a thing's class -/
structure DM (P : Program) (w : World) (K : PySem.W.Frag) (mg : Str → Option Value) (base : Heap) (k : Nat) (C : Addr) (m : Str) (sp : Sp) : Prop where
  ex : ∃ f fd ps, FnOk P w K mg base CX0 k f fd ps sp ∧ Meth K C m f ∧ Binds K fd ps []
structure DMX (P : Program) (w : World) (K : PySem.W.Frag) (mg : Str → Option Value) (base : Heap) (k : Nat) (C : Addr) (m : Str) (sp : Sp) : Prop where
  ex : ∃ f fd ps, FnOk P w K mg base (L2.CX P w) k f fd ps sp ∧ Meth K C m f ∧ Binds K fd ps []
section
variable {X : Cx} {γ : List Sl} {o e : Expr} {es : List Expr} {d : D} {ds zs : List D} {pos pn apos : Pos} {k : Nat} {m : Str} {C CE : Addr} {fs gs : List (Str × D)} {pl : Sem Bool}
theorem rep_obj {K : PySem.W.Frag} {Hs : Hp} {v : V} (r : Rep K Hs v (.obj C fs)) (hn : fs.lookup m = none) : ∃ a dx vs, v = .ref a ∧ Hs a = some (.ins C dx vs) ∧ vs.lookup m = none := by
  cases r with
  | obj h1 r1 => exact ⟨_, _, _, rfl, h1, r1.none_of hn⟩
theorem pd_m0 {G : List D → D → Prop} (F : DM X.prog X.w X.K X.mg X.base k C m (spD X.K G)) (cl : Cls X.K C) (hr : Room k X.A) (h : PD X γ o (.obj C fs)) (hG : G [.obj C fs] d) (hn : fs.lookup m = none := by rfl)
    (ht : eval (.Call (.Attribute o m apos) [] [] pos) X.env = (do
      let ov ← eval o X.env
      standAt apos.atName
      let (f, first) ← holding [ov] (getMethod ov m pl)
      callWith pos f first (backTo pos (starEach [] X.env)) (backToKw pos (keywordEach [] X.env))) := by rfl) : PD X γ (.Call (.Attribute o m apos) [] [] pos) d := fun σ Hs H Q s E kk => by
  obtain ⟨f, fd, ps, a, b, c⟩ := F.ex
  refine wE_of (pe_meth0 (wE_ok o) cl b a hr c .nil pass0 ht) (h σ Hs H _ s E fun v Hs' H' g r => ?_)
  obtain ⟨p, dx, vs, rfl, h1, h2⟩ := rep_obj r hn
  exact ⟨p, dx, vs, rfl, g.sub _ _ h1, h2, ⟨Hs', _, d, g.sub, .cons r .nil, hG, fun v Hs2 H2 g2 r2 => kk v Hs2 H2 (g.trans g2) r2⟩⟩
theorem pn_m0 {G : List D → List D → Prop} (F : DM X.prog X.w X.K X.mg X.base k C m (spN X.K G)) (cl : Cls X.K C) (hr : Room k X.A) (h : PD X γ o (.obj C fs)) (hG : G [.obj C fs] zs) (hn : fs.lookup m = none := by rfl)
    (ht : eval (.Call (.Attribute o m apos) [] [] pos) X.env = (do
      let ov ← eval o X.env
      standAt apos.atName
      let (f, first) ← holding [ov] (getMethod ov m pl)
      callWith pos f first (backTo pos (starEach [] X.env)) (backToKw pos (keywordEach [] X.env))) := by rfl) : PN X γ (.Call (.Attribute o m apos) [] [] pos) zs := fun σ Hs H Q s E kk => by
  obtain ⟨f, fd, ps, a, b, c⟩ := F.ex
  refine wE_of (pe_meth0 (wE_ok o) cl b a hr c .nil pass0 ht) (h σ Hs H _ s E fun v Hs' H' g r => ?_)
  obtain ⟨p, dx, vs, rfl, h1, h2⟩ := rep_obj r hn
  exact ⟨p, dx, vs, rfl, g.sub _ _ h1, h2, ⟨Hs', _, zs, g.sub, .cons r .nil, hG, fun l us Hs2 H2 g2 q1 q2 q3 r2 => kk l us Hs2 H2 (g.trans g2) (g.ext.free q1) q2 q3 r2⟩⟩
theorem pd_m {G : List D → D → Prop} (F : DM X.prog X.w X.K X.mg X.base k C m (spD X.K G)) (cl : Cls X.K C) (hr : Room k X.A) (h : PD X γ o (.obj C fs)) (ha : PDA X γ (e :: es) ds) (hG : G (.obj C fs :: ds) d) (hn : fs.lookup m = none := by rfl)
    (hst : starEach (e :: es) X.env = (false, eval e X.env) :: starEach es X.env := by rfl) (hpl : (backTo pos (starEach es X.env)).any (·.1) = false := by rfl)
    (ht : eval (.Call (.Attribute o m apos) (e :: es) [] pos) X.env = (do
      let ov ← eval o X.env
      standAt apos.atName
      let (f, first) ← holding [ov] (getMethod ov m pl)
      callWith pos f first (backTo pos (starEach (e :: es) X.env)) (backToKw pos (keywordEach [] X.env))) := by rfl) : PD X γ (.Call (.Attribute o m apos) (e :: es) [] pos) d := fun σ Hs H Q s E kk => by
  obtain ⟨f, fd, ps, a, b, c⟩ := F.ex
  refine wE_of (pe_meth (wE_ok o) cl b a hr c .nil pass0 (wA_ok _) hst hpl ht) (h σ Hs H _ s E fun v Hs' H' g r => ?_)
  obtain ⟨p, dx, vs, rfl, h1, h2⟩ := rep_obj r hn
  refine ⟨p, dx, vs, rfl, g.sub _ _ h1, h2, ha σ Hs' H' _ g.sub (E.mono g.sh) fun us Hs2 H2 g2 r2 => ?_⟩
  rw [List.append_nil]
  exact ⟨Hs2, _, d, g2.sub, .cons (r.mono g2.sh) r2, hG, fun v Hs3 H3 g3 r3 => kk v Hs3 H3 ((g.trans g2).trans g3) r3⟩
end
/-! ### texts: order, ord, their signs -/
section
variable {X : Cx} {γ : List Sl} {e a b : Expr} {es : List Expr} {d x y : D} {ds : List D} {pos pn : Pos} {u v : Str}
def leS (u v : Str) : Bool := !decide (v.cps.toList < u.cps.toList)
theorem rd_leS {K : PySem.W.Frag} : RVD K (fun x y H Q => ∃ i j : Str, x = .str i ∧ y = .str j ∧ Q (.bl (!decide (j.cps.toList < i.cps.toList))) H) (.str u) (.str v) (.bl (leS u v)) := fun Hs H _ _ Q s r1 r2 k => by
  cases r1; cases r2
  exact ⟨u, v, rfl, rfl, k _ _ _ (Gr.refl s) (.bl _)⟩
theorem pd_ord (h : PD X γ e (.str u)) (h1 : u.length = 1) (hm : X.mg "ord" = none) (hg : Gl X "ord" := by rfl) (he : starEach [e] X.env = (false, eval e X.env) :: starEach [] X.env := by rfl) : PD X γ (.Call (.Name "ord" pn) [e] [] pos) (.int (u.cps.getD 0 0 : Nat)) :=
  pd_cb call_ord (rc_one fun Hs H v Q s r k => by
    cases r
    exact ⟨_, rfl, h1, k _ Hs H (Gr.refl s) (.int _)⟩) hg hm (by decide +kernel) (pa_cons h pa_nil he) (by decide) (by decide) he rfl
def sgn (u : Str) : List D := u.cps.toList.map fun c => D.str ⟨#[c]⟩
theorem sgn_at {u : Str} {i : Nat} {d : D} (h : (sgn u)[i]? = some d) : ∃ c, u.cps[i]? = some c ∧ d = .str ⟨#[c]⟩ := by
  unfold sgn at h
  rw [List.getElem?_map] at h
  cases e : u.cps.toList[i]? with
  | none => rw [e] at h; cases h
  | some c =>
    rw [e] at h
    exact ⟨c, by rw [← Array.getElem?_toList]; exact e, (Option.some.inj h).symm⟩
theorem it_s (h : PD X γ e (.str u)) : PDI X γ e (sgn u) := ⟨iStr (wE X e), fun tg => pi_str (wE_ok e), fun σ Hs H R s E k => h σ Hs H _ s E fun v Hs' H' g r => by
  cases r
  refine ⟨u, rfl, k _ Hs' H' g fun Hs2 H2 s1 s2 => ⟨fun i d hd => ?_, ?_⟩⟩
  · obtain ⟨c, hc, rfl⟩ := sgn_at hd
    refine ⟨(Array.getElem?_eq_some_iff.mp hc).1, fun w H3 z => ?_⟩
    obtain ⟨rfl, c2, hc2, rfl⟩ := z
    rw [hc] at hc2
    cases hc2
    exact ⟨Hs2, Gr.refl s2, .str _⟩
  · show u.cps.size ≤ (sgn u).length
    unfold sgn
    rw [List.length_map, Array.length_toList]
    exact Nat.le_refl _⟩
/-! ### a list as a test, tuple(range(n)) -/
theorem pt_lst (h : PD X γ e (.lst ds)) (he : ∀ whole, isTrue e X.env whole = (do let v ← whole; standAt e.pos; holding [v] (truthy v)) := by intro _; rfl) : PDT X γ e (!ds.isEmpty) := fun σ Hs H Q s E k =>
  wT_of (L2.pt_truth (wE_ok e) he) (h σ Hs H _ s E fun v Hs' H' g r => by
    cases r with
    | @lst a vs _ h1 r1 =>
      refine ⟨!ds.isEmpty, .inl ⟨vs, .inl (.inl (g.sub _ _ h1)), ?_⟩, k Hs' H' g⟩
      have := r1.length
      cases vs <;> cases ds <;> first | rfl | simp at this)
theorem reps_rg {K : PySem.W.Frag} {H : Hp} (a b : Int) : Reps K H (rgV a b) (rngD a (b - a).toNat) := by
  unfold rgV rngD
  generalize List.range (b - a).toNat = l
  induction l with
  | nil => exact .nil
  | cons x r ih => exact .cons (.int _) ih
theorem pd_tupRg {i : Int} {p2 p3 : Pos} (h : PD X γ a (.int i)) (h0 : 0 ≤ i) (h1 : i ≤ 1000000) (hm : X.mg "tuple" = none) (hm2 : X.mg "range" = none) (hg : Gl X "tuple" := by rfl) (hg2 : Gl X "range" := by rfl) (na : starEach [a] X.env = (false, eval a X.env) :: starEach [] X.env := by rfl) (hc : X.calm = true := by rfl)
    (nb : starEach [.Call (.Name "range" p2) [a] [] pn] X.env = (false, eval (.Call (.Name "range" p2) [a] [] pn) X.env) :: starEach [] X.env := by rfl) : PD X γ (.Call (.Name "tuple" p3) [.Call (.Name "range" p2) [a] [] pn] [] pos) (.tup (rngD 0 i.toNat)) := fun σ Hs H Q s E kk =>
  wE_of (pe_tupRg hc hg hm (prg_1 hg2 hm2 (wE_ok a) na) nb) (h σ Hs H _ s E fun v Hs' H' g r => by
    cases r
    refine ⟨i, rfl, RgOk.of_le (by decide) (by omega) (by decide) h0, ?_⟩
    have rr := reps_rg (K := X.K) (H := Hs') 0 i
    rw [show (i - 0).toNat = i.toNat by rw [Int.sub_zero]] at rr
    exact newT g.sub rr fun w Hs2 H2 g2 r2 => kk w Hs2 H2 (g.trans g2) r2)
end
end Pd
end

section
set_option Elab.async false
set_option linter.all false
set_option maxRecDepth 100000
set_option maxHeartbeats 4000000
set_option autoImplicit false
namespace Pd
open PySem PySem.Spec PyProof.Rows L2
/-! ### any slice, any sum of tuples -/
section
variable {X : Cx} {γ : List Sl} {a b : Expr} {ds es : List D} {pos p2 : Pos} {lo hi : Option Expr} {ol oh : Option Int}
theorem cut_whole {ds : List D} (h : HT.sIx ds.length 0 ol = 0 ∧ HT.sIx ds.length ds.length oh = ds.length) : Pd.cutD ds ol oh = ds := by
  unfold Pd.cutD
  rw [h.1, h.2, List.drop_zero, Nat.sub_zero, List.take_length]
theorem pd_slA (ha : PD X γ a (.tup ds)) (hl : PDO X γ lo ol) (hh : PDO X γ hi oh) : PD X γ (.Subscript a (.Slice lo hi none p2) pos) (.tup (Pd.cutD ds ol oh)) := fun σ Hs H Q s E k =>
  wE_of (pe_slice sl_tupA (wE_ok a) (tO_ok lo) (tO_ok hi)) (ha σ Hs H _ s E fun v Hs1 H1 g1 r1 => po_go hl g1.sub (E.mono g1.sh) fun Hs2 H2 g2 => po_go hh g2.sub (E.mono (g1.trans g2).sh) fun Hs3 H3 g3 => by
    cases r1 with
    | tup h1 r1 =>
      have s3 := g2.sh.trans g3.sh
      have g := (g1.trans g2).trans g3
      refine ⟨_, _, rfl, sqT_mono (s3.trans g3.sub) h1, fun hw => ?_, fun _ => newT g3.sub ((r1.mono s3).cut ol oh) fun w Hs4 H4 g4 r4 => k w Hs4 H4 (g.trans g4) r4⟩
      rw [r1.length] at hw
      exact k _ Hs3 H3 g (by rw [cut_whole hw]; exact .tup (sqT_mono s3 h1) (r1.mono s3)))
theorem reps_nil {K : PySem.W.Frag} {H : Hp} {vs : List V} {ds : List D} (r : Reps K H vs ds) : vs = [] ↔ ds = [] := by
  cases r <;> simp
theorem pd_catA (ha : PD X γ a (.tup ds)) (hb : PD X γ b (.tup es)) (hz : ds.length + es.length ≤ 100000) : PD X γ (.BinOp a .Add b pos) (.tup (ds ++ es)) :=
  pd_op op_catA (fun Hs H v u Q s r1 r2 k => by
    cases r1 with
    | tup t1 r1 =>
      cases r2 with
      | tup t2 r2 =>
        refine ⟨_, _, _, _, rfl, rfl, sqT_mono s t1, sqT_mono s t2, sz_of (by rw [r1.length, r2.length]; exact hz), fun z => ?_, fun _ z => ?_, fun _ _ => newT s (r1.append r2) k⟩
        · have e := (reps_nil r1).mp z
          subst e
          exact k _ _ _ (Gr.refl s) (.tup t2 r2)
        · have e := (reps_nil r2).mp z
          subst e
          exact k _ _ _ (Gr.refl s) (by rw [List.append_nil]; exact .tup t1 r1)) ha hb
end
end Pd
end

section
set_option Elab.async false
set_option linter.all false
set_option maxRecDepth 100000
set_option maxHeartbeats 4000000
set_option autoImplicit false
namespace Pd
open PySem PySem.Spec PyProof.Rows L2
/-! ### t[::-1] -/
theorem adj_rev (n : Nat) : Builtin.Slice.sliceAdjust none none (-1) (n : Int) = ((n : Int) - 1, -1) := by
  unfold Builtin.Slice.sliceAdjust
  simp
theorem pl_rev (n : Nat) : Builtin.Slice.slicePlaces ((n : Int) - 1) (-1) (-1) = n := by
  unfold Builtin.Slice.slicePlaces
  simp
  split <;> omega
section
variable {prog : Program} {w : World} {A : Around} {E : Value → Shared → Prop} {s : Shared}
theorem sa_rev {sl : Addr} {vs : Value} {n : Nat} {Q : Int × Int × Nat → Shared → Prop} (hs : s.heap.IsSliceOf sl .none .none vs) (ps : IsPart vs (some (-1))) (h : Q ((n : Int) - 1, -1, n) s) : wpAny (model prog w) A (Builtin.Slice.sliceApplied (.ref sl) (pure (n : Int))) Q E s := by
  obtain ⟨os, hos, hcs, hds⟩ := id hs
  unfold Builtin.Slice.sliceApplied Builtin.Slice.sliceFields
  refine wpAny_bind (wpAny_bind (wpAny_field hos hds (x := .none) rfl (wpAny_bind (wpAny_field hos hds (x := .none) rfl (wpAny_bind (wpAny_field hos hds (x := vs) rfl (wpAny_pure ?_)))))))
  refine wpAny_bind (HT.slicePart_ ps ?_)
  show wpAny _ _ (if ((-1 : Int) == 0) = true then _ else _) _ _ s
  rw [if_neg (by decide)]
  refine wpAny_bind (HT.slicePart_ .none (wpAny_bind (HT.slicePart_ .none (wpAny_bind (wpAny_pure ?_)))))
  show wpAny _ _ (match Builtin.Slice.sliceAdjust none none (-1) (n : Int) with | (lo, hi) => pure (lo, (-1 : Int), Builtin.Slice.slicePlaces lo hi (-1))) _ _ s
  rw [adj_rev n]
  show wpAny _ _ (pure (((n : Int) - 1), (-1 : Int), Builtin.Slice.slicePlaces ((n : Int) - 1) (-1) (-1))) _ _ s
  rw [pl_rev]
  exact wpAny_pure h
theorem pick_rev (xs : Array Value) : ((List.range xs.size).filterMap fun (m : Nat) => xs[(((xs.size : Int) - 1) + (m : Int) * (-1)).toNat]?).toArray = xs.toList.reverse.toArray := by
  congr 1
  apply List.ext_getElem?
  intro i
  have key : ∀ l : List Nat, (∀ m ∈ l, m < xs.size) → (l.filterMap fun (m : Nat) => xs[(((xs.size : Int) - 1) + (m : Int) * (-1)).toNat]?) = l.map fun m => xs.toList.reverse.getD m .none := by
    intro l
    induction l with
    | nil => intro _; rfl
    | cons a r ih =>
      intro h
      have ha := h a List.mem_cons_self
      have e : (((xs.size : Int) - 1) + (a : Int) * (-1)).toNat = xs.size - 1 - a := by omega
      have hb : xs.size - 1 - a < xs.size := by omega
      rw [List.filterMap_cons, e, Array.getElem?_eq_getElem hb, List.map_cons, ih fun m hm => h m (List.mem_cons_of_mem _ hm)]
      congr 1
      rw [List.getD_eq_getElem?_getD, List.getElem?_reverse (by simpa using ha), Array.length_toList, Array.getElem?_toList, Array.getElem?_eq_getElem hb] <;> rfl
  rw [key _ fun m hm => List.mem_range.mp hm, List.getElem?_map]
  by_cases hi : i < xs.size
  · rw [List.getElem?_range hi]
    show some (xs.toList.reverse.getD i .none) = _
    rw [List.getD_eq_getElem?_getD, List.getElem?_eq_getElem (by simpa using hi)] <;> rfl
  · rw [List.getElem?_eq_none (by simpa using Nat.le_of_not_lt hi), List.getElem?_eq_none (by simpa using Nat.le_of_not_lt hi)] <;> rfl
theorem gi_rev {t sl : Addr} {items : Array Value} {vs : Value} {Q : Value → Shared → Prop} (ht : IsTup s.heap t items) (hs : s.heap.IsSliceOf sl .none .none vs) (ps : IsPart vs (some (-1)))
    (h : Q (.ref s.heap.objs.size) { s with heap := s.heap.push { cls := .type "tuple", data := .seq items.toList.reverse.toArray } }) (hz : items.size ≤ sizeLine) : wpAny (model prog w) A (getItem (.ref t) (.ref sl)) Q E s := by
  have hsz : sizeOk (.seq items.toList.reverse.toArray) := by
    show items.toList.reverse.toArray.size ≤ sizeLine
    rw [List.size_toArray, List.length_reverse, Array.length_toList]; exact hz
  obtain ⟨os, hos, hcs, hds⟩ := id hs
  have hTs : s.TypeIs (.ref sl) "slice" := ⟨os, hos, hcs⟩
  unfold getItem
  try with_reducible refine wpAny_holding ?_
  first | refine wpAny_bind (wpAny_pure ?_) | skip
  refine wpAny_bind (wpAny_sequenceKey ht.typeIs (by decide) (wpAny_bind (wpAny_callSpecial?_slot (name := Str.ofString "__getitem__") ht.typeIs PyProof.Rows.slot_tuple_getitem (wpAny_call_entry PyProof.Rows.slot_tuple_getitem ht.typeIs entry_tuple_getitem ?_ (args_tuple_getitem _ _)))))
  show wpAny _ _ (Builtin.Tuple.tupleItemsOf (.ref t) >>= _) _ _ s
  refine wpAny_bind (tupleItemsOf_ ht (wpAny_bind (wpAny_typeOf hTs ?_)))
  rw [if_pos (by decide)]; refine wpAny_bind (sa_rev hs ps ?_)
  have no : ¬ ((((items.size : Int) - 1) == 0 && (-1 : Int) == 1 && items.size == items.size) = true) := by
    rw [show ((-1 : Int) == 1) = false from by decide, Bool.and_false, Bool.false_and]; exact Bool.false_ne_true
  show wpAny _ _ (if (((items.size : Int) - 1) == 0 && (-1 : Int) == 1 && items.size == items.size) = true then _ else _) _ _ s
  rw [if_neg no, pick_rev items]
  first
    | exact wpAny_bind (m := Builtin.Tuple.tupleExact _) (wpAny_newObj_type (wpAny_pure ⟨_, rfl, wpAny_pure h⟩) hsz)
    | exact wpAny_bind (m := Builtin.Tuple.tupleExact _) (wpAny_newObj_type (wpAny_bind (wpAny_pure (wpAny_pure ⟨_, rfl, wpAny_pure h⟩))) hsz)
    | exact wpAny_bind (wpAny_bind (m := Builtin.Tuple.tupleExact _) (wpAny_newObj_type (wpAny_pure (wpAny_pure ⟨_, rfl, wpAny_pure h⟩)) hsz))
    | exact wpAny_bind (wpAny_bind (m := Builtin.Tuple.tupleExact _) (wpAny_newObj_type (wpAny_pure ⟨_, rfl, wpAny_pure h⟩) hsz))
end
def tRvT (K : PySem.W.Frag) (te : TE) : TE := fun σ H Q => te σ H fun x H1 => ∃ a xs, x = .ref a ∧ SqT K H1 a xs ∧ ∀ p, H1 p = none → Q (.ref p) (upd H1 p (.tup xs.reverse))
theorem pe_rvT {X : Cx} {e : Expr} {te : TE} {k : Nat} {p1 p2 p3 pos : Pos} (he : PE X e te) : PE X (.Subscript e (.Slice none none (some (.UnaryOp .USub (.Constant (.int 1) k p1) p2)) p3) pos) (tRvT X.K te) := by
  refine ⟨fun pins s σ H Q I h => Subscript_ (thn (he.run pins s σ H _ I h) ?_)⟩
  rintro v s1 ⟨x, H1, I1, r1, a, xs, rfl, hx, q⟩
  cases r1
  have hst : PO X (some (.UnaryOp .USub (.Constant (.int 1) k p1) p2)) (tPart (tUn (rU fun i => .int (-i)) (tC (.int 1)))) := po_some (pe_un un_neg pe_int)
  refine wpAny_Slice ?_
  rw [evalPart_none]
  refine wpAny_pure (wpAny_pure (thn (hst.run pins s1 σ H1 (fun o H4 => o = some (-1) ∧ H4 = H1) I1 ⟨1, rfl, -1, rfl, rfl, rfl⟩) ?_))
  rintro vs s4 ⟨o, H4, I4, ps, rfl, rfl⟩
  have I5 : Inv X pins σ H4 { s4 with heap := s4.heap.push { cls := .type "slice", data := .fields #[.none, .none, vs] } } := I4.kept (t' := s4.toks) fun b ob q => Heap.get?_push_of_some _ q
  obtain ⟨its, r, ht, hz⟩ := I5.tuple hx
  have hlen := r.length
  show wpAny (model X.prog X.w) X.A (subscriptTail e (.Slice none none (some (.UnaryOp .USub (.Constant (.int 1) k p1) p2)) p3) (.ref a) (.ref s4.heap.objs.size)) (EP X pins σ Q) X.xe { s4 with heap := s4.heap.push { cls := .type "slice", data := .fields #[.none, .none, vs] } }
  refine tail_any (ops := [.ref a, .ref s4.heap.objs.size]) ht.typeIs PyProof.Rows.slot_tuple_getitem.lookup (gi_rev ht (Heap.IsSliceOf.new _ .none .none vs) ps ?_ (by rw [List.size_toArray]; omega)) (by with_unfolding_all rfl)
  refine ⟨.ref _, _, I5.laid (t' := s4.toks) (o := .tup xs.reverse) (fun b ob q => Heap.get?_push_of_some _ q) (Nat.le_refl _) ?_, rfl, q _ (I5.hok.fresh (Nat.le_refl _))⟩
  refine ⟨by rw [List.length_reverse]; exact hz, its.reverse, r.reverse, ?_⟩
  exact IsTup.new _ _
theorem reps_rev {K : PySem.W.Frag} {H : Hp} : ∀ {vs : List V} {ds : List D}, Reps K H vs ds → Reps K H vs.reverse ds.reverse
  | _, _, .nil => .nil
  | v :: vs, d :: ds, .cons r t => by
    rw [List.reverse_cons, List.reverse_cons]
    exact (reps_rev t).append (.cons r .nil)
theorem pd_rvT {X : Cx} {γ : List Sl} {e : Expr} {ds : List D} {k : Nat} {p1 p2 p3 pos : Pos} (h : PD X γ e (.tup ds)) : PD X γ (.Subscript e (.Slice none none (some (.UnaryOp .USub (.Constant (.int 1) k p1) p2)) p3) pos) (.tup ds.reverse) := fun σ Hs H Q s E kk =>
  wE_of (pe_rvT (wE_ok e)) (h σ Hs H _ s E fun v Hs' H' g r => by
    cases r with
    | tup h1 r1 => exact ⟨_, _, rfl, sqT_mono g.sub h1, newT g.sub (reps_rev r1) fun w Hs2 H2 g2 r2 => kk w Hs2 H2 (g.trans g2) r2⟩)
end Pd
end

section
set_option Elab.async false
set_option linter.all false
set_option maxRecDepth 100000
set_option maxHeartbeats 4000000
set_option autoImplicit false
namespace Pd
open PySem PySem.Spec PyProof.Rows L2
/-! ### a class in a name of the def's own, called -/
section
variable {X : Cx} {γ : List Sl} {e : Expr} {es : List Expr} {d : D} {ds : List D} {pos pn : Pos} {k : Nat} {n : Str} {C CO : Addr} {fs : List (Str × D)}
theorem make_at0 {pins : List (Addr × Obj)} {σ : L2.St} {H : Hp} {s : Shared} {Q : VK} {us : List Value} {vs : List V} {fI : Addr} {fd : FuncData} {ps : List Str} {sp : Sp} (M : Mk X.K CO fI)
    (F : FnOk X.prog X.w X.K X.mg X.base CX0 k fI fd ps sp) (hr : Room (k + 1) X.A) (hb : Binds X.K fd ps []) (I : Inv X pins σ H s) (r : Vals vs us)
    (h : ∀ p dx, H p = none → H dx = none → dx ≠ p → sp (.ref p :: vs) (upd (upd H dx (.own p)) p (.ins CO dx [])) (fun v H2 => v = .non ∧ Q (.ref p) H2) (fun _ _ _ => False)) :
    wpAny (model X.prog X.w) X.A (call (.ref CO) us) (EP X pins σ Q) X.xe s := by
  let z := s.heap.objs.size
  have I2 := Inv.made (C := CO) I
  have hq := h (z + 1) z (I.hok.fresh (Nat.le_succ z)) (I.hok.fresh (Nat.le_refl z)) (Nat.ne_of_lt (Nat.lt_succ_self z))
  have rr : Vals (V.ref (z + 1) :: vs) (Value.ref (z + 1) :: us) := .cons rfl r
  have hl : (Value.ref (z + 1) :: us).length = ps.length := by
    have q := rr.length
    rw [F.len _ _ _ _ hq] at q
    exact q.symm
  have bd := hb _ (Value.ref (z + 1) :: us) I2.kIn (by rw [List.append_nil]; exact hl)
  rw [List.append_nil] at bd
  have run := F.run _ X.stack _ _ ⟨Value.ref (z + 1) :: us, []⟩ (Value.ref (z + 1) :: us) _ _ (fun _ _ _ => False) (hr.make CO us []) (I2.env0.make CO us []) bd rr hq
  refine wpAny_call (make_map (f := fI) I.kIn M.makes M.init (beq_iff_eq.mp M.fn) (codeAny_mono run fun res s' hq' => ?_))
  match res, hq' with
  | .error er, hq' => exact (pass0 (X := X)) pins σ _ _ er s' I2 hq'
  | .ok (.ret u), hq' =>
    obtain ⟨v, H', I3, rv, ev, q3⟩ := I2.after hq'
    subst ev
    exact ⟨rv, V.ref (z + 1), H', I3, rfl, q3⟩
  | .ok .next, hq' => exact hq'.elim
  | .ok .brk, hq' => exact hq'.elim
  | .ok .cont, hq' => exact hq'.elim
theorem pd_makeL {G : List D → List (Str × D) → Prop} (i : Nat) (F : DC X.prog X.w X.K X.mg X.base k n C G) {m : Str} (hs : γ[i]? = some (.sh (.adr C))) (hr : Room (k + 1) X.A) (ha : PDA X γ (e :: es) ds) (hG : G ds fs) (hN : X.N[i]? = some m := by rfl) (hv : Vis X.env.scope m := by first | exact Or.inl rfl | exact Or.inr (Or.inl rfl) | exact Or.inr (Or.inr rfl)) (hd : (m == ("__debug__" : Str)) = false := by decide) (hcd : (m == ("__classdict__" : Str)) = false := by decide)
    (he : starEach (e :: es) X.env = (false, eval e X.env) :: starEach es X.env := by rfl) (hpl : (backTo pos (starEach es X.env)).any (·.1) = false := by rfl) : PD X γ (.Call (.Name m pn) (e :: es) [] pos) (.obj C fs) := fun σ Hs H Q s E kk => by
  obtain ⟨f, fd, ps, a, b, c, dd⟩ := F.ex
  intro pins st I
  refine wpAny_Call_Name_kw (thn ((wE_ok (.Name m pn)).run pins st σ H _ I (pd_v (d := .adr C) i hs hN hv hd hcd σ Hs H (fun v H1 => v = .ref C ∧ ∃ Hs1, Gr Hs H Hs1 H1) s E fun v Hs1 H1 g r => ?_)) ?_)
  · cases r
    exact ⟨rfl, Hs1, g⟩
  rintro u s1 ⟨v, H1, I1, rv, rfl, Hs1, g1⟩
  cases rv
  refine PySem.W.callWith_K (h₀ := X.base) I1.ok.mod.kin c.kp (thn ((wA_ok (e :: es)).run pos pins s1 σ H1 _ I1 (ha σ Hs1 H1 (fun vs H2 => ∃ Hs2, Gr Hs1 H1 Hs2 H2 ∧ Reps X.K Hs2 vs ds) g1.sub (E.mono g1.sh) fun vs Hs2 H2 g r => ⟨Hs2, g, r⟩)) fun us s2 ⟨vs, H2, I2, r, Hs2, g2, r'⟩ => ⟨I2.kIn, ?_⟩) he hpl
  exact make_at0 c a hr dd I2 r fun p dx np ndx nex => ⟨Hs2, H2, p, dx, vs, ds, fs, rfl, rfl, np, ndx, nex, g2.sub, r', hG, fun Hs3 H3 dx' us' g3 h1 h2 r3 => ⟨rfl, by
    have s1 : Same Hs3 (upd Hs3 p (.ins C dx' us')) := fun x u e => by rw [upd_ne (ne_of_none e h1)]; exact e
    have g := g1.trans g2
    refine kk _ (upd Hs3 p (.ins C dx' us')) H3 ⟨g.sh.trans (g3.sh.trans s1), g.ext.trans g3.ext, fun x u e => ?_, fun x q1 q2 => ?_⟩ (.obj upd_same (r3.mono s1))
    · by_cases q : x = p
      · subst q; rw [upd_same] at e; rw [← e]; exact h2
      · rw [upd_ne q] at e; exact g3.sub x u e
    · have q1' : H2 x ≠ none := fun z => by
        cases hx : H x with
        | none => exact q1 hx
        | some o => rw [g.ext x o hx] at z; cases z
      have : x ≠ p := fun q => q1' (by rw [q]; exact np)
      rw [upd_ne this]
      exact g3.loc x q1' (g.loc x q1 q2)⟩⟩
end
end Pd
end

section
set_option Elab.async false
set_option linter.all false
set_option maxRecDepth 100000
set_option maxHeartbeats 4000000
set_option autoImplicit false
namespace Pd
open PySem PySem.Spec PyProof.Rows L2
/-! ### C.m(..), a class method -/
structure DCM (P : Program) (w : World) (K : PySem.W.Frag) (mg : Str → Option Value) (base : Heap) (k : Nat) (C : Addr) (m : Str) (sp : Sp) : Prop where
  ex : ∃ mc p f fd ps, FnOk P w K mg base CX0 k f fd ps sp ∧ ClX.CRead K C mc ∧ ClX.CMet K C mc m p f ∧ Binds K fd ps []
section
variable {X : Cx} {γ : List Sl} {o e : Expr} {es : List Expr} {d : D} {ds : List D} {pos apos : Pos} {k : Nat} {m : Str} {C : Addr} {pl : Sem Bool}
theorem pd_cm {G : List D → D → Prop} (F : DCM X.prog X.w X.K X.mg X.base k C m (spD X.K G)) (hr : Room k X.A) (h : PD X γ o (.adr C)) (ha : PDA X γ (e :: es) ds) (hG : G (.adr C :: ds) d)
    (hst : starEach (e :: es) X.env = (false, eval e X.env) :: starEach es X.env := by rfl) (hpl : (backTo pos (starEach es X.env)).any (·.1) = false := by rfl)
    (ht : eval (.Call (.Attribute o m apos) (e :: es) [] pos) X.env = (do
      let ov ← eval o X.env
      standAt apos.atName
      let (f, first) ← holding [ov] (getMethod ov m pl)
      callWith pos f first (backTo pos (starEach (e :: es) X.env)) (backToKw pos (keywordEach [] X.env))) := by rfl) : PD X γ (.Call (.Attribute o m apos) (e :: es) [] pos) d := fun σ Hs H Q s E kk => by
  obtain ⟨mc, p, f, fd, ps, a, b, c, bd⟩ := F.ex
  refine wE_of (ClX.pe_cmeth (wE_ok o) b c (FnOk.raw a bd .nil) hr pass0 (wA_ok _) hst hpl ht) (h σ Hs H _ s E fun v Hs' H' g r => ?_)
  cases r
  refine ⟨rfl, ha σ Hs' H' _ g.sub (E.mono g.sh) fun us Hs2 H2 g2 r2 => ?_⟩
  show spD X.K G ((V.ref C :: us) ++ []) H2 Q E0
  rw [List.append_nil]
  exact ⟨Hs2, _, d, g2.sub, .cons (.adr C) r2, hG, fun v Hs3 H3 g3 r3 => kk v Hs3 H3 ((g.trans g2).trans g3) r3⟩
/-- a class in a name of the def's own, its making raises -/
theorem px_makeL {G : List D → Addr → List (Str × D) → Prop} {CO : Addr} {fs : List (Str × D)} {n q : Str} {pn : Pos} (i : Nat) (F : DCX X.prog X.w X.K X.mg X.base k n CO G) (hs : γ[i]? = some (.sh (.adr CO))) (hr : Room (k + 1) X.A) (ha : PDA X γ (e :: es) ds) (hG : G ds C fs) (hN : X.N[i]? = some q := by rfl) (hv : Vis X.env.scope q := by first | exact Or.inl rfl | exact Or.inr (Or.inl rfl) | exact Or.inr (Or.inr rfl)) (hd : (q == ("__debug__" : Str)) = false := by decide) (hcd : (q == ("__classdict__" : Str)) = false := by decide)
    (he : starEach (e :: es) X.env = (false, eval e X.env) :: starEach es X.env := by rfl) (hpl : (backTo pos (starEach es X.env)).any (·.1) = false := by rfl) : PDX X γ (.Call (.Name q pn) (e :: es) [] pos) C fs := fun W tk σ Hs H Q s E kk => by
  obtain ⟨f, fd, ps, a, b, c, dd⟩ := F.ex
  intro pins st I
  refine wpAny_Call_Name_kw (thn ((wE_ok (.Name q pn)).run pins st σ H _ I (pd_v (d := .adr CO) i hs hN hv hd hcd σ Hs H (fun v H1 => v = .ref CO ∧ ∃ Hs1, Gr Hs H Hs1 H1) s E fun v Hs1 H1 g r => ?_)) ?_)
  · cases r
    exact ⟨rfl, Hs1, g⟩
  rintro u s1 ⟨v, H1, I1, rv, rfl, Hs1, g1⟩
  cases rv
  refine PySem.W.callWith_K (h₀ := X.base) I1.ok.mod.kin c.kp (thn ((wA_ok (e :: es)).run pos pins s1 σ H1 _ I1 (ha σ Hs1 H1 (fun vs H2 => ∃ Hs2, Gr Hs1 H1 Hs2 H2 ∧ Reps X.K Hs2 vs ds) g1.sub (E.mono g1.sh) fun vs Hs2 H2 g r => ⟨Hs2, g, r⟩)) fun us s2 ⟨vs, H2, I2, r, Hs2, g2, r'⟩ => ⟨I2.kIn, ?_⟩) he hpl
  exact make_at tk c a hr dd I2 r fun p dx np ndx nex => ⟨Hs2, H2, p, dx, vs, ds, C, fs, rfl, rfl, np, ndx, nex, g2.sub, r', hG, fun dd us Hs3 H3 g3 h1 h2 => kk dd us Hs3 H3 ((g1.trans g2).trans g3) h1 h2⟩
end
end Pd
end

section
set_option Elab.async false
set_option linter.all false
set_option maxRecDepth 100000
set_option maxHeartbeats 4000000
set_option autoImplicit false
namespace Pd
open PySem PySem.Spec PyProof.Rows L2
/-! ### a comprehension of two fors, no tests -/
section
variable {X : Cx} {γ : List Sl} {tg iter elt tg1 iter1 : Expr} {pos : Pos} {scope : Scope} {own : List (Str × Nat)} {vs1 : List Nat}
def cI (X : Cx) (scope : Scope) (tg iter : Expr) : TI := fun σ H R => ∀ s H1 C cl fp, ∃ wi, PI (KX X scope s H1 C cl fp) tg iter wi ∧ wi σ H R
def Turns2 (X : Cx) (γ : List Sl) (scope : Scope) (own : List (Str × Nat)) (vs1 : List Nat) (tg tg1 iter1 elt : Expr) (as : List D) (F : D → List D) : Prop := ∀ a, a ∈ as → ∃ γ2 js bs f2, (∀ j ∈ js, j ∈ own.map (·.2)) ∧ F a = bs.map f2 ∧ bs.length ≤ 300 ∧
  (∀ (s : Shared) (H : Hp) (C : Addr) (cl : List (Str × Addr)) (fp : List Addr), PDG (KX X scope s H C cl fp) (blkS γ (own.map (·.2))) tg a γ2 js ∧ PDIt (KX X scope s H C cl fp) γ2 tg1 iter1 bs) ∧
  ∀ b, b ∈ bs → ∃ γ3 js2, (∀ j ∈ js2, j ∈ vs1) ∧ ∀ (s : Shared) (H : Hp) (C : Addr) (cl : List (Str × Addr)) (fp : List Addr), PDG (KX X scope s H C cl fp) (blkS γ2 vs1) tg1 b γ3 js2 ∧ PD (KX X scope s H C cl fp) γ3 elt (f2 b)
theorem wipe_same {σ σ3 : L2.St} {vs js : List Nat} (hlen : σ3.length = (wipe σ vs).length) (hout : ∀ i : Nat, i ∉ js → σ3[i]? = (wipe σ vs)[i]?) (hjs : ∀ j ∈ js, j ∈ vs) : wipe σ3 vs = wipe σ vs := by
  have e := wipe_eq (vs := vs) hlen fun i hi => hout i fun z => hi (hjs i z)
  rw [e]
  apply List.ext_getElem?
  intro n
  by_cases q : n ∈ vs
  · by_cases hn : n < σ.length
    · rw [wipe_in q hn, wipe_in q (by rw [wipe_length]; exact hn)]
    · rw [List.getElem?_eq_none (by rw [wipe_length, wipe_length]; exact Nat.le_of_not_lt hn), List.getElem?_eq_none (by rw [wipe_length]; exact Nat.le_of_not_lt hn)]
  · rw [wipe_out q]
theorem flat_take_succ {α : Type} {as : List α} {F : α → List D} {i : Nat} {a : α} (h : as[i]? = some a) : (as.take (i + 1)).flatMap F = (as.take i).flatMap F ++ F a := by
  rw [List.take_add_one, h]
  simp only [Option.toList, List.flatMap_append, List.flatMap_cons, List.flatMap_nil, List.append_nil]
theorem flat_len {as : List D} {F : D → List D} (h : ∀ a ∈ as, (F a).length ≤ 300) : (as.flatMap F).length ≤ 300 * as.length := by
  induction as with
  | nil => simp
  | cons a r ih =>
    rw [List.flatMap_cons, List.length_append, List.length_cons]
    have h1 := h a (List.mem_cons_self ..)
    have h2 := ih fun b hb => h b (List.mem_cons_of_mem _ hb)
    omega
theorem lc2_go {as : List D} {F : D → List D} {wi : TI} {σ : L2.St} {Hs H : Hp} {Q : VK} (hfe : ∀ σ Hs H (R : It → Hp → Prop), Same Hs H → SE X.K Hs σ γ → (∀ J Hs' H', Gr Hs H Hs' H' → Feeds X.K J as Hs' → R J H') → wi σ H R)
    (ht : Turns2 X γ scope own vs1 tg tg1 iter1 elt as F) (hz : as.length ≤ 300) (s : Same Hs H) (E : SE X.K Hs σ γ)
    (k : ∀ l vs Hs' H', Gr Hs H Hs' H' → H l = none → Hs' l = none → H' l = some (.lst vs) → Reps X.K Hs' vs (as.flatMap F) → Q (.ref l) H') :
    tLc2 wi (cG X scope tg) (cT X scope []) (cI X scope tg1 iter1) (cG X scope tg1) (cT X scope []) (cE X scope elt) (own.map (·.2)) vs1 σ H Q := by
  refine hfe σ Hs H _ s E fun J Hs1 H1 g1 fe => fun Dl hD => ?_
  have gn : Gr Hs1 H1 Hs1 (upd H1 Dl (.lst [])) := ⟨Same.refl _, fun a u e => by rw [upd_ne (ne_of_none e hD)]; exact e, fun a u e => by rw [upd_ne (ne_of_none (g1.sub a u e) hD)]; exact g1.sub a u e, fun _ _ h => h⟩
  refine ⟨fun i m H' => m = as.length - i ∧ i ≤ as.length ∧ ∃ Hs' acc, Gr Hs1 H1 Hs' H' ∧ H' Dl = some (.lst acc) ∧ Hs' Dl = none ∧ Reps X.K Hs' acc ((as.take i).flatMap F), ⟨as.length, by simp, Nat.zero_le _, Hs1, [], gn, upd_same, g1.sub.free hD, .nil⟩, ?_⟩
  rintro i m H' ⟨rfl, hle, Hs', acc, g2, h1, h2, r⟩
  obtain ⟨f1, f2⟩ := fe Hs' H' g2.sh g2.sub
  by_cases hlt : i < as.length
  · have ha : as[i]? = some as[i] := by simp [hlt]
    obtain ⟨go, yld⟩ := f1 i _ ha
    obtain ⟨γ2, js, bs, f, hjs, hF, hb3, hall, hin⟩ := ht as[i] (List.getElem_mem hlt)
    have hacc : acc.length ≤ 300 * i := by
      rw [r.length]
      refine Nat.le_trans (flat_len fun a ha => ?_) (by rw [List.length_take]; exact Nat.mul_le_mul_left _ (Nat.min_le_left _ _))
      obtain ⟨_, _, bs', f', _, e', l', _⟩ := ht a (List.mem_of_mem_take ha)
      rw [e', List.length_map]
      exact l'
    refine .inr ⟨go, fun H2 => ∃ Hs2 acc2, Gr Hs1 H1 Hs2 H2 ∧ H2 Dl = some (.lst acc2) ∧ Hs2 Dl = none ∧ Reps X.K Hs2 acc2 ((as.take (i + 1)).flatMap F), fun H2 ⟨Hs2, acc2, q1, q2, q3, q4⟩ => ⟨as.length - (i + 1), by omega, rfl, hlt, Hs2, acc2, q1, q2, q3, q4⟩, fun x H2 yy => ?_⟩
    obtain ⟨Hs2, g3, r2⟩ := yld x H2 yy
    have g23 := g2.trans g3
    have E2 : SE X.K Hs2 σ γ := E.mono (g1.sh.trans g23.sh)
    intro s5 H5 C5 cl5 fp5
    refine (hall s5 H5 C5 cl5 fp5).1 Hs2 H2 Hs2 Hs2 H2 (wipe σ (own.map (·.2))) x _ (blkS_st g3.sub E2) r2 fun σ3 Hs3 H3 t3 g4 hlen hout => ?_
    refine ⟨wipe_same hlen hout hjs, ?_⟩
    have g24 := g23.trans g4
    intro s6 H6 C6 cl6 fp6
    refine ts_go (b := true) rfl g4.sub t3.se fun Hs4 H4 g5 => ?_
    have g25 := g24.trans g5
    rw [if_pos rfl]
    intro s7 H7 C7 cl7 fp7
    obtain ⟨wi1, hpi1, hfe1⟩ := (hall s7 H7 C7 cl7 fp7).2.ex
    refine ⟨wi1, hpi1, hfe1 σ3 Hs4 H4 _ g5.sub (t3.se.mono g5.sh) fun J1 Hs5 H5' g6 fe1 => ?_⟩
    have g26 := g25.trans g6
    have hDl : ∀ {Hs9 H9 : Hp}, Gr Hs' H' Hs9 H9 → Hs9 Dl = none ∧ H9 Dl = some (.lst acc) := fun {Hs9 H9} g => ⟨g.loc Dl (by rw [h1]; intro z; cases z) h2, g.ext _ _ h1⟩
    have g35 := ((g3.trans g4).trans g5).trans g6
    obtain ⟨d1, d2⟩ := hDl g35
    refine ⟨fun j k H' => k = bs.length - j ∧ j ≤ bs.length ∧ ∃ Hs' acc', Gr Hs1 H1 Hs' H' ∧ H' Dl = some (.lst acc') ∧ Hs' Dl = none ∧ Same Hs5 Hs' ∧ Reps X.K Hs' acc' ((as.take i).flatMap F ++ (bs.take j).map f), ⟨bs.length, by simp, Nat.zero_le _, Hs5, acc, g26, d2, d1, Same.refl _, ?_⟩, ?_⟩
    · rw [List.take_zero, List.map_nil, List.append_nil]
      exact r.mono g35.sh
    · rintro j m2 H6' ⟨rfl, hle2, Hs6, acc', g7, e1, e2, sh7, r7⟩
      obtain ⟨u1, u2⟩ := fe1 Hs6 H6' sh7 g7.sub
      by_cases hlt2 : j < bs.length
      · have hb : bs[j]? = some bs[j] := by simp [hlt2]
        obtain ⟨go1, yld1⟩ := u1 j _ hb
        obtain ⟨γ3, js2, hjs2, hall2⟩ := hin bs[j] (List.getElem_mem hlt2)
        have hacc' : acc'.length ≤ 300 * i + j := by
          have z1 := r7.length
          rw [List.length_append, List.length_map, List.length_take, ← r.length] at z1
          omega
        refine .inr ⟨go1, fun H' => ∃ Hs' acc2, Gr Hs1 H1 Hs' H' ∧ H' Dl = some (.lst acc2) ∧ Hs' Dl = none ∧ Same Hs5 Hs' ∧ Reps X.K Hs' acc2 ((as.take i).flatMap F ++ (bs.take (j + 1)).map f), fun H' ⟨Hs', acc2, w1, w3, w4, w5, w6⟩ => ⟨bs.length - (j + 1), by omega, rfl, hlt2, Hs', acc2, w1, w3, w4, w5, w6⟩, fun x1 H7' yy1 => ?_⟩
        obtain ⟨Hs7, g8, r8⟩ := yld1 x1 H7' yy1
        have E7 : SE X.K Hs7 σ3 γ2 := t3.se.mono ((g5.sh.trans g6.sh).trans (sh7.trans g8.sh))
        intro s8 H8 C8 cl8 fp8
        refine (hall2 s8 H8 C8 cl8 fp8).1 Hs7 H7' Hs7 Hs7 H7' (wipe σ3 vs1) x1 _ (blkS_st g8.sub E7) r8 fun σ4 Hs8 H8' t4 g9 hlen2 hout2 => ?_
        refine ⟨wipe_same hlen2 hout2 hjs2, ?_⟩
        intro s9 H9 C9 cl9 fp9
        refine ts_go (b := true) rfl g9.sub t4.se fun Hs9 H9' g10 => ?_
        rw [if_pos rfl]
        intro s10 H10 C10 cl10 fp10
        refine (hall2 s10 H10 C10 cl10 fp10).2 σ4 Hs9 H9' _ g10.sub (t4.se.mono g10.sh) fun v Hs10 H10' g11 r11 => ?_
        have gg := ((g8.trans g9).trans g10).trans g11
        have dd1 : Hs10 Dl = none := gg.loc Dl (by rw [e1]; intro z; cases z) e2
        have dd2 : H10' Dl = some (.lst acc') := gg.ext _ _ e1
        have g7' := g7.trans gg
        refine ⟨acc', dd2, sz_lt (by omega), Hs10, acc' ++ [v], ⟨g7'.sh, fun a u e => ?_, fun a u e => ?_, g7'.loc⟩, upd_same, dd1, sh7.trans gg.sh, ?_⟩
        · rw [upd_ne (ne_of_none e hD)]; exact g7'.ext a u e
        · rw [upd_ne (ne_of_none e dd1)]; exact g7'.sub a u e
        · rw [List.take_add_one, hb]
          simp only [Option.toList, List.map_append, List.map_cons, List.map_nil]
          rw [← List.append_assoc]
          exact (r7.mono gg.sh).append (.cons r11 .nil)
      · have e : j = bs.length := by omega
        subst e
        refine .inl ⟨u2, Hs6, acc', g7, e1, e2, ?_⟩
        rw [List.take_length] at r7
        rw [flat_take_succ ha, hF]
        exact r7
  · have e : i = as.length := by omega
    subst e
    refine .inl ⟨f2, k Dl acc Hs' H' (g1.trans g2) (g1.ext.free hD) h2 h1 ?_⟩
    rw [List.take_length] at r
    exact r
theorem pn_lc2 {as : List D} {F : D → List D} (hi : PDIt X γ tg iter as) (ht : Turns2 X γ scope own vs1 tg tg1 iter1 elt as F) (hN : X.N.Nodup) (ok : BlkOk X.N X.env.scope scope own) (hv : ∀ i ∈ vs1, i ∈ own.map (·.2)) (hz : as.length ≤ 300) (hc : X.calm = true)
    (hs : ∀ x, foldedSetIterable iter X.env x = pure x) (hs1 : ∀ env x, foldedSetIterable iter1 env x = pure x) : PN X γ (.ListComp elt [⟨tg, iter, [], 0⟩, ⟨tg1, iter1, [], 0⟩] scope pos) (as.flatMap F) := fun σ Hs H Q s E k => by
  obtain ⟨wi, hpi, hfe⟩ := hi.ex
  exact wE_of (pe_lc2 hc hN hpi ok hv (fun s5 H5 C5 cl5 fp5 => ⟨fun pins s σ H v u Q I r h => h s5 H5 C5 cl5 fp5 pins s u I r⟩) (fun s5 H5 C5 cl5 fp5 => ⟨fun pins s σ H Q I h => (tTs_ok (Nat.zero_le _)).run pins s σ H Q I (h s5 H5 C5 cl5 fp5)⟩)
    (fun s5 H5 C5 cl5 fp5 => ⟨fun pins s σ H R I h => by obtain ⟨wi, hw, hq⟩ := h s5 H5 C5 cl5 fp5; exact hw.run pins s σ H R I hq⟩)
    (fun s5 H5 C5 cl5 fp5 => ⟨fun pins s σ H v u Q I r h => h s5 H5 C5 cl5 fp5 pins s u I r⟩) (fun s5 H5 C5 cl5 fp5 => ⟨fun pins s σ H Q I h => (tTs_ok (Nat.zero_le _)).run pins s σ H Q I (h s5 H5 C5 cl5 fp5)⟩)
    (fun s5 H5 C5 cl5 fp5 => ⟨fun pins s σ H Q I h => h s5 H5 C5 cl5 fp5 pins s I⟩) hs hs1)
    (lc2_go hfe ht hz s E k)
end
end Pd
end

section
set_option Elab.async false
set_option linter.all false
set_option maxRecDepth 100000
set_option maxHeartbeats 4000000
set_option autoImplicit false
namespace Pd
open PySem PySem.Spec PyProof.Rows L2
/-! ### iter(t), t a tuple -/
def tiObj (t : Addr) (i : Nat) : Obj := { cls := .type "tuple_iterator", data := .fields #[.ref t, .int i 0] }
def TiO (t it : Addr) (i : Nat) : HO := .ext fun h => h.get? it = some (tiObj t i)
theorem tiO_ok {P : Program} {w : World} {H : Hp} {h : Heap} {t it : Addr} {i : Nat} (e : h.get? it = some (tiObj t i)) : ObjOk P w H h it (TiO t it i) := ⟨e, ⟨_, e⟩, fun h1 h2 q k => k _ q⟩
section
variable {prog : Program} {w : World} {A : Around} {E : Value → Shared → Prop} {s : Shared} {t : Addr} {items : Array Value}
theorem call_iterTu {Q : Value → Shared → Prop} (ht : s.heap.IsTuple t items) (h : Q (.ref s.heap.objs.size) { s with heap := s.heap.push (tiObj t 0) }) : wpAny (model prog w) A (call (.builtin "iter") [.ref t]) Q E s := by
  refine Calls.call_function_entry (by decide +kernel) (by decide +kernel) PySem.W.kdk_entry_iter (PySem.W.kdk_args_iter _) ?_
  unfold Builtin.«iter»
  refine wpAny_bind (m := someArgs "iter" 1 2 _) (wpAny_of_eq (a := [Value.ref t]) (by first | rfl | kernel_rfl!) ?_)
  show wpAny _ _ (pyIter (.ref t) >>= _) _ _ _
  refine wpAny_bind (wpAny_pyIter_tuple ht ?_)
  exact wpAny_pure ⟨_, rfl, h⟩
end
def rIterTu (K : PySem.W.Frag) (n : Nat) : List V → Hp → VK → Prop := fun xs H Q => ∃ (t : Addr) (zs : List V), xs = [.ref t] ∧ SqT K H t zs ∧ ∀ it, H it = Option.none → n ≤ it → Q (.ref it) (upd H it (TiO t it 0))
section
variable {X : Cx}
theorem cr_iterTu : CallR X (.builtin "iter") (rIterTu X.K X.s_0.heap.objs.size) := by
  intro pins s σ H xs us Q I r h
  obtain ⟨t, zs, rfl, hq, q⟩ := h
  obtain ⟨u, rfl, ru⟩ := r.one
  cases ru
  obtain ⟨its, rv, pl, hz⟩ := I.tuple hq
  refine call_iterTu (show s.heap.IsTuple t its.toArray from pl) ?_
  exact ⟨.ref s.heap.objs.size, _, I.laid (t' := s.toks) (fun b u e => Heap.get?_push_of_some _ e) (Nat.le_refl _) (tiO_ok (Heap.get?_push_size _ rfl)), rfl, q _ (I.hok.fresh (Nat.le_refl _)) I.sz⟩
end
/-! ### a def run from one state -/
theorem fn_at {CX : CXT} {P : Program} {w : World} {K : PySem.W.Frag} {mg : Str → Option Value} {base : Heap} {k : Nat} {f : Addr} {x qual : Str} {params : Arguments} {body : List Stmt} {scope : Scope} {dvs : List V} {kws : List (Str × V)} {fd : FuncData} {N ps : List Str}
    (F : FunD K x qual params body scope dvs kws f fd) (S : FnScope N ps scope) {A : Around} {outer : List Env} {s : Shared} {H : Hp} {args : Args} {us : List Value} {vs : List V} {Q : VK} {E : XK} (hr : Room (k + 1) A) (e0 : Env0 P w K mg base A outer s H) (hb : BindsTo s fd args (ps.zip us)) (r : Vals vs us) (hl : vs.length = ps.length)
    (hbody : ∀ cdv, Room k (A.deeper (envOfC qual scope s.heap.objs.size f cdv)) → ∃ t, PSs (cxOf CX P w K mg base N qual scope f cdv A outer s H E) body t ∧ t { nx := fun _ H' => Q .non H', rt := Q } (start N vs) H) :
    codeAny (model P w) A (.call (.ref f) args) (CR CX outer P w H s Q E) s := by
  obtain ⟨oc, od, dV, kV, doc, pm, an, cdv, ct, osl, rfl, lk, hcd, _, _⟩ := F.ex
  have KX : K.In s.heap := e0.mod.kin.keeps fun b o e => (e0.bs b o e).1
  have lim : s.heap.NoLimit := e0.mod.nolimit.keeps fun b o e => (e0.bs b o e).1
  have hkind : ∀ y ∈ ps.zip us, scope.names.lookup y.1 = some .local ∨ (scope.names.lookup y.1 = some .cell ∧ ((cellsFrom (s.heap.objs.size + 1) scope.names []).lookup y.1).isSome = true) := fun ⟨n, v⟩ hy => by
    rcases S.par n (List.of_mem_zip hy).1 with q | q
    · exact .inl q
    · exact .inr ⟨q, PySem.W.cellsFrom_some _ _ _ (.inl q)⟩
  refine codeAny_call_function hr.depth (KX _ _ lk) rfl S.co S.gen rfl (PySem.W.codeRec_of KX hcd) (hb _ _ _ _ ?_)
  refine wpAny_newFunctionEnv_cells S.kind hkind fun env he s1 x => ?_
  subst he
  refine ⟨lim.keeps x.toInCall.keep, codeAny_func ?_⟩
  obtain ⟨t, ht, hq⟩ := hbody cdv (hr.deeper _)
  have I : Inv (cxOf CX P w K mg base N qual scope f cdv A outer s H E) [] (start N vs) H s1 := inv_start S hr.hd e0 hl r x
  refine wpAny_mono (ht.run [] s1 (start N vs) H _ I hq) (fun fl s' hs => ?_) fun e s' hs => hs
  have fin : ∀ {σ' : L2.St} {H' : Hp} {v : V} {u : Value}, Inv (cxOf CX P w K mg base N qual scope f cdv A outer s H E) [] σ' H' s' → RelV v u → Q v H' → CE outer P w H s Q u s' :=
    fun {σ' H' v u} J rv q => ⟨v, H', J.os, J.bare, J.base, J.hok, rv, q⟩
  cases fl with
  | ret u =>
    obtain ⟨v, σ', H', J, rv, q⟩ := hs
    exact fin J rv q
  | next =>
    obtain ⟨σ', H', J, q⟩ := hs
    exact fin (v := V.non) (u := Value.none) J rfl q
  | brk =>
    obtain ⟨_, _, _, q⟩ := hs
    exact False.elim q
  | cont =>
    obtain ⟨_, _, _, q⟩ := hs
    exact False.elim q
end Pd
end

section
set_option Elab.async false
set_option linter.all false
set_option maxRecDepth 100000
set_option maxHeartbeats 4000000
set_option autoImplicit false
namespace Pd
open PySem PySem.Spec PyProof.Rows L2
/-- a class whose __iter__ is `return iter(self.f)`, where f holds a tuple -/
structure OwnT (K : PySem.W.Frag) (mg : Str → Option Value) (C : Addr) (f : Str) : Prop where
  ex : ∃ (fi : Addr) (fd : FuncData) (x qual s : Str) (params : Arguments) (scope : Scope) (p1 p2 p3 p4 p5 : Pos),
    FunD K x qual params [.Return (some (.Call (.Name "iter" p1) [.Attribute (.Name s p2) f p3] [] p4)) p5] scope [] [] fi fd ∧ FnScope [s] [s] scope ∧ PySem.W.findIn K (.ref C) "__iter__" = some (some (.ref fi)) ∧ PySem.W.isFn K (.ref fi) = true ∧ Binds K fd [s] [] ∧
    scope.names.lookup ("iter" : Str) = some .globalImplicit ∧ Vis scope s ∧ (s == ("__debug__" : Str)) = false ∧ (s == ("__classdict__" : Str)) = false
  cl : Cls K C
  na : NoAttr K C f
  mi : mg ("iter" : Str) = none
  nolen : PySem.W.findIn K (.ref C) "__len__" = some none
  nohint : PySem.W.findIn K (.ref C) "__length_hint__" = some none
section
variable {X : Cx} {pins : List (Addr × Obj)} {σ : L2.St} {H : Hp} {s : Shared} {C a t dx : Addr} {us : List (Str × V)} {zs : List V} {f : Str} {A : Around}
theorem own_it (O : OwnT X.K X.mg C f) (I : Inv X pins σ H s) (ha : H a = some (.ins C dx us)) (hl : us.lookup f = some (.ref t)) (ht : SqT X.K H t zs) (sb : Sub X 1 A) :
    ∃ fi, PySem.W.findIn X.K (.ref C) "__iter__" = some (some (.ref fi)) ∧ PySem.W.isFn X.K (.ref fi) = true ∧ wpAny (model X.prog X.w) A (call (.ref fi) [.ref a]) (fun v s' => ∃ it, v = .ref it ∧ Inv X pins σ H s' ∧ s'.heap.get? it = some (tiObj t 0) ∧ FpOk X pins H it) X.xe s := by
  obtain ⟨fi, fd, x, qual, sf, params, scope, p1, p2, p3, p4, p5, F, FS, h1, h2, bI, gi, vs, d1, d2⟩ := O.ex
  refine ⟨fi, h1, h2, ?_⟩
  have e0 : Env0 X.prog X.w X.K X.mg X.base A X.stack s H := by
    have e := I.env0
    exact ⟨by rw [sb.fr]; exact e.frames, e.mod, e.bs, e.bsz, e.funs, e.frf, e.hok, e.bare⟩
  have r2 : Vals [V.ref a] [Value.ref a] := .cons rfl .nil
  have bd : BindsTo s fd ⟨[.ref a], []⟩ ([sf].zip [Value.ref a]) := by
    have z := bI s [.ref a] I.kIn (by rfl)
    simpa using z
  refine wpAny_call (codeAny_mono (fn_at (CX := CX0) (Q := fun v H' => ∃ it, v = .ref it ∧ H' = upd H it (TiO t it 0) ∧ H it = none ∧ s.heap.objs.size ≤ it) (E := E0) (k := 0) F FS sb.room e0 bd r2 rfl fun cdv _ => ?_) fun r s' hq => ?_)
  · refine ⟨_, pss_one (ps_ret (pe_callB (cr_iterTu) gi O.mi (by decide +kernel) (L2.pa_cons (pe_fld (pe_var (i := 0) rfl vs d1 d2) ?_) L2.pa_nil rfl))), ?_⟩
    · rfl
    · exact ⟨.ref a, rfl, a, C, dx, us, .ref t, rfl, ha, O.cl, O.na, hl, t, zs, rfl, ht, fun it h3 h4 => ⟨it, rfl, rfl, h3, h4⟩⟩
  · cases r with
    | error e => exact (pass0 (X := X)) pins σ _ _ e s' I hq
    | ok fl =>
      cases fl with
      | ret u =>
        obtain ⟨v, H', I', rv, it, rfl, rfl, h3, h4⟩ := I.after hq
        cases rv
        have e1 : upd H it (TiO t it 0) it = some (TiO t it 0) := upd_same
        have I2 := ItX.inv_drop I' e1
        have fp := ItX.inv_fp I' e1 (Nat.le_trans I.sz h4)
        rw [ItX.dropH_upd h3] at I2 fp
        exact ⟨it, rfl, I2, (I'.hok it _ e1).1, fp⟩
      | next => exact False.elim hq
      | brk => exact False.elim hq
      | cont => exact False.elim hq
/-- for x in o -/
def iOwn (K : PySem.W.Frag) (C : Addr) (f : Str) (te : TE) : TI := fun σ H R => te σ H fun v H1 => ∃ a dx us t zs, v = .ref a ∧ H1 a = some (.ins C dx us) ∧ us.lookup f = some (.ref t) ∧ SqT K H1 t zs ∧ R (Itt K t) H1
theorem look_next {it : Addr} {M : Model} {E : Value → Shared → Prop} {Q : Value → Shared → Prop} (h : s.heap.get? it = some (tiObj t 0)) (q : Q (.ref it) s) : PySem.W.OwitIt M A Q E (.ref it) s := by
  unfold PySem.W.OwitIt
  exact wpAny_specialOf (name := Str.ofString "__next__") (T := "tuple_iterator") ⟨_, h, rfl⟩ F.slot_tuple_iterator_next.lookup q
theorem pi_own {tg e : Expr} {te : TE} (O : OwnT X.K X.mg C f) (hr : Room 1 X.A) (he : PE X e te) : PI X tg e (iOwn X.K C f te) := by
  refine ⟨fun pins s σ H R I h => ?_⟩
  refine thn (he.run pins s σ H _ I h) fun v s1 ⟨x, H1, I1, r1, a, dx, us, t, zs, ex, ha, hl, ht, q⟩ => ?_
  subst ex
  cases r1
  obtain ⟨mA, J, _⟩ := ins_get I1.hok ha
  obtain ⟨od, J, _⟩ := J.look
  obtain ⟨m0, hF⟩ := I1.fr
  obtain ⟨fi, h1, h2, run⟩ := own_it O I1 ha hl ht ⟨hr, rfl⟩
  refine PySem.W.owit_iter hF I1.ok.mod.kin J h1 h2 (wpAny_mono run (fun v s2 hv => ?_) fun _ _ z => z)
  obtain ⟨it, rfl, I2, hi, fp⟩ := hv
  refine look_next hi ?_
  exact ⟨it, [it], _, _, H1, rfl, I2, turn_tuple t it, ⟨_, hi, rfl, rfl⟩, fun b hb => (by
    have e : b = it := by simpa using hb
    subst e
    exact fp), q⟩
end
end Pd
end

section
set_option Elab.async false
set_option linter.all false
set_option maxRecDepth 100000
set_option maxHeartbeats 4000000
set_option autoImplicit false
namespace Pd
open PySem PySem.Spec PyProof.Rows L2
section
variable {X : Cx} {pins : List (Addr × Obj)} {σ : L2.St} {H : Hp} {s : Shared} {C a q it t dx : Addr} {us : List (Str × V)} {zs : List V} {f : Str} {A1 : Around} {n : Nat}
theorem fp_upd {x : Addr} {o : HO} (h : FpOk X pins H it) (ne : it ≠ x) : FpOk X pins (upd H x o) it := ⟨by rw [upd_ne ne]; exact h.1, h.2⟩
theorem sqT_updL {ys : List V} (h : SqT X.K H t zs) (hq : H q = none) : SqT X.K (upd H q (.lst ys)) t zs := sqT_mono (fun b u e => by rw [upd_ne (ne_of_none e hq)]; exact e) h
theorem ownT_loop {Rs : Result → Shared → Prop} (sb : Sub X n A1.in1) (hq : H q = none) (ht : SqT X.K H t zs) (hf : FpOk X pins H it) (hne : it ≠ q) (hz : zs.length ≤ sizeLine) (hdone : ∀ s, Inv X pins σ (upd H q (.lst zs)) s → Rs (.ok (.ret .none)) s) (herr : ∀ e s, X.xe e s → Rs (.error e) s) :
    ∀ (m i : Nat) (s : Shared), i + m = zs.length → Inv X pins σ (upd H q (.lst (zs.take i))) s → s.heap.IsTupleIter it t i → codeAny (model X.prog X.w) A1 (.builtin "list.extend.loop" ⟨[.ref q, .ref it, .none], []⟩) Rs s := by
  intro m
  induction m with
  | zero =>
    intro i s hm I hi
    refine codeAny_builtin PySem.F.entry_extend_loop ?_
    rw [Around.under_plainId PySem.F.plain_extend_loop _]
    show wpAny _ A1.in1 (pyNext (.ref it) >>= _) _ _ s
    obtain ⟨its, rv, p, hz'⟩ := I.tuple (sqT_updL ht hq)
    have hl := rv.length
    refine wpAny_bind (wpAny_pyNext_tuple_end sb.room.hd hi (show s.heap.IsTuple t its.toArray from p) (by simp; omega) fun h' eb => ?_)
    obtain ⟨f0, f1, f2, f3, f4, f5⟩ := fp_upd (o := .lst (zs.take i)) hf hne
    have I2 : Inv X pins σ (upd H q (.lst (zs.take i))) { s with heap := h' } := I.turned (t' := s.toks) (fun b o hb e => eb b o hb e) f0 f1 f3 f4 f5
    rw [List.take_of_length_le (by omega)] at I2
    exact wpAny_pure (hdone _ I2)
  | succ m ih =>
    intro i s hm I hi
    refine codeAny_builtin PySem.F.entry_extend_loop ?_
    rw [Around.under_plainId PySem.F.plain_extend_loop _]
    show wpAny _ A1.in1 (pyNext (.ref it) >>= _) _ _ s
    obtain ⟨its, rv, p, hz'⟩ := I.tuple (sqT_updL ht hq)
    have hl := rv.length
    have hlt : i < zs.length := by omega
    obtain ⟨u, hu, ru⟩ := rv.get (List.getElem?_eq_getElem hlt)
    refine wpAny_bind (wpAny_pyNext_tuple_item hi (show s.heap.IsTuple t its.toArray from p) (x := u) (by simpa using hu) fun h' st' sb' => ?_)
    obtain ⟨f0, f1, f2, f3, f4, f5⟩ := fp_upd (o := .lst (zs.take i)) hf hne
    have I2 : Inv X pins σ (upd H q (.lst (zs.take i))) { s with heap := h' } := I.turned (t' := s.toks) (fun b o hb e => (sb'.2 b hb).trans e) f0 f1 f3 f4 f5
    show wpAny _ A1.in1 (updateSeq q (·.push u) >>= _) _ _ _
    obtain ⟨z, jts, k, r2, hl2, e⟩ := I2.lstM upd_same
    have hlen : (zs.take i).length = i := by rw [List.length_take]; omega
    have hj : jts.length = i := by rw [← r2.length, hlen]
    refine wpAny_bind (wpAny_updateSeq e rfl (wpAny_pure ⟨plainId_quiet PySem.F.plain_extend_loop _, ?_⟩) (by rw [List.size_toArray]; omega) (by show (jts.toArray.push u).size ≤ sizeLine + 1; rw [Array.size_push, List.size_toArray]; omega))
    have ht1 : zs.take i ++ [zs[i]] = zs.take (i + 1) := by rw [List.take_succ_eq_append_getElem hlt]
    have I3 := I2.lset (f := (·.push u)) (its := jts) (its' := jts ++ [u]) (t' := s.toks) upd_same e (by simp) (r2.append (.cons ru .nil)) (by rw [List.length_append, List.length_singleton, hlen]; omega)
    rw [upd_upd, ht1] at I3
    refine ih (i + 1) _ (by omega) I3 ?_
    obtain ⟨o, ho, hc, hd⟩ := st'
    exact ⟨o, (Heap.get?_update_other _ _ (Ne.symm hne)).trans ho, hc, hd⟩
theorem ownT_hint {M : Model} {A : Around} {E : Value → Shared → Prop} {Q : Bool → Shared → Prop} {K : PySem.W.Frag} {mg : Str → Option Value} {ox : Obj} {od : Option Obj} (hc : OwnT K mg C f) (hK : K.In s.heap) (J : PySem.W.InstAt s.heap a ox C od) (h : Q true s) :
    wpAny M A (Builtin.List.listLengthHint (.ref a)) Q E s := by
  unfold Builtin.List.listLengthHint
  refine wpAny_bind (wpAny_bind (J.type.here ((PySem.W.looks_findIn hK hc.nolen).here ?_)))
  refine PySem.W.KFB.if_not rfl ?_
  refine PySem.W.KFB.if_not rfl ?_
  refine wpAny_bind (wpAny_bind (J.type.here ((PySem.W.looks_findIn hK hc.nohint).here ?_)))
  exact wpAny_pure h
theorem ownT_extend {Rs : Result → Shared → Prop} (sb : Sub X 1 A1.in1) (O : OwnT X.K X.mg C f) (hq0 : H q = none) (hne : q ≠ a) (hdone : ∀ s, Inv X pins σ (upd H q (.lst zs)) s → Rs (.ok (.ret .none)) s) (herr : ∀ e s, X.xe e s → Rs (.error e) s)
    (I : Inv X pins σ (upd H q (.lst [])) s) (ha : H a = some (.ins C dx us)) (hl : us.lookup f = some (.ref t)) (ht : SqT X.K H t zs) :
    wpAny (model X.prog X.w) A1.in1 (Builtin.List.listExtendWith (.ref q) (.ref a) .none)
      (fun fin s' => match fin with | .done f => Rs (.ok f) s' | .again c' => c'.quiet = true ∧ codeAny (model X.prog X.w) A1 c' Rs s') (fun e s' => Rs (.error e) s') s := by
  have ha' : upd H q (.lst []) a = some (.ins C dx us) := by rw [upd_ne (Ne.symm hne)]; exact ha
  have ht' : SqT X.K (upd H q (.lst [])) t zs := sqT_updL ht hq0
  obtain ⟨mA, J, _⟩ := ins_get I.hok ha'
  obtain ⟨od, J, _⟩ := J.look
  obtain ⟨m0, hF⟩ := I.fr
  unfold Builtin.List.listExtendWith
  refine wpAny_bind (J.type.here ?_)
  have h1 : Builtin.List.listSameRef (.ref q) (.ref a) = false := by simp [Builtin.List.listSameRef, hne]
  have h2 : (Value.ref C == Value.type "list") = false := rfl
  have h3 : (Value.ref C == Value.type "tuple") = false := rfl
  simp only [h1, h2, h3, Bool.or_false, Bool.false_eq_true, if_false]
  obtain ⟨its0, rv0, p0, hz0⟩ := I.tuple ht'
  have hzs : zs.length ≤ sizeLine := hz0
  obtain ⟨fi, g1, g2, run⟩ := own_it O I ha' hl ht' sb
  refine wpAny_bind (PySem.W.owit_iter hF I.ok.mod.kin J g1 g2 (wpAny_mono run (fun v s' hv => ?_) fun e s' he => herr e s' he))
  obtain ⟨it, rfl, I', hi, fp⟩ := hv
  have hnit : it ≠ q := fun z => by
    have := fp.1
    rw [z, upd_same] at this
    cases this
  have fp0 : FpOk X pins H it := ⟨by have := fp.1; rw [upd_ne hnit] at this; exact this, fp.2⟩
  obtain ⟨mA', J', _⟩ := ins_get I'.hok ha'
  obtain ⟨od', J', _⟩ := J'.look
  refine look_next hi ?_
  refine wpAny_bind (wpAny_holding (ownT_hint O I'.kIn J' ?_))
  obtain ⟨z, its, k, r3, hl3, e3⟩ := I'.lstM upd_same
  cases r3
  have go := fun (s2 : Shared) (I2 : Inv X pins σ (upd H q (.lst (zs.take 0))) s2) (h : s2.heap.IsTupleIter it t 0) => ownT_loop (n := 1) sb hq0 ht fp0 hnit hzs hdone herr zs.length 0 s2 (by omega) I2 h
  refine wpAny_ite_split (fun _ => ?_) (fun _ => wpAny_pure ⟨plainId_quiet PySem.F.plain_extend_loop _, go s' I' ⟨_, hi, rfl, rfl⟩⟩)
  refine wpAny_bind (wpAny_rule ?_)
  refine wpAny_bind ?_
  show wpAny _ _ (updateSeq q (·.push .none) >>= fun _ => updateSeq q (·.pop)) _ _ _
  refine wpAny_bind (wpAny_updateSeq e3 rfl ?_)
  have I2 := I'.lset (f := (·.push Value.none)) (its' := [Value.none]) (ys := [.non]) (t' := s'.toks) upd_same e3 (by simp) (.cons rfl .nil) (by rw [List.length_singleton, sizeLine_eq]; decide)
  obtain ⟨z4, its4, k4, r4, hl4, e4⟩ := I2.lstM upd_same
  obtain ⟨u4, rfl, ru4⟩ := r4.one
  refine wpAny_updateSeq e4 rfl ?_ (by show 1 ≤ sizeLine; rw [sizeLine_eq]; decide) (by show 0 ≤ sizeLine + 1; exact Nat.zero_le _)
  have I3 := I2.lset (f := (·.pop)) (its := [u4]) (its' := []) (ys := []) (t' := s'.toks) upd_same e4 (by rfl) .nil (Nat.zero_le _)
  rw [upd_upd, upd_upd] at I3
  refine wpAny_pure ⟨plainId_quiet PySem.F.plain_extend_loop _, go _ I3 ?_⟩
  refine ⟨tiObj t 0, ?_, rfl, rfl⟩
  exact (Heap.get?_update_other _ _ (Ne.symm hnit)).trans ((Heap.get?_update_other _ _ (Ne.symm hnit)).trans hi)
/-- list(o) -/
def rOwnT (K : PySem.W.Frag) (C : Addr) (f : Str) : List V → Hp → VK → Prop := fun xs H Q => ∃ a dx us t zs, xs = [.ref a] ∧ H a = some (.ins C dx us) ∧ us.lookup f = some (.ref t) ∧ SqT K H t zs ∧ ∀ q, H q = none → Q (.ref q) (upd H q (.lst zs))
theorem call_listOwnT (O : OwnT X.K X.mg C f) (hr : Room 3 X.A) : CallR X (.type "list") (rOwnT X.K C f) := by
  intro pins s σ H xs us' Q I rv h
  obtain ⟨a, dx, us, t, zs, rfl, ha, hl, ht, hQ⟩ := h
  obtain ⟨u, rfl, ru⟩ := rv.one
  cases ru
  have sb : Sub X 1 X.A.in1.in1 := (Sub.in1 (Sub.in1 (⟨hr, rfl⟩ : Sub X 3 X.A)))
  refine callType_codes (Q₁ := fun obj s₁ => obj = .ref s.heap.objs.size ∧ s₁ = { s with heap := s.heap.push { cls := .type "list", data := .seq #[] } }) PySem.F.called_list (PySem.F.typeCall_list_1 _) PySem.F.entry_list_init
    (code_list_new _ ⟨rfl, rfl⟩) fun obj s₁ h₁ => ?_
  obtain ⟨rfl, rfl⟩ := h₁
  have hS : (s.heap.push { cls := .type "list", data := .seq #[] }).get? s.heap.objs.size = some { cls := .type "list", data := .seq #[] } := Heap.get?_push_size _ rfl
  refine ⟨⟨_, hS, rfl⟩, PySem.F.args_list_init_2 _ _, ?_⟩
  have fr : H s.heap.objs.size = none := I.hok.fresh (Nat.le_refl _)
  have I1 : Inv X pins σ (upd H s.heap.objs.size (.lst [])) { s with heap := s.heap.push { cls := .type "list", data := .seq #[] } } := I.lnew (its := []) (t' := s.toks) .nil (Nat.zero_le _)
  show wpAny _ _ (do let old ← Builtin.List.listItems (.ref s.heap.objs.size); Builtin.List.listUpdate (.ref s.heap.objs.size) (fun _ => #[]); letGo old.toList.reverse; Builtin.List.listExtendWith (.ref s.heap.objs.size) (.ref a) .none) _ _ _
  refine wpAny_bind ?_
  unfold Builtin.List.listItems
  refine wpAny_bind (wpAny_seqItems hS rfl (wpAny_pure ?_))
  show wpAny _ _ (updateSeq s.heap.objs.size (fun _ => #[]) >>= fun _ => letGo (#[] : Array Value).toList.reverse >>= fun _ => Builtin.List.listExtendWith (.ref s.heap.objs.size) (.ref a) .none) _ _ _
  refine wpAny_bind (wpAny_updateSeq hS rfl ?_)
  have I2 := I1.lset (f := fun _ => #[]) (its := []) (its' := []) (ys := []) (t' := s.toks) upd_same hS rfl .nil (Nat.zero_le _)
  rw [upd_upd] at I2
  refine wpAny_bind (wpAny_letGo ?_)
  exact ownT_extend (A1 := X.A.in1) (Rs := wants (fun r s₂ => r = .none ∧ EP X pins σ Q (.ref s.heap.objs.size) s₂) X.xe) sb O fr (Ne.symm (ne_of_none ha fr))
    (fun s' I' => ⟨rfl, .ref s.heap.objs.size, _, I', rfl, hQ _ fr⟩) (fun e s' he => he) I2 ha hl ht
end
end Pd
end

section
set_option Elab.async false
set_option linter.all false
set_option maxRecDepth 100000
set_option maxHeartbeats 4000000
set_option autoImplicit false
namespace Pd
open PySem PySem.Spec PyProof.Rows L2
/-! ### list(reversed(l)) -/
theorem lri_len : typeLookup (.type "list_reverseiterator") (Str.ofString "__len__") = pure none := by rw [typeLookup_type, builtinLookup_eq_fast]; kernel_rfl
theorem lri_hintL : typeLookup (.type "list_reverseiterator") (Str.ofString "__length_hint__") = pure (some (.builtin "list_reverseiterator.__length_hint__")) := by rw [typeLookup_type, builtinLookup_eq_fast]; kernel_rfl
section
variable {prog : Program} {w : World} {A : Around} {E : Value → Shared → Prop} {s : Shared} {it l S : Addr} {items : Array Value}
theorem lri_hint {Q : Bool → Shared → Prop} (hT : s.TypeIs (.ref it) "list_reverseiterator") (h : Q false s) : wpAny (model prog w) A (Builtin.List.listLengthHint (.ref it)) Q E s := by
  unfold Builtin.List.listLengthHint
  refine wpAny_bind (wpAny_specialOf hT lri_len ?_)
  wp_delta
  refine wpAny_bind (wpAny_specialOf hT lri_hintL ?_)
  generalize hid : ("list_reverseiterator.__length_hint__" : String) = id0
  wp_delta
  rw [show splitId id0 = some ("list_reverseiterator", "__length_hint__") from by subst hid; decide +kernel]
  subst hid
  refine wpAny_bind (wpAny_isInstance (T := "list_reverseiterator") (b := true) hT (by rw [isSubtype_type]; kernel_rfl) ?_)
  refine wpAny_ite_split (fun hab => absurd hab (by decide)) (fun _ => ?_)
  refine wpAny_ite_split (fun _ => ?_) (fun hab => absurd (by decide +kernel) hab)
  refine wpAny_ite_split (fun hab => absurd hab (by decide +kernel)) (fun _ => ?_)
  exact wpAny_pure h
theorem rev_extend {R : Result → Shared → Prop} (hh : A.handled = none) (hit : s.heap.IsRevIter it l ((items.size : Int) - 1)) (hl : s.heap.IsList l items) (hli : l ≠ it) (hSi : S ≠ it) (hSl : S ≠ l) (res : Value) (c₀ : Nat) (hS : s.heap.get? S = some { cls := .type "list", data := .seq #[] c₀ })
    (hR : ∀ h' tk acc' c', (∀ b o, b ≠ S → b ≠ it → s.heap.get? b = some o → h'.get? b = some o) → h'.get? S = some { cls := .type "list", dict := none, data := .seq acc' c', slots := #[] } →
      ItemsOf (fun i v => items[items.size - 1 - i]? = some v) acc' items.size → R (.ok (.ret res)) { s with heap := h', toks := tk }) (hn : items.size ≤ sizeLine) :
    wpAny (model prog w) A.in1 (Builtin.List.listExtendWith (.ref S) (.ref it) res)
      (fun fin s' => match fin with | .done f => R (.ok f) s' | .again c' => c'.quiet = true ∧ codeAny (model prog w) A c' R s') (fun e s' => R (.error e) s') s := by
  unfold Builtin.List.listExtendWith
  refine wpAny_bind (wpAny_typeOf hit.typeIs ?_)
  have h1 : Builtin.List.listSameRef (.ref S) (.ref it) = false := by simp [Builtin.List.listSameRef, hSi]
  have h2 : (Value.type "list_reverseiterator" == Value.type "list") = false := by decide
  have h3 : (Value.type "list_reverseiterator" == Value.type "tuple") = false := by decide
  simp only [h1, h2, h3, Bool.or_false, Bool.false_eq_true, if_false]
  refine wpAny_bind (wpAny_pyIter_revIter hit ?_)
  refine wpAny_bind (wpAny_holding (lri_hint hit.typeIs ?_))
  rw [if_neg (by decide)]
  have hSf : S ∉ [it, l] := fun hm => by
    rcases List.mem_cons.mp hm with z | hm
    · exact hSi z
    · exact hSl (List.mem_singleton.mp hm)
  refine wpAny_pure ⟨plainId_quiet F.plain_extend_loop _, codeAny_extend_loopS (Walks.listRev (A := A.in1) hh it l hli items).toS hn _ hSf _ items.size 0 _ _ _ rfl (Nat.zero_le _) ⟨Nat.zero_le _, by simpa using hit, hl⟩ hS (ItemsOf.nil _) fun s' acc' c' hm hS' hacc => ?_⟩
  rw [Moved.eq_with hm]
  refine hR s'.heap s'.toks acc' c' (fun b ob hb hb2 e => hm.heap b ob (fun hmem => ?_) e) hS' hacc
  rcases List.mem_cons.mp hmem with e' | hmem
  · exact hb e'
  · exact hb2 (List.mem_singleton.mp hmem)
theorem call_list_rev {Q : Value → Shared → Prop} (hh : A.handled = none) (hit : s.heap.IsRevIter it l ((items.size : Int) - 1)) (hl : s.heap.IsList l items) (hli : l ≠ it)
    (hQ : ∀ h' tk acc' c', (∀ b o, b ≠ it → s.heap.get? b = some o → h'.get? b = some o) →
      h'.get? s.heap.objs.size = some { cls := .type "list", dict := none, data := .seq acc' c', slots := #[] } → ItemsOf (fun i v => items[items.size - 1 - i]? = some v) acc' items.size → Q (.ref s.heap.objs.size) { s with heap := h', toks := tk }) (hn : items.size ≤ sizeLine) :
    wpAny (model prog w) A (call (.type "list") [.ref it]) Q E s := by
  refine callType_codes (Q₁ := fun obj s₁ => obj = .ref s.heap.objs.size ∧ s₁ = { s with heap := s.heap.push { cls := .type "list", data := .seq #[] } }) F.called_list (F.typeCall_list_1 _) F.entry_list_init
    (code_list_new _ ⟨rfl, rfl⟩) fun obj s₁ h₁ => ?_
  obtain ⟨rfl, rfl⟩ := h₁
  have hS : (s.heap.push { cls := .type "list", data := .seq #[] }).get? s.heap.objs.size = some { cls := .type "list", data := .seq #[] } := Heap.get?_push_size _ rfl
  refine ⟨⟨_, hS, rfl⟩, F.args_list_init_2 _ _, ?_⟩
  have hSi : s.heap.objs.size ≠ it := by
    obtain ⟨o, ho, _⟩ := id hit
    exact Ne.symm (Nat.ne_of_lt (Heap.lt_size ho))
  have hSl : s.heap.objs.size ≠ l := by
    obtain ⟨o, ho, _⟩ := id hl
    exact Ne.symm (Nat.ne_of_lt (Heap.lt_size ho))
  have hit2 : (s.heap.push { cls := .type "list", data := .seq #[] }).IsRevIter it l ((items.size : Int) - 1) := by
    obtain ⟨o, ho, z⟩ := id hit
    exact ⟨o, Heap.get?_push_of_some _ ho, z⟩
  have hl2 := hl.push { cls := .type "list", data := .seq #[] }
  show wpAny _ _ (do let old ← Builtin.List.listItems (.ref s.heap.objs.size); Builtin.List.listUpdate (.ref s.heap.objs.size) (fun _ => #[]); letGo old.toList.reverse; Builtin.List.listExtendWith (.ref s.heap.objs.size) (.ref it) .none) _ _ _
  refine wpAny_bind ?_
  unfold Builtin.List.listItems
  refine wpAny_bind (wpAny_seqItems hS rfl (wpAny_pure ?_))
  show wpAny _ _ (updateSeq s.heap.objs.size (fun _ => #[]) >>= fun _ => letGo (#[] : Array Value).toList.reverse >>= fun _ => Builtin.List.listExtendWith (.ref s.heap.objs.size) (.ref it) .none) _ _ _
  refine wpAny_bind (wpAny_updateSeq hS rfl ?_)
  have hS₂ := Heap.get?_update_self (Obj.mapSeq (fun _ => (#[] : Array Value))) hS rfl
  have oth : ∀ b o, b ≠ s.heap.objs.size → (s.heap.push { cls := .type "list", data := .seq #[] }).get? b = some o → ((s.heap.push { cls := .type "list", data := .seq #[] }).update s.heap.objs.size (Obj.mapSeq (fun _ => (#[] : Array Value)))).get? b = some o :=
    fun b o hb e => (Heap.get?_update_other _ _ (Ne.symm hb)).trans e
  refine wpAny_bind (wpAny_letGo ?_)
  refine rev_extend (A := A.in1) hh (by
    obtain ⟨o, ho, z⟩ := id hit2
    exact ⟨o, oth _ _ (Ne.symm hSi) ho, z⟩) (by
    obtain ⟨o, ho, z⟩ := id hl2
    exact ⟨o, oth _ _ (Ne.symm hSl) ho, z⟩) hli hSi hSl .none _ hS₂ (fun h' tk acc' c' hk hS' hacc => ?_) hn
  exact ⟨rfl, hQ h' tk acc' c' (fun b o hb e => hk b o (Nat.ne_of_lt (Heap.lt_size e)) hb (oth b o (Nat.ne_of_lt (Heap.lt_size e)) (Heap.get?_push_of_some _ e))) hS' hacc⟩
end
def tLstRev (K : PySem.W.Frag) (te : TE) : TE := fun σ H Q => te σ H fun v H1 => ∃ (a : Addr) (xs : List V), v = .ref a ∧ SqL K H1 a xs ∧ ∀ q, H1 q = none → Q (.ref q) (upd H1 q (.lst xs.reverse))
section
variable {X : Cx}
theorem pe_lstRev {e : Expr} {te : TE} {p p2 pos pos2 : Pos} (hc : X.calm = true) (hg : Gl X "list") (hm : X.mg "list" = none) (hg2 : Gl X "reversed") (hm2 : X.mg "reversed" = none) (he : PE X e te)
    (hs : starEach [e] X.env = (false, eval e X.env) :: starEach [] X.env := by rfl)
    (hs2 : starEach [.Call (.Name "reversed" p2) [e] [] pos2] X.env = (false, eval (.Call (.Name "reversed" p2) [e] [] pos2) X.env) :: starEach [] X.env := by rfl) :
    PE X (.Call (.Name "list" p) [.Call (.Name "reversed" p2) [e] [] pos2] [] pos) (tLstRev X.K te) := by
  refine ⟨fun pins s σ H Q I h => ?_⟩
  refine Call_ (ld_blt I hg hm boot_list (PyProof.Rows.callWith_type1 (args_cons (Call_ (ld_blt I hg2 hm2 PyProof.Rows.boot_reversed (PyProof.Rows.callWith_type1 (args_cons (thn (he.run pins s σ H _ I h) fun u s1 ⟨v, H1, I1, r1, q1⟩ => args_nil ?_) hs) hs rfl))) hs2) hs2 rfl))
  obtain ⟨a, xs, ev, hq, q⟩ := q1
  subst ev
  obtain rfl : u = Value.ref a := r1
  obtain ⟨its, rv, p', hz⟩ := I1.list hq
  refine call_reversed_list p'.isList (args_nil ?_)
  have k0 : ∀ b o, s1.heap.get? b = some o → (s1.heap.push (revObj a ((its.toArray.size : Int) - 1))).get? b = some o := fun b o e => Heap.get?_push_of_some _ e
  have I2 : Inv X pins σ H1 { s1 with heap := s1.heap.push (revObj a ((its.toArray.size : Int) - 1)) } := I1.kept (t' := s1.toks) k0
  obtain ⟨f0, f1, f2, f3, f4, f5⟩ := I1.fpOk (H' := H1) (b := s1.heap.objs.size) (Nat.le_refl _) (I1.hok.fresh (Nat.le_refl _))
  have hl := p'.isList
  obtain ⟨ol, hol, _⟩ := id hl
  have hne : a ≠ s1.heap.objs.size := Nat.ne_of_lt (Heap.lt_size hol)
  have hn : its.toArray.size ≤ sizeLine := by rw [List.size_toArray, ← rv.length]; exact hz
  refine call_list_rev (s := { s1 with heap := s1.heap.push (revObj a ((its.toArray.size : Int) - 1)) }) (I1.ok.hd hc) ⟨_, Heap.get?_push_size _ rfl, rfl, rfl⟩ (hl.push _) hne (fun h' tk acc c' hk e' hi => ?_) hn
  have hfr : H1 (s1.heap.push (revObj a ((its.toArray.size : Int) - 1))).objs.size = none := I2.hok.fresh (Nat.le_refl _)
  have hgo : (s1.heap.push (revObj a ((its.toArray.size : Int) - 1))).get? (s1.heap.push (revObj a ((its.toArray.size : Int) - 1))).objs.size = none := Heap.get?_none_of_le (Nat.le_refl _)
  generalize (s1.heap.push (revObj a ((its.toArray.size : Int) - 1))).objs.size = z at *
  generalize s1.heap.push (revObj a ((its.toArray.size : Int) - 1)) = hp at *
  obtain ⟨G, g1, g2⟩ := restrict h' fun b => decide (b ≠ z)
  have I3 : Inv X pins σ H1 { s1 with heap := G, toks := tk } := I2.turned (t' := tk) (fun b o hb e => by
    have bz : b ≠ z := fun w => by rw [w, hgo] at e; cases e
    rw [g1 b (decide_eq_true bz)]
    exact hk b o hb e) f0 f1 f3 f4 f5
  have gz : G.get? z = none := g2 z (by simp)
  refine ⟨.ref z, upd H1 z (.lst xs.reverse), I3.laidN (t' := tk) (fun b u e => ?_) gz hfr (show ObjOk X.prog X.w _ _ _ (.lst xs.reverse) from ⟨by rw [List.length_reverse]; exact hz, acc.toList, c', RT.vals_rev rv hi, ?_⟩), rfl, q _ hfr⟩
  · have bz : b ≠ z := fun w => by rw [w, gz] at e; cases e
    rw [← g1 b (decide_eq_true bz)]
    exact e
  · rw [Array.toArray_toList]
    exact e'
end
end Pd
end

section
set_option Elab.async false
set_option linter.all false
set_option maxRecDepth 100000
set_option maxHeartbeats 4000000
set_option autoImplicit false
namespace Ev
open PySem PySem.Spec PyProof.Rows L2 Pd

/-! ### the small language -/
inductive IK where
  | vl | rg | en | zp | rv | ow
  deriving DecidableEq
inductive BI where
  | len | int | list | tuple | sum | min | max | ord | lset | trg | lrv | bool | abs | mind
  deriving DecidableEq
/-- methods of built-in types -/
inductive BM where
  | join | find | upper | count | index
  deriving DecidableEq
/-- a parameter's value: the j-th written, the j-th keyword's, a default -/
inductive PA where
  | pos (j : Nat) | kw (j : Nat) | dfl (d : D)
inductive IE where
  | cst (d : D)
  | loc (i : Nat)
  | glo (n : Nat)
  | kls (n : Nat)
  | bin (op : Operator) (a b : IE)
  | neg (a : IE)
  | not (a : IE)
  | and (a b : IE)
  | or (a b : IE)
  | ife (c a b : IE)
  | cmp (op : CmpOp) (a b : IE)
  | chn (op op' : CmpOp) (a b c : IE)
  | isc (neg : Bool) (a : IE) (d : D)
  | fn (f : Nat) (as : List IE)
  | fnk (f p : Nat) (as kvs : List IE)
  | mk (f p : Nat) (as kvs : List IE)
  | mth (o : IE) (m p : Nat) (as kvs : List IE)
  | cm (c m p : Nat) (as kvs : List IE)
  | lmk (i : Nat) (as : List IE)
  | bi (b : BI) (as : List IE)
  | bm (b : BM) (o : IE) (as : List IE)
  | ins (a : IE) (t : Nat)
  | inb (a : IE) (t : String)
  | att (o : IE) (f : Str)
  | exa (i : Nat) (f : Str)
  | exi (i : Nat) (t : Nat)
  | exb (i : Nat) (t : String)
  | con (c : Nat) (f : Str)
  | sub (a b : IE)
  | slc (a : IE) (lo hi : List IE)
  | rev (a : IE)
  | lst (es : List IE)
  | tup (es : List IE)
  | lc (elt : IE) (tg : List Nat) (k : IK) (its : List IE) (cond : List IE)
  | lc2 (elt : IE) (t1 : List Nat) (k1 : IK) (its1 : List IE) (t2 : List Nat) (k2 : IK) (its2 : List IE)
  | gcd (as : List IE)
  | lrg (as : List IE)
  | itr (a : IE)
/-- how own lists are taken: not at all; viewed, what comes holds no list; viewed, what comes is a scalar; given away -/
inductive Vw where
  | pl | vw | vo | fz (us : List Nat)
inductive IS where
  | asg (v : Vw) (i : Nat) (e : IE)
  | asgs (v : Vw) (tg : List Nat) (e : IE)
  | seti (v : Vw) (i : Nat) (ix e : IE)
  | app (v : Vw) (i : Nat) (e : IE)
  | fld (v : Vw) (f : Str) (e : IE)
  | ret (v : Vw) (e : IE)
  | reto (i : Nat)
  | retN
  | ite (c : IE) (a b : List IS)
  | for (us : List Nat) (tg : List Nat) (k : IK) (its : List IE) (body : List IS)
  | raise (v : Vw) (C : Nat) (e : IE)
  | exp (v : Vw) (e : IE)
  | try (body : List IS) (C : Nat) (i : Nat) (suite : List IS)
  | pass
  | brk
  | cont

/-! ### what comes -/
inductive RR where
  | val (d : D) | new (ds : List D) | exc (C : Addr) (fs : List (Str × D))
def RR.and (r : Option RR) (f : D → Option RR) : Option RR := match r with
  | some (.val d) => f d
  | some (.new ds) => f (.lst ds)
  | some (.exc C fs) => some (.exc C fs)
  | none => none
def RR.d? : Option RR → Option D
  | some (.val d) => some d
  | some (.new ds) => some (.lst ds)
  | _ => none
/-- a slot -/
inductive S2 where
  | no | sh (d : D) | ow (ds : List D) | ob (C : Addr) (fs : List (Str × D)) | ex (C : Addr) (fs : List (Str × D))
/-- self's address; the caught error's -/
structure Pt where
  p : Addr
  a : Addr
  dd : Addr
def S2.sl (π : Pt) : S2 → Sl
  | .no => .no
  | .sh d => .sh d
  | .ow ds => .ow ds
  | .ob C fs => .ob π.p C fs
  | .ex C fs => .sh (.exc π.a π.dd fs)
def S2.vwL : S2 → S2
  | .ow ds => .sh (.lst ds)
  | .ob _ _ => .no
  | s => s
def S2.vwO : S2 → S2
  | .ow ds => .sh (.lst ds)
  | .ob C fs => .sh (.obj C fs)
  | s => s
def S2.hd : S2 → S2
  | .ow _ => .no
  | .ob _ _ => .no
  | s => s
inductive Out where
  | nx (γ : List S2) | rt (d : D) | rn (ds : List D) | bk (γ : List S2) | ct (γ : List S2) | xc (C : Addr) (fs : List (Str × D)) (γ : List S2)

/-! ### the tables -/
structure Phi where
  ga : Nat → Addr
  glob : Nat → Option D
  ccon : Nat → Str → Option D
  mn : Nat → Str
  meth : Addr → Nat → Option Nat
  cmeth : Nat → Nat → Option Nat
  ctor : Addr → Option Nat
  arr : Nat → List PA
  pf : Nat → Nat
  fld : Addr → Str → Bool
  efld : Nat → Option Str
  isX : Addr → Nat → Option Bool
  isB : Addr → String → Option Bool
  call : Nat → List D → Option RR
  isO : Addr → Nat → Option Bool := fun _ _ => none
  itf : Addr → Option Str := fun _ => none
  xfl : Addr → Str → Bool := fun _ _ => false

/-! ### data operations -/
def okMul (i j : Int) : Prop := i.natAbs.log2 + j.natAbs.log2 < 1000000
instance (i j : Int) : Decidable (okMul i j) := by unfold okMul; infer_instance
def okDiv (j : Int) : Prop := 0 < j ∧ j.natAbs.log2 < 9000
instance (j : Int) : Decidable (okDiv j) := by unfold okDiv; infer_instance
def okPow (i j : Int) : Prop := 0 ≤ j ∧ j ≤ 1000000 ∧ i.natAbs < 2 ^ 64
instance (i j : Int) : Decidable (okPow i j) := by unfold okPow; infer_instance
def iv (i : Int) : Option RR := some (.val (.int i))
def bv (b : Bool) : Option RR := some (.val (.bl b))
def okRg (i : Int) : Prop := -(2 ^ 62) ≤ i ∧ i < 2 ^ 62
instance (i : Int) : Decidable (okRg i) := by unfold okRg; infer_instance
/-- lists of whole numbers -/
def ints? : List D → Option (List Int)
  | [] => some []
  | .int i :: r => (ints? r).map (i :: ·)
  | _ => none
def binD : Operator → D → D → Option RR
  | .Add, .int i, .int j => iv (i + j)
  | .Add, .str u, .str v => if u.length + v.length ≤ 100000 then some (.val (.str (u ++ v))) else none
  | .Add, .tup a, .tup b => if a.length + b.length ≤ 100000 then some (.val (.tup (a ++ b))) else none
  | .Add, .lst a, .lst b => if a.length + b.length ≤ 100000 then some (.new (a ++ b)) else none
  | .Sub, .int i, .int j => iv (i - j)
  | .Mult, .int i, .int j => if okMul i j then iv (i * j) else none
  | .Mod, .int i, .int j => if 0 < j then iv (i % j) else none
  | .FloorDiv, .int i, .int j => if okDiv j then iv (i / j) else none
  | .Pow, .int i, .int j => if okPow i j then iv (i ^ j.toNat) else none
  | .Mult, .lst ds, .int j => if okRg j ∧ ds.length * j.toNat ≤ 100000 then some (.new (List.replicate j.toNat ds).flatten) else none
  | _, _, _ => none
def negD : D → Option RR
  | .int i => iv (-i)
  | _ => none
def notD : D → Option RR
  | .bl b => bv (!b)
  | _ => none
/-- as a test -/
def tst (t : Bool) (r : Option RR) : Option RR := match t with
  | false => r
  | true => RR.and r fun
    | .bl b => bv b
    | .lst ds => bv (!ds.isEmpty)
    | .int i => bv (i != 0)
    | _ => none
/-- x in xs, flat things -/
def memI (i : Int) (ds : List D) : Option Bool := match ds with
  | [] => some false
  | .int j :: r => (memI i r).map fun b => decide (i = j) || b
  | _ => none
def cmpD : CmpOp → D → D → Option Bool
  | .Eq, .int i, .int j => some (decide (i = j))
  | .Eq, .str i, .str j => some (decide (i = j))
  | .Eq, .bl i, .bl j => some (decide (i = j))
  | .NotEq, .int i, .int j => some (!decide (i = j))
  | .NotEq, .bl i, .bl j => some (!decide (i = j))
  | .NotEq, .str i, .str j => some (!decide (i = j))
  | .Lt, .int i, .int j => some (decide (i < j))
  | .LtE, .int i, .int j => some (decide (i ≤ j))
  | .Gt, .int i, .int j => some (decide (j < i))
  | .GtE, .int i, .int j => some (decide (j ≤ i))
  | .LtE, .str i, .str j => some (leS i j)
  | .Eq, .lst a, .lst b => (ints? a).bind fun x => (ints? b).map fun y => decide (x = y)
  | .NotEq, .tup a, .tup b => (ints? a).bind fun x => (ints? b).map fun y => !decide (x = y)
  | .NotIn, .int i, .lst ds => (memI i ds).map fun b => !b
  | _, _, _ => none
def iscD : D → D → Option Bool
  | .non, x => some x.isNon
  | .bl b, x => some (x.isBl b)
  | _, _ => none
def subD : D → D → Option RR
  | .lst ds, .int i => (atI ds i).map .val
  | .rol ds, .int i => (atI ds i).map .val
  | .tup ds, .int i => (atI ds i).map .val
  | .str x, .int i => if x.length ≤ 100000 then (atI x.cps.toList i).map fun n => .val (.str ⟨#[n]⟩) else none
  | _, _ => none
def cutS (x : Str) (lo hi : Option Int) : Str := L2.cutS x lo hi
def slcD (x : D) (lo hi : Option Int) : Option RR := match x with
  | .lst ds => some (.new (Pd.cutD ds lo hi))
  | .tup ds => some (.val (.tup (Pd.cutD ds lo hi)))
  | .str u => if u.length ≤ 100000 then some (.val (.str (cutS u lo hi))) else none
  | _ => none
def zpD (a b : List D) : List D := (a.zip b).map fun p => .tup [p.1, p.2]
def itms : IK → List D → Option (List D)
  | .vl, [.lst l] => some l
  | .vl, [.rol l] => some l
  | .vl, [.tup l] => some l
  | .vl, [.str u] => some (sgn u)
  | .rg, [.int j] => if okRg j then some (rngD 0 j.toNat) else none
  | .rg, [.int i, .int j] => if okRg i ∧ okRg j then some (rngD i (j - i).toNat) else none
  | .en, [.lst l] => some (enD l)
  | .en, [.tup l] => some (enD l)
  | .ow, [.tup l] => some l
  | _, _ => none
def biD : BI → List D → Option RR
  | .len, [.lst ds] => iv ds.length
  | .len, [.rol ds] => iv ds.length
  | .len, [.tup ds] => iv ds.length
  | .len, [.str x] => if x.length ≤ 100000 then iv x.length else none
  | .int, [.int i] => iv i
  | .int, [.bl b] => iv (if b then 1 else 0)
  | .list, [.lst ds] => some (.new ds)
  | .list, [.rol ds] => some (.new ds)
  | .list, [.tup ds] => some (.new ds)
  | .tuple, [.lst ds] => some (.val (.tup ds))
  | .tuple, [.tup ds] => some (.val (.tup ds))
  | .ord, [.str u] => if u.length = 1 then iv (u.cps.getD 0 0 : Nat) else none
  | .trg, [.int i] => if 0 ≤ i ∧ i ≤ 1000000 then some (.val (.tup (rngD 0 i.toNat))) else none
  | .lrv, [.lst ds] => some (.new ds.reverse)
  | .lset, [.tup ds] => (ints? ds).bind fun ns => if ns.length ≤ 4000 then iv (kinds ns).length else none
  | _, _ => none
/-- lists of texts -/
def strs? : List D → Option (List Str)
  | [] => some []
  | .str i :: r => (strs? r).map (i :: ·)
  | _ => none
def bmT : BM → D → Bool
  | .count, .lst _ => true
  | .index, .lst _ => true
  | .join, .str _ => true
  | .find, .str _ => true
  | _, _ => false
def bmD : BM → D → List D → Option RR
  | .count, .lst ds, [.str x] => (strs? ds).bind fun xs => iv (xs.count x : Nat)
  | .index, .lst ds, [.str x] => (strs? ds).bind fun xs => if xs.idxOf x < xs.length then iv (xs.idxOf x : Nat) else none
  | .join, .str u, [.lst ds] => (strs? ds).bind fun xs => if (xs.map (·.length)).sum + xs.length * u.length ≤ 16777216 then some (.val (.str (Txt.join u xs))) else none
  | .find, .str u, [.str v] => iv (Txt.find u v)
  | .index, .lst ds, [.int x] => (ints? ds).bind fun xs => if xs.idxOf x < xs.length then iv (xs.idxOf x : Nat) else none
  | _, _, _ => none
def lrgD : List D → Option RR
  | [.int i] => if okRg i ∧ i.toNat ≤ 50000 then some (.new (rngD 0 i.toNat)) else none
  | [.int i, .int j] => if okRg i ∧ okRg j ∧ (j - i).toNat ≤ 50000 then some (.new (rngD i (j - i).toNat)) else none
  | _ => none
def gcdD : List D → Option RR
  | [.int a, .int b] => iv (Nat.gcd a.natAbs b.natAbs : Nat)
  | _ => none
def paD (ds es : List D) : PA → D
  | .pos j => ds.getD j .non
  | .kw j => es.getD j .non
  | .dfl d => d
/-- the targets hold d -/
def put (tg : List Nat) (d : D) (γ : List S2) : Option (List S2) := match tg, d with
  | [i], d => some (γ.set i (.sh d))
  | [i, j], .tup [x, y] => some ((γ.set i (.sh x)).set j (.sh y))
  | _, _ => none
def wip (γ : List S2) : List Nat → List S2
  | [] => γ
  | v :: vs => (wip γ vs).set v .no
def blk (γ : List S2) (tg : List Nat) : List S2 := wip (γ.map S2.hd) tg
def lcGo (f : D → Option (Option D)) : List D → Option (List D)
  | [] => some []
  | d :: r => match f d with
    | none => none
    | some o => match lcGo f r with
      | none => none
      | some l => some (match o with
        | some y => y :: l
        | none => l)
def lcGo2 (f : D → Option (List D)) : List D → Option (List D)
  | [] => some []
  | d :: r => match f d with
    | none => none
    | some o => match lcGo2 f r with
      | none => none
      | some l => some (o ++ l)
def bl? : Option RR → Option Bool
  | some (.val (.bl b)) => some b
  | _ => none

mutual
def ev (Φ : Phi) (γ : List S2) (t : Bool) : IE → Option RR
  | .cst d => tst t (some (.val d))
  | .loc i => tst t (match γ[i]? with
    | some (.sh d) => some (.val d)
    | _ => none)
  | .glo n => tst t ((Φ.glob n).map .val)
  | .kls n => tst t (some (.val (.adr (Φ.ga n))))
  | .bin op a b => tst t (RR.and (ev Φ γ false a) fun x => RR.and (ev Φ γ false b) fun y => binD op x y)
  | .neg a => tst t (RR.and (ev Φ γ false a) negD)
  | .not a => RR.and (ev Φ γ t a) notD
  | .and a b => RR.and (ev Φ γ t a) fun
    | .bl true => ev Φ γ t b
    | .bl false => bv false
    | _ => none
  | .or a b => RR.and (ev Φ γ t a) fun
    | .bl true => bv true
    | .bl false => ev Φ γ t b
    | _ => none
  | .ife c a b => match t with
    | true => none
    | false => match bl? (ev Φ γ true c) with
      | some true => ev Φ γ false a
      | some false => ev Φ γ false b
      | none => none
  | .cmp op a b => RR.and (ev Φ γ false a) fun x => RR.and (ev Φ γ false b) fun y => (cmpD op x y).bind bv
  | .chn op op' a b c => RR.and (ev Φ γ false a) fun x => RR.and (ev Φ γ false b) fun y => match cmpD op x y with
    | none => none
    | some false => bv false
    | some true => RR.and (ev Φ γ false c) fun z => (cmpD op' y z).bind bv
  | .isc n a d => RR.and (ev Φ γ false a) fun x => (iscD d x).bind fun b => bv (if n then !b else b)
  | .fn f as => tst t (evL Φ γ as fun ds => Φ.call f ds)
  | .fnk f p as kvs => tst t (evL Φ γ as fun ds => evL Φ γ kvs fun es => Φ.call f ((Φ.arr p).map (paD ds es)))
  | .mk f p as kvs => tst t (evL Φ γ as fun ds => evL Φ γ kvs fun es => Φ.call f ((Φ.arr p).map (paD ds es)))
  | .mth o m p as kvs => tst t (RR.and (ev Φ γ false o) fun x => match x with
    | .obj C fs => if Φ.meth C m = some (Φ.pf p) ∧ (fs.lookup (Φ.mn m)).isNone = true then evL Φ γ as fun ds => evL Φ γ kvs fun es => Φ.call (Φ.pf p) (.obj C fs :: (Φ.arr p).map (paD ds es)) else none
    | _ => none)
  | .cm c m p as kvs => tst t (if Φ.cmeth c m = some (Φ.pf p) then evL Φ γ as fun ds => evL Φ γ kvs fun es => Φ.call (Φ.pf p) (.adr (Φ.ga c) :: (Φ.arr p).map (paD ds es)) else none)
  | .lmk i as => tst t (match γ[i]? with
    | some (.sh (.adr C)) => (match Φ.ctor C with
      | some f => evL Φ γ as fun ds => Φ.call f ds
      | none => none)
    | _ => none)
  | .bi b as => tst t (evL Φ γ as fun ds => biD b ds)
  | .bm b o as => tst t (RR.and (ev Φ γ false o) fun x => if bmT b x then evL Φ γ as fun ds => bmD b x ds else none)
  | .ins a n => RR.and (ev Φ γ false a) fun x => match x with
    | .obj C _ => (Φ.isO C n).bind bv
    | _ => none
  | .inb a n => RR.and (ev Φ γ false a) fun x => match x.tyN with
    | some t => (kitB t n).bind bv
    | none => none
  | .att o f => tst t (RR.and (ev Φ γ false o) fun x => match x with
    | .obj C fs => if Φ.fld C f then (fs.lookup f).map .val else none
    | _ => none)
  | .exa i f => tst t (match γ[i]? with
    | some (.ex C fs) => if Φ.xfl C f then (fs.lookup f).map .val else none
    | _ => none)
  | .exi i n => match γ[i]? with
    | some (.ex C _) => (Φ.isX C n).bind bv
    | _ => none
  | .exb i n => match γ[i]? with
    | some (.ex C _) => (Φ.isB C n).bind bv
    | _ => none
  | .con c f => tst t ((Φ.ccon c f).map .val)
  | .sub a b => tst t (RR.and (ev Φ γ false a) fun x => RR.and (ev Φ γ false b) fun y => subD x y)
  | .slc a lo hi => tst t (RR.and (ev Φ γ false a) fun x => match evO Φ γ lo, evO Φ γ hi with
    | some l, some h => slcD x l h
    | _, _ => none)
  | .rev a => tst t (RR.and (ev Φ γ false a) fun x => match x with
    | .tup ds => some (.val (.tup ds.reverse))
    | _ => none)
  | .lst es => tst t (evL Φ γ es fun ds => if ds.length ≤ 100000 then some (.new ds) else none)
  | .tup es => tst t (evL Φ γ es fun ds => if ds.length ≤ 100000 then some (.val (.tup ds)) else none)
  | .lc elt tg k its cond => tst t (match (evD Φ γ its).bind (itms k) with
    | none => none
    | some items => if items.length ≤ 50000 then (lcGo (fun d => match put tg d (blk γ tg) with
      | none => none
      | some γ2 => match evC Φ γ2 cond with
        | some true => (RR.d? (ev Φ γ2 false elt)).map some
        | some false => some none
        | none => none) items).map .new else none)
  | .lc2 elt t1 k1 its1 t2 k2 its2 => tst t (match (evD Φ γ its1).bind (itms k1) with
    | none => none
    | some items => if items.length ≤ 300 then (lcGo2 (fun d => match put t1 d (blk γ (t1 ++ t2)) with
      | none => none
      | some γ2 => match (evD Φ γ2 its2).bind (itms k2) with
        | none => none
        | some items2 => if items2.length ≤ 300 then lcGo (fun d2 => match put t2 d2 (blk γ2 t2) with
          | none => none
          | some γ3 => (RR.d? (ev Φ γ3 false elt)).map some) items2 else none) items).map .new else none)
  | .gcd as => tst t (evL Φ γ as gcdD)
  | .lrg as => tst t (evL Φ γ as lrgD)
  | .itr a => tst t (RR.and (ev Φ γ false a) fun x => match x with
    | .obj C fs => (match Φ.itf C with
      | some f => (match fs.lookup f with
        | some (.tup ds) => some (.val (.tup ds))
        | _ => none)
      | none => none)
    | _ => none)
def evL (Φ : Phi) (γ : List S2) : List IE → (List D → Option RR) → Option RR
  | [], k => k []
  | e :: es, k => RR.and (ev Φ γ false e) fun d => evL Φ γ es fun ds => k (d :: ds)
def evC (Φ : Phi) (γ : List S2) : List IE → Option Bool
  | [] => some true
  | e :: _ => bl? (ev Φ γ true e)
def evO (Φ : Phi) (γ : List S2) : List IE → Option (Option Int)
  | [] => some none
  | e :: _ => match RR.d? (ev Φ γ false e) with
    | some (.int i) => some (some i)
    | _ => none
def evD (Φ : Phi) (γ : List S2) : List IE → Option (List D)
  | [] => some []
  | e :: es => match RR.d? (ev Φ γ false e), evD Φ γ es with
    | some d, some ds => some (d :: ds)
    | _, _ => none
end

/-! ### no list hangs on it -/
mutual
def na : D → Bool
  | .non => true
  | .bl _ => true
  | .int _ => true
  | .str _ => true
  | .ty _ => true
  | .adr _ => true
  | .tup ds => nas ds
  | .obj _ fs => naf fs
  | _ => false
def nas : List D → Bool
  | [] => true
  | d :: r => na d && nas r
def naf : List (Str × D) → Bool
  | [] => true
  | (_, d) :: r => na d && naf r
end
def RR.na : RR → Bool
  | .val d => Ev.na d
  | .new ds => nas ds
  | .exc _ fs => naf fs
def RR.sc : RR → Bool
  | .val d => d.sc
  | _ => false
def frz (γ : List S2) : List Nat → List S2
  | [] => γ
  | i :: r => match γ[i]? with
    | some (.ow ds) => frz (γ.set i (.sh (.lst ds))) r
    | _ => frz γ r
/-- an expression from a body's state -/
def evP (Φ : Phi) (γ : List S2) : Vw → IE → Option (List S2 × RR)
  | .pl, e => (ev Φ γ false e).map fun r => (γ, r)
  | .vw, e => (ev Φ (γ.map S2.vwL) false e).bind fun r => if r.na then some (γ, r) else none
  | .vo, e => (ev Φ (γ.map S2.vwO) false e).bind fun r => if r.sc then some (γ, r) else none
  | .fz us, e => (ev Φ (frz γ us) false e).map fun r => (frz γ us, r)
def forGo (put : D → List S2 → Option (List S2)) (f : List S2 → Option Out) : List D → List S2 → Option Out
  | [], γ => some (.nx γ)
  | d :: r, γ => match put d γ with
    | none => none
    | some γ1 => match f γ1 with
      | some (.nx γ2) => forGo put f r γ2
      | some (.ct γ2) => forGo put f r γ2
      | some (.bk γ2) => some (.nx γ2)
      | o => o
def Out.then (o : Option Out) (k : List S2 → Option Out) : Option Out := match o with
  | some (.nx γ) => k γ
  | o => o
def setS (i : Nat) (γ : List S2) : RR → Option Out
  | .val d => some (.nx (γ.set i (.sh d)))
  | .new ds => some (.nx (γ.set i (.ow ds)))
  | .exc C fs => some (.xc C fs γ)
mutual
def evS (Φ : Phi) : IS → List S2 → Option Out
  | .asg v i e, γ => match evP Φ γ v e with
    | some (γ1, r) => setS i γ1 r
    | none => none
  | .asgs v tg e, γ => match evP Φ γ v e with
    | some (γ1, .val d) => (put tg d γ1).map .nx
    | some (γ1, .exc C fs) => some (.xc C fs γ1)
    | _ => none
  | .seti v i ix e, γ => match evP Φ γ v e with
    | some (γ1, r) => (match RR.d? (some r), RR.d? (ev Φ (γ1.map S2.vwO) false ix), γ1[i]? with
      | some d, some (.int j), some (.ow ds) => (ixN ds.length j).map fun n => .nx (γ1.set i (.ow (ds.set n d)))
      | _, _, _ => none)
    | _ => none
  | .app v i e, γ => match evP Φ γ v e with
    | some (γ1, r) => (match RR.d? (some r), γ1[i]? with
      | some d, some (.ow ds) => if ds.length < 100000 then some (.nx (γ1.set i (.ow (ds ++ [d])))) else none
      | _, _ => none)
    | _ => none
  | .fld v f e, γ => match evP Φ γ v e with
    | some (γ1, r) => (match r, RR.d? (some r), (γ1[0]? : Option S2) with
      | .exc C fs, _, _ => some (.xc C fs γ1)
      | _, some d, some (.ob C fs) => if fs.length < 1000 ∧ Φ.fld C f = true then some (.nx (γ1.set 0 (.ob C (putFD f d fs)))) else none
      | _, _, _ => none)
    | _ => none
  | .ret v e, γ => match evP Φ γ v e with
    | some (_, .val d) => some (.rt d)
    | some (_, .new ds) => some (.rn ds)
    | some (γ1, .exc C fs) => some (.xc C fs γ1)
    | none => none
  | .reto i, γ => match γ[i]? with
    | some (.ow ds) => some (.rn ds)
    | _ => none
  | .retN, _ => some (.rt .non)
  | .ite c a b, γ => match ev Φ (γ.map S2.vwO) true c with
    | some (.val (.bl true)) => evSs Φ a γ
    | some (.val (.bl false)) => evSs Φ b γ
    | _ => none
  | .for us tg k its body, γ => (match (evD Φ (frz γ us) its).bind (itms k) with
    | some items => forGo (put tg) (fun γ1 => evSs Φ body γ1) items (frz γ us)
    | none => none)
  | .raise v C e, γ => match evP Φ γ v e with
    | some (γ1, .val d) => (Φ.efld C).map fun f => .xc (Φ.ga C) [(f, d)] γ1
    | _ => none
  | .exp v e, γ => match evP Φ γ v e with
    | some (γ1, .exc C fs) => some (.xc C fs γ1)
    | some (γ1, _) => some (.nx γ1)
    | none => none
  | .try body C i suite, γ => match evSs Φ body γ with
    | some (.xc A fs γ1) => (match Φ.isX A C with
      | some true => (match evSs Φ suite (γ1.set i (.ex A fs)) with
        | some (.nx γ2) => some (.nx (γ2.set i .no))
        | some (.rt d) => some (.rt d)
        | some (.rn ds) => some (.rn ds)
        | _ => none)
      | _ => none)
    | o => o
  | .pass, γ => some (.nx γ)
  | .brk, γ => some (.bk γ)
  | .cont, γ => some (.ct γ)
def evSs (Φ : Phi) : List IS → List S2 → Option Out
  | [], γ => some (.nx γ)
  | s :: r, γ => Out.then (evS Φ s γ) fun γ1 => evSs Φ r γ1
end
end Ev
end

section
set_option Elab.async false
set_option linter.all false
set_option maxRecDepth 100000
set_option maxHeartbeats 0
set_option autoImplicit false
namespace L01
open PySem PySem.Spec PyProof.Rows L2 Pd Ev
def top (i : Nat) : Stmt := PySem.Challenge.pw_beadmoot_k01_strands.main.body.getD i (.Pass ⟨0, 0, 0, 0⟩)

def ir0 : List IS := [.ite (.not (.chn .LtE .Lt (.cst (.int 0)) (.loc 0) (.loc 1))) [.raise .pl 3 (.loc 0)] []]
def ir1 : List IS := [.ite (.chn .LtE .LtE (.cst (.str ("a" : PySem.Str))) (.loc 0) (.cst (.str ("z" : PySem.Str)))) [.ret .pl (.bin .Sub (.bi .ord [(.loc 0)]) (.bi .ord [(.cst (.str ("a" : PySem.Str)))]))] [], .ret .pl (.neg (.cst (.int 1)))]
def ir2 : List IS := [.asg .pl 1 (.bi .len [(.loc 0)]), .ret (.fz [2, 1]) (.lc (.loc 2) [2] .rg [(.loc 1)] [(.cmp .NotEq (.sub (.loc 0) (.loc 2)) (.sub (.loc 0) (.bin .Mod (.bin .Add (.loc 2) (.cst (.int 1))) (.loc 1))))])]
def ir3 : List IS := [.ite (.cmp .Lt (.loc 1) (.bi .len [(.loc 0)])) [.ret .pl (.sub (.loc 0) (.loc 1))] [], .ret .pl (.cst (.int 0))]
def ir4 : List IS := [.asg .pl 2 (.bin .Mod (.bi .int [(.bin .Add (.bin .Add (.loc 0) (.bin .Mult (.cst (.int 7919)) (.loc 1))) (.cst (.int 13)))]) (.cst (.int 2147483647))), .asg (.fz [2]) 2 (.bin .Mod (.bi .int [(.bin .Mult (.loc 2) (.bin .Add (.loc 2) (.cst (.int 48271))))]) (.cst (.int 2147483629))), .asg (.fz [2]) 2 (.bin .Mod (.bi .int [(.bin .Add (.bin .Mult (.loc 2) (.bin .Add (.loc 2) (.cst (.int 69621)))) (.bin .Mult (.cst (.int 31)) (.loc 1)))]) (.cst (.int 2147483647))), .ret (.fz [2]) (.bin .FloorDiv (.loc 2) (.cst (.int 9)))]
def ir5 : List IS := [.asg .pl 3 (.lst []), .asg .pl 4 (.loc 0), .for [] [5] .rg [(.loc 1)] [.ite (.and (.cmp .GtE (.loc 0) (.bin .Pow (.cst (.int 10)) (.cst (.int 18)))) (.cmp .Gt (.loc 4) (.cst (.int 0)))) [.app (.fz [4]) 3 (.bin .Mod (.bi .int [(.loc 4)]) (.loc 2)), .asg (.fz [4]) 4 (.bin .FloorDiv (.loc 4) (.loc 2))] [.app (.fz [5]) 3 (.bin .Mod (.bi .int [(.fn 4 [(.loc 0), (.loc 5)])]) (.loc 2))]], .reto 3]
def ir6 : List IS := [.asg .pl 3 (.fn 5 [(.fn 3 [(.loc 0), (.loc 1)]), (.cst (.int 4)), (.cst (.int 1000))]), .asg (.fz [3]) 4 (.bin .Add (.cst (.int 2)) (.bin .Mod (.sub (.loc 3) (.cst (.int 0))) (.bin .Sub (.loc 2) (.cst (.int 1))))), .asg (.fz [3]) 5 (.sub (.lst [(.cst (.int 1)), (.cst (.int 2)), (.cst (.int 2)), (.cst (.int 3)), (.cst (.int 3)), (.cst (.int 4)), (.cst (.int 6)), (.cst (.int 24))]) (.bin .Mod (.sub (.loc 3) (.cst (.int 1))) (.cst (.int 8)))), .asg (.fz [3]) 6 (.sub (.lst [(.cst (.int 1)), (.cst (.int 7)), (.cst (.int 333)), (.cst (.int 999))]) (.bin .Mod (.sub (.loc 3) (.cst (.int 3))) (.cst (.int 4)))), .asg (.fz [4, 5]) 7 (.fn 5 [(.fn 3 [(.loc 0), (.bin .Add (.loc 1) (.cst (.int 1)))]), (.loc 4), (.loc 5)]), .ret (.fz [7, 3, 8, 6]) (.lc (.bin .Mod (.bi .int [(.bin .Add (.sub (.loc 3) (.cst (.int 2))) (.bin .Mult (.loc 8) (.loc 6)))]) (.cst (.int 1000))) [8] .vl [(.loc 7)] [])]
def ir7 : List IS := [.ret .pl (.and (.inb (.loc 0) "int") (.not (.inb (.loc 0) "bool")))]
def ir8 : List IS := [.ite (.isc false (.loc 1) .non) [.ret .pl (.isc false (.loc 0) .non)] [], .ite (.isc false (.loc 1) (.bl true)) [.ret .pl (.isc false (.loc 0) (.bl true))] [], .ite (.isc false (.loc 1) (.bl false)) [.ret .pl (.isc false (.loc 0) (.bl false))] [], .ite (.inb (.loc 1) "int") [.ret .pl (.and (.fn 7 [(.loc 0)]) (.cmp .Eq (.loc 0) (.loc 1)))] [], .ite (.inb (.loc 1) "str") [.ret .pl (.and (.inb (.loc 0) "str") (.cmp .Eq (.loc 0) (.loc 1)))] [], .ite (.or (.cmp .NotEq (.inb (.loc 1) "list") (.inb (.loc 0) "list")) (.cmp .NotEq (.inb (.loc 1) "tuple") (.inb (.loc 0) "tuple"))) [.ret .pl (.cst (.bl false))] [], .ite (.and (.not (.inb (.loc 0) "list")) (.not (.inb (.loc 0) "tuple"))) [.ret .pl (.cst (.bl false))] [], .ite (.cmp .NotEq (.bi .len [(.loc 0)]) (.bi .len [(.loc 1)])) [.ret .pl (.cst (.bl false))] [], .for [] [2] .rg [(.bi .len [(.loc 1)])] [.ite (.not (.fn 8 [(.sub (.loc 0) (.loc 2)), (.sub (.loc 1) (.loc 2))])) [.ret .pl (.cst (.bl false))] []], .ret .pl (.cst (.bl true))]
def ir9 : List IS := [.asg .pl 1 (.lst [(.lst [(.cst (.int 7)), (.cst (.int 7))]), (.lst [(.cst (.int 999)), (.cst (.int 0))]), (.lst [(.cst (.int 0)), (.cst (.int 999))]), (.lst [(.cst (.int 1)), (.cst (.int 2)), (.cst (.int 1))]), (.lst [(.cst (.int 1)), (.cst (.int 2)), (.cst (.int 3))]), (.lst [(.cst (.int 1)), (.cst (.int 2)), (.cst (.int 1)), (.cst (.int 2))]), (.lst [(.cst (.int 1)), (.cst (.int 2)), (.cst (.int 1)), (.cst (.int 3)), (.cst (.int 1))]), (.lst [(.cst (.int 1)), (.cst (.int 2)), (.cst (.int 1)), (.cst (.int 2)), (.cst (.int 1))])]), .asg (.fz [1]) 1 (.bin .Add (.loc 1) (.lst [(.lst [(.cst (.int 0)), (.cst (.int 1)), (.cst (.int 2)), (.cst (.int 0)), (.cst (.int 0)), (.cst (.int 2)), (.cst (.int 1)), (.cst (.int 0))]), (.lst [(.cst (.int 1)), (.cst (.int 1)), (.cst (.int 2)), (.cst (.int 1)), (.cst (.int 1)), (.cst (.int 0)), (.cst (.int 0)), (.cst (.int 1)), (.cst (.int 0)), (.cst (.int 1)), (.cst (.int 0)), (.cst (.int 1)), (.cst (.int 0)), (.cst (.int 0))]), (.bin .Mult (.lst [(.cst (.int 500))]) (.cst (.int 24)))])), .asg (.fz [1]) 1 (.bin .Add (.loc 1) (.lst [(.lrg [(.cst (.int 976)), (.cst (.int 1000))]), (.bin .Mult (.lst [(.cst (.int 3)), (.cst (.int 4))]) (.cst (.int 12))), (.lst [(.cst (.int 5)), (.cst (.int 5)), (.cst (.int 5)), (.cst (.int 6))]), (.lst [(.cst (.int 6)), (.cst (.int 5)), (.cst (.int 5)), (.cst (.int 5))]), (.bin .Add (.bin .Add (.bin .Mult (.lst [(.cst (.int 8))]) (.cst (.int 11))) (.lst [(.cst (.int 9)), (.cst (.int 9))])) (.bin .Mult (.lst [(.cst (.int 8))]) (.cst (.int 11))))])), .ret (.fz [1]) (.sub (.loc 1) (.bin .Mod (.bi .int [(.loc 0)]) (.cst (.int 16))))]
def ir10 : List IS := [.asg .pl 1 (.fn 5 [(.fn 3 [(.loc 0), (.cst (.int 0))]), (.cst (.int 3)), (.cst (.int 1000))]), .ite (.cmp .Lt (.bin .Mod (.bi .int [(.sub (.loc 1) (.cst (.int 0)))]) (.cst (.int 6))) (.cst (.int 2))) [.ret (.fz [1]) (.fn 9 [(.sub (.loc 1) (.cst (.int 1)))])] [], .ite (.cmp .Eq (.bin .Mod (.bi .int [(.sub (.loc 1) (.cst (.int 0)))]) (.cst (.int 6))) (.cst (.int 2))) [.ret (.fz [1]) (.fn 5 [(.fn 3 [(.loc 0), (.cst (.int 2))]), (.bin .Add (.cst (.int 2)) (.bin .Mod (.bi .int [(.sub (.loc 1) (.cst (.int 2)))]) (.cst (.int 23)))), (.cst (.int 1000))])] [], .ret (.fz [1]) (.fn 6 [(.loc 0), (.cst (.int 1)), (.sub (.lst [(.cst (.int 9)), (.cst (.int 24))]) (.bin .Mod (.bi .int [(.sub (.loc 1) (.cst (.int 1)))]) (.cst (.int 2))))])]
def ir11 : List IS := [.asg .pl 2 (.fn 5 [(.fn 3 [(.loc 0), (.loc 1)]), (.cst (.int 8)), (.cst (.int 1000))]), .asg (.fz [2]) 3 (.bin .Mod (.bi .int [(.sub (.loc 2) (.cst (.int 0)))]) (.cst (.int 28))), .ite (.cmp .Eq (.bin .Mod (.bi .int [(.sub (.loc 2) (.cst (.int 1)))]) (.cst (.int 8))) (.cst (.int 0))) [.asg (.fz [2]) 3 (.bin .Add (.cst (.int 25)) (.bin .Mod (.bi .int [(.sub (.loc 2) (.cst (.int 2)))]) (.cst (.int 276))))] [], .asg (.fz [3]) 4 (.fn 5 [(.bin .Add (.fn 3 [(.loc 0), (.bin .Add (.loc 1) (.cst (.int 1)))]) (.cst (.int 1))), (.loc 3), (.cst (.int 1000))]), .asg .pl 5 (.bin .Add (.cst (.int 1000)) (.bin .Mod (.bi .int [(.fn 3 [(.loc 0), (.bin .Add (.loc 1) (.cst (.int 2)))])]) (.bin .Pow (.cst (.int 10)) (.cst (.int 40))))), .asg (.fz [5]) 6 (.lst [(.neg (.cst (.int 1))), (.cst (.int 1000)), (.loc 5), (.bin .Sub (.cst (.int 999)) (.loc 5)), (.cst (.int 0)), (.cst (.int 999))]), .asg (.fz [2]) 7 (.lst [(.bin .Mod (.bi .int [(.sub (.loc 2) (.cst (.int 7)))]) (.cst (.int 6))), (.bin .Mod (.bin .FloorDiv (.bi .int [(.sub (.loc 2) (.cst (.int 7)))]) (.cst (.int 6))) (.cst (.int 6))), (.bin .Mod (.bin .FloorDiv (.bi .int [(.sub (.loc 2) (.cst (.int 7)))]) (.cst (.int 36))) (.cst (.int 6)))]), .for [2] [8] .rg [(.bin .Mod (.bi .int [(.sub (.loc 2) (.cst (.int 3)))]) (.cst (.int 4)))] [.ite (.cmp .Gt (.loc 3) (.cst (.int 0))) [.seti (.fz [6, 7, 8]) 4 (.bin .Mod (.bi .int [(.sub (.loc 2) (.bin .Add (.cst (.int 4)) (.loc 8)))]) (.loc 3)) (.sub (.loc 6) (.sub (.loc 7) (.loc 8)))] []], .ret (.fz [4]) (.loc 4)]
def ir12 : List IS := [.asg .pl 2 (.cst (.str ("abcdefghijklmnopqrstuvwxyz" : PySem.Str))), .asg .pl 3 (.cst (.str (" !\"#$&'()*+,-./0123456789:;<=>?@ABCDEFGHIJKLMNOPQRSTUVWXYZ[\\]^_`" : PySem.Str))), .asg (.fz [3]) 3 (.bin .Add (.loc 3) (.cst (.str ("{|}~\naz" : PySem.Str)))), .asg .pl 4 (.fn 5 [(.bin .Add (.fn 3 [(.loc 0), (.loc 1)]) (.cst (.int 2))), (.cst (.int 10)), (.cst (.int 1000))]), .asg (.fz [4]) 5 (.bin .Mod (.bi .int [(.sub (.loc 4) (.cst (.int 0)))]) (.cst (.int 28))), .asg (.fz [4]) 6 (.sub (.lst [(.cst (.int 2)), (.cst (.int 3)), (.cst (.int 26)), (.cst (.int 26))]) (.bin .Mod (.bi .int [(.sub (.loc 4) (.cst (.int 2)))]) (.cst (.int 4)))), .ite (.cmp .Eq (.bin .Mod (.bi .int [(.sub (.loc 4) (.cst (.int 1)))]) (.cst (.int 8))) (.cst (.int 0))) [.asg (.fz [4]) 5 (.bin .Add (.cst (.int 25)) (.bin .Mod (.bi .int [(.sub (.loc 4) (.cst (.int 2)))]) (.cst (.int 276))))] [], .asg (.fz [2, 9, 5, 6]) 7 (.lc (.sub (.loc 2) (.loc 9)) [9] .vl [(.fn 5 [(.bin .Add (.fn 3 [(.loc 0), (.bin .Add (.loc 1) (.cst (.int 1)))]) (.cst (.int 3))), (.loc 5), (.loc 6)])] []), .for [4] [8] .rg [(.bin .Mod (.bi .int [(.sub (.loc 4) (.cst (.int 3)))]) (.cst (.int 4)))] [.ite (.cmp .Gt (.loc 5) (.cst (.int 0))) [.seti (.fz [3, 4, 8]) 7 (.bin .Mod (.bi .int [(.sub (.loc 4) (.bin .Add (.cst (.int 4)) (.loc 8)))]) (.loc 5)) (.sub (.loc 3) (.bin .Mod (.bi .int [(.sub (.loc 4) (.bin .Add (.cst (.int 7)) (.loc 8)))]) (.bi .len [(.loc 3)])))] []], .ret (.fz [7]) (.bm .join (.cst (.str ("" : PySem.Str))) [(.loc 7)])]
def ir13 : List IS := [.ite (.or (.cmp .Lt (.bi .len [(.loc 0)]) (.cst (.int 2))) (.cmp .Gt (.bi .len [(.loc 0)]) (.cst (.int 24)))) [.ret .pl (.tup [(.cst (.str ("BadStrand" : PySem.Str))), (.cst .non)])] [], .for [] [1] .rg [(.bi .len [(.loc 0)])] [.ite (.or (.cmp .Lt (.sub (.loc 0) (.loc 1)) (.cst (.int 0))) (.cmp .Gt (.sub (.loc 0) (.loc 1)) (.cst (.int 999)))) [.ret (.fz [1]) (.tup [(.cst (.str ("BadStrand" : PySem.Str))), (.loc 1)])] []], .ret .pl (.cst .non)]
def ir14 : List IS := [.try [.ite (.loc 1) [.ret .pl (.tup [(.cst (.str ("ok" : PySem.Str))), (.mk 24 0 [] [(.loc 0)])])] [], .ret .pl (.tup [(.cst (.str ("ok" : PySem.Str))), (.mk 24 1 [(.loc 0)] [])])] 2 2 [.ret (.fz [2]) (.tup [(.cst (.str ("BadStrand" : PySem.Str))), (.exa 2 ("at" : PySem.Str))])]]
def ir15 : List IS := [.try [.ite (.loc 1) [.ret .pl (.tup [(.cst (.str ("ok" : PySem.Str))), (.cm 0 0 2 [] [(.loc 0)])])] [], .ret .pl (.tup [(.cst (.str ("ok" : PySem.Str))), (.cm 0 0 3 [(.loc 0)] [])])] 2 2 [.ret (.fz [2]) (.tup [(.cst (.str ("BadStrand" : PySem.Str))), (.exa 2 ("at" : PySem.Str))])]]
def ir16 : List IS := [.try [.ite (.loc 2) [.ret .pl (.tup [(.cst (.str ("ok" : PySem.Str))), (.att (.mth (.loc 0) 3 4 [] [(.loc 1)]) ("kinds" : PySem.Str))])] [], .ret .pl (.tup [(.cst (.str ("ok" : PySem.Str))), (.att (.mth (.loc 0) 3 5 [(.loc 1)] []) ("kinds" : PySem.Str))])] 3 3 [.ret (.fz [3]) (.tup [(.cst (.str ("NoSuchBead" : PySem.Str))), (.exa 3 ("bead" : PySem.Str))])]]
def ir17 : List IS := [.try [.exp .pl (.mk 24 1 [(.loc 0)] [])] 1 1 [.ite (.or (.not (.exb 1 "ValueError")) (.not (.exi 1 2))) [.ret .pl (.cst (.bl false))] [], .ret (.fz [1]) (.and (.not (.exi 1 3)) (.not (.exi 1 5)))], .ret .pl (.cst (.bl false))]
def ir18 : List IS := [.try [.exp .pl (.mth (.loc 0) 3 5 [(.loc 1)] [])] 1 2 [.ite (.or (.not (.exb 2 "ValueError")) (.not (.exi 2 3))) [.ret .pl (.cst (.bl false))] [], .ret (.fz [2]) (.and (.not (.exi 2 2)) (.not (.exi 2 4)))], .ret .pl (.cst (.bl false))]
def ir19 : List IS := [.asg .pl 1 (.bi .len [(.loc 0)]), .asg (.fz [4, 1]) 2 (.lc (.loc 4) [4] .rg [(.loc 1)] [(.cmp .NotEq (.sub (.loc 0) (.loc 4)) (.sub (.loc 0) (.bin .Sub (.loc 4) (.cst (.int 1)))))]), .ite (.cmp .Eq (.loc 2) (.lst [])) [.ret (.fz [1]) (.lst [(.bi .trg [(.loc 1)])])] [], .ite (.cmp .NotEq (.sub (.loc 2) (.cst (.int 0))) (.cst (.int 0))) [.asg (.fz [2]) 2 (.bin .Add (.slc (.loc 2) [(.neg (.cst (.int 1)))] []) (.slc (.loc 2) [] [(.neg (.cst (.int 1)))]))] [], .asg .pl 3 (.lst []), .for [2] [4] .rg [(.bi .len [(.loc 2)])] [.asg (.fz [1, 2, 4]) 5 (.bin .Mod (.bi .int [(.bin .Sub (.sub (.loc 2) (.bin .Mod (.bi .int [(.bin .Add (.loc 4) (.cst (.int 1)))]) (.bi .len [(.loc 2)]))) (.sub (.loc 2) (.loc 4)))]) (.loc 1)), .app (.fz [1, 5, 6, 2, 4]) 3 (.bi .tuple [(.lc (.bin .Mod (.bi .int [(.bin .Add (.sub (.loc 2) (.loc 4)) (.loc 6))]) (.loc 1)) [6] .rg [(.loc 5)] [])])], .ret (.fz [3]) (.loc 3)]
def ir20 : List IS := [.ite (.not (.ins (.loc 0) 0)) [.ret .pl (.cst (.bl false))] [], .asg .pl 2 (.bi .len [(.loc 1)]), .asg (.fz [11, 2]) 3 (.lc (.loc 11) [11] .rg [(.loc 2)] [(.cmp .NotEq (.sub (.loc 1) (.loc 11)) (.sub (.loc 1) (.bin .Sub (.loc 11) (.cst (.int 1)))))]), .asg (.fz [11, 2]) 4 (.lc (.loc 11) [11] .rg [(.loc 2)] [(.cmp .NotIn (.sub (.loc 1) (.loc 11)) (.slc (.loc 1) [] [(.loc 11)]))]), .asg .pl 5 (.lst [(.att (.loc 0) ("kinds" : PySem.Str)), (.att (.loc 0) ("size" : PySem.Str)), (.att (.loc 0) ("unlike_pairs" : PySem.Str)), (.att (.loc 0) ("ends_unlike" : PySem.Str)), (.att (.loc 0) ("variety" : PySem.Str))]), .asg (.fz [2, 3, 4]) 6 (.lst [(.bi .tuple [(.loc 1)]), (.loc 2), (.bi .len [(.loc 3)]), (.bi .int [(.cmp .NotEq (.sub (.loc 1) (.cst (.int 0))) (.sub (.loc 1) (.neg (.cst (.int 1)))))]), (.bi .len [(.loc 4)])]), .ite (.or (.not (.fn 8 [(.loc 5), (.loc 6)])) (.not (.fn 8 [(.bi .list [.itr (.loc 0)]), (.bi .list [(.loc 1)])]))) [.ret .pl (.cst (.bl false))] [], .ite (.cmp .Lt (.loc 2) (.cst (.int 9))) [.asg .pl 9 (.lst []), .for [] [10] .ow [.itr (.loc 0)] [.for [] [12] .ow [.itr (.loc 0)] [.app (.fz [10, 12]) 9 (.tup [(.loc 10), (.loc 12)]), .ite (.cmp .Gt (.bi .len [(.loc 9)]) (.bin .Mult (.loc 2) (.loc 2))) [.ret .pl (.cst (.bl false))] []]], .ite (.or (.cmp .NotEq (.bi .len [(.loc 9)]) (.bin .Mult (.loc 2) (.loc 2))) (.or (.cmp .NotEq (.sub (.loc 9) (.bin .Sub (.loc 2) (.cst (.int 1)))) (.tup [(.sub (.loc 1) (.cst (.int 0))), (.sub (.loc 1) (.neg (.cst (.int 1))))])) (.cmp .NotEq (.sub (.loc 9) (.neg (.cst (.int 1)))) (.tup [(.sub (.loc 1) (.neg (.cst (.int 1)))), (.sub (.loc 1) (.neg (.cst (.int 1))))])))) [.ret .pl (.cst (.bl false))] []] [], .asg .pl 7 (.mth (.loc 0) 1 6 [] []), .ite (.not (.fn 8 [(.loc 7), (.fn 19 [(.loc 1)])])) [.ret .pl (.cst (.bl false))] [], .asg .pl 8 (.mth (.loc 0) 1 6 [] []), .seti (.fz [2]) 8 (.cst (.int 0)) (.tup [(.loc 2), (.loc 2)]), .app .pl 8 (.tup []), .ite (.not (.fn 8 [(.loc 7), (.fn 19 [(.loc 1)])])) [.ret .pl (.cst (.bl false))] [], .seti (.fz [2]) 7 (.cst (.int 0)) (.tup [(.loc 2), (.loc 2)]), .app .pl 7 (.tup []), .ret .pl (.fn 8 [(.mth (.loc 0) 1 6 [] []), (.fn 19 [(.loc 1)])])]
def ir21 : List IS := [.asg .pl 2 (.fn 13 [(.loc 1)]), .ite (.isc true (.loc 2) .non) [.ret (.fz [2]) (.fn 8 [(.loc 0), (.loc 2)])] [], .ret .pl (.and (.cmp .Eq (.sub (.loc 0) (.cst (.int 0))) (.cst (.str ("ok" : PySem.Str)))) (.fn 20 [(.sub (.loc 0) (.cst (.int 1))), (.loc 1)]))]
def ir22 : List IS := [.asg .pl 5 (.bi .len [(.loc 1)]), .for [5] [6] .rg [(.loc 5)] [.asg (.fz [6]) 8 (.tup [(.cst (.str ("ok" : PySem.Str))), (.bi .tuple [(.bin .Add (.slc (.loc 1) [(.loc 6)] []) (.slc (.loc 1) [] [(.loc 6)]))])]), .ite (.not (.fn 8 [(.fn 16 [(.loc 0), (.loc 6), (.loc 4)]), (.loc 8)])) [.ret .pl (.cst (.bl false))] []], .for [5] [6] .vl [(.lst [(.neg (.cst (.int 1))), (.loc 5), (.neg (.loc 5)), (.bin .Add (.loc 5) (.loc 3)), (.bin .Sub (.neg (.cst (.int 1))) (.loc 3))])] [.ite (.not (.fn 8 [(.fn 16 [(.loc 0), (.loc 6), (.loc 4)]), (.tup [(.cst (.str ("NoSuchBead" : PySem.Str))), (.loc 6)])])) [.ret .pl (.cst (.bl false))] []], .asg (.fz [5]) 7 (.bin .Mod (.bi .int [(.loc 2)]) (.loc 5)), .ite (.not (.fn 18 [(.loc 0), (.sub (.lst [(.neg (.cst (.int 1))), (.loc 5)]) (.bin .Mod (.bi .int [(.loc 2)]) (.cst (.int 2))))])) [.ret .pl (.cst (.bl false))] [], .ret (.fz [7]) (.fn 20 [(.mth (.loc 0) 3 5 [(.loc 7)] []), (.bin .Add (.slc (.loc 1) [(.loc 7)] []) (.slc (.loc 1) [] [(.loc 7)]))])]
def ir23 : List IS := [.asg .pl 1 (.fn 10 [(.loc 0)]), .asg .pl 2 (.fn 5 [(.fn 3 [(.loc 0), (.cst (.int 3))]), (.cst (.int 4)), (.cst (.int 1000))]), .asg (.fz [2]) 3 (.cmp .Eq (.bin .Mod (.bi .int [(.sub (.loc 2) (.cst (.int 0)))]) (.cst (.int 8))) (.cst (.int 0))), .asg (.fz [1]) 4 (.bi .list [(.loc 1)]), .asg .vw 5 (.mk 24 1 [(.loc 4)] []), .ite (.or (.not (.fn 8 [(.loc 4), (.loc 1)])) (.not (.fn 20 [(.loc 5), (.loc 1)]))) [.ret .pl (.cst (.bl false))] [], .asg (.fz [1, 2]) 6 (.bin .Mod (.bi .int [(.sub (.loc 2) (.cst (.int 1)))]) (.bi .len [(.loc 1)])), .seti .vw 4 (.loc 6) (.bin .Mod (.bi .int [(.bin .Add (.sub (.loc 4) (.loc 6)) (.cst (.int 1)))]) (.cst (.int 1000))), .app .pl 4 (.cst (.int 5)), .asg .pl 7 (.fn 11 [(.loc 0), (.cst (.int 4))]), .asg (.fz [7, 2]) 8 (.sub (.lst [(.bi .list [(.loc 7)]), (.bi .tuple [(.loc 7)])]) (.bin .Mod (.bi .int [(.sub (.loc 2) (.cst (.int 2)))]) (.cst (.int 2)))), .ite (.or (.not (.fn 21 [(.fn 14 [(.loc 8), (.loc 3)]), (.loc 7)])) (.not (.fn 8 [(.bi .list [(.loc 8)]), (.loc 7)]))) [.ret .pl (.cst (.bl false))] [], .ite (.and (.isc true (.fn 13 [(.loc 7)]) .non) (.not (.fn 17 [(.loc 8)]))) [.ret .pl (.cst (.bl false))] [], .asg .pl 9 (.fn 12 [(.loc 0), (.cst (.int 7))]), .asg .pl 10 (.cst (.str ("abcdefghijklmnopqrstuvwxyz" : PySem.Str))), .asg (.fz [13, 9, 10]) 11 (.lc (.bm .find (.loc 10) [(.loc 13)]) [13] .vl [(.loc 9)] []), .ite (.not (.fn 21 [(.fn 15 [(.loc 9), (.loc 3)]), (.loc 11)])) [.ret .pl (.cst (.bl false))] [], .ite (.not (.fn 8 [(.lst [(.con 0 ("MOST" : PySem.Str)), (.con 0 ("TOP_KIND" : PySem.Str))]), (.lst [(.cst (.int 24)), (.cst (.int 999))])])) [.ret .pl (.cst (.bl false))] [], .ite (.not (.fn 20 [(.mth (.loc 5) 2 7 [] []), (.bi .lrv [(.loc 1)])])) [.ret .pl (.cst (.bl false))] [], .asg .pl 12 (.bin .Mod (.bi .int [(.fn 3 [(.loc 0), (.cst (.int 9))])]) (.bin .Pow (.cst (.int 10)) (.cst (.int 40)))), .ret (.fz [5, 1, 12, 3, 2]) (.and (.fn 22 [(.loc 5), (.loc 1), (.sub (.loc 2) (.cst (.int 3))), (.loc 12), (.loc 3)]) (.fn 20 [(.loc 5), (.loc 1)]))]
def ir24 : List IS := [.ite (.not (.chn .LtE .LtE (.cst (.int 2)) (.bi .len [(.loc 1)]) (.con 0 ("MOST" : PySem.Str)))) [.raise .pl 2 (.cst .non)] [], .for [] [2, 3] .en [(.loc 1)] [.ite (.not (.chn .LtE .LtE (.cst (.int 0)) (.loc 3) (.con 0 ("TOP_KIND" : PySem.Str)))) [.raise (.fz [2]) 2 (.loc 2)] []], .fld .pl ("kinds" : PySem.Str) (.bi .tuple [(.loc 1)]), .fld .vo ("size" : PySem.Str) (.bi .len [(.att (.loc 0) ("kinds" : PySem.Str))]), .fld .vo ("unlike_pairs" : PySem.Str) (.bi .len [(.fn 2 [(.att (.loc 0) ("kinds" : PySem.Str))])]), .fld .vo ("ends_unlike" : PySem.Str) (.ife (.cmp .NotEq (.sub (.att (.loc 0) ("kinds" : PySem.Str)) (.cst (.int 0))) (.sub (.att (.loc 0) ("kinds" : PySem.Str)) (.neg (.cst (.int 1))))) (.cst (.int 1)) (.cst (.int 0))), .fld .vo ("variety" : PySem.Str) (.bi .lset [(.att (.loc 0) ("kinds" : PySem.Str))])]
def ir25 : List IS := [.ret (.fz [2]) (.lmk 0 [(.lc (.fn 1 [(.loc 2)]) [2] .vl [(.loc 1)] [])])]
def ir26 : List IS := [.asg .pl 1 (.fn 2 [(.att (.loc 0) ("kinds" : PySem.Str))]), .ite (.not (.loc 1)) [.ret .pl (.lst [(.bi .trg [(.att (.loc 0) ("size" : PySem.Str))])])] [], .asg .pl 2 (.lst []), .asg (.fz [1]) 3 (.bin .Sub (.sub (.loc 1) (.neg (.cst (.int 1)))) (.att (.loc 0) ("size" : PySem.Str))), .for [1] [4] .vl [(.loc 1)] [.app (.fz [5, 3, 4]) 2 (.bi .tuple [(.lc (.bin .Mod (.loc 5) (.att (.loc 0) ("size" : PySem.Str))) [5] .rg [(.bin .Add (.loc 3) (.cst (.int 1))), (.bin .Add (.loc 4) (.cst (.int 1)))] [])]), .asg (.fz [4]) 3 (.loc 4)], .reto 2]
def ir27 : List IS := [.ret .pl (.mk 24 1 [(.rev (.att (.loc 0) ("kinds" : PySem.Str)))] [])]
def ir28 : List IS := [.exp .pl (.fn 0 [(.loc 1), (.att (.loc 0) ("size" : PySem.Str))]), .ret .pl (.mk 24 1 [(.bin .Add (.slc (.att (.loc 0) ("kinds" : PySem.Str)) [(.loc 1)] []) (.slc (.att (.loc 0) ("kinds" : PySem.Str)) [] [(.loc 1)]))] [])]
abbrev st0 : Stmt := top 7
def N0 : List PySem.Str := [("bead" : PySem.Str), ("size" : PySem.Str)]
def ps0 : List PySem.Str := [("bead" : PySem.Str), ("size" : PySem.Str)]
abbrev st1 : Stmt := top 8
def N1 : List PySem.Str := [("letter" : PySem.Str)]
def ps1 : List PySem.Str := [("letter" : PySem.Str)]
abbrev st2 : Stmt := top 9
def N2 : List PySem.Str := [("kinds" : PySem.Str), ("size" : PySem.Str), ("place" : PySem.Str)]
def ps2 : List PySem.Str := [("kinds" : PySem.Str)]
abbrev st3 : Stmt := top 12
def N3 : List PySem.Str := [("_law_script" : PySem.Str), ("_law_at" : PySem.Str)]
def ps3 : List PySem.Str := [("_law_script" : PySem.Str), ("_law_at" : PySem.Str)]
abbrev st4 : Stmt := top 13
def N4 : List PySem.Str := [("_law_cell_here" : PySem.Str), ("_law_k" : PySem.Str), ("_law_mixed_here" : PySem.Str)]
def ps4 : List PySem.Str := [("_law_cell_here" : PySem.Str), ("_law_k" : PySem.Str)]
abbrev st5 : Stmt := top 14
def N5 : List PySem.Str := [("_law_cell_here" : PySem.Str), ("_law_count" : PySem.Str), ("_law_size" : PySem.Str), ("_law_draws_here" : PySem.Str), ("_law_rest" : PySem.Str), ("_law_k" : PySem.Str)]
def ps5 : List PySem.Str := [("_law_cell_here" : PySem.Str), ("_law_count" : PySem.Str), ("_law_size" : PySem.Str)]
abbrev st6 : Stmt := top 15
def N6 : List PySem.Str := [("_law_script" : PySem.Str), ("_law_at" : PySem.Str), ("_law_most" : PySem.Str), ("_law_shape" : PySem.Str), ("_law_size" : PySem.Str), ("_law_variety" : PySem.Str), ("_law_step" : PySem.Str), ("_law_picks" : PySem.Str), ("_law_pick" : PySem.Str)]
def ps6 : List PySem.Str := [("_law_script" : PySem.Str), ("_law_at" : PySem.Str), ("_law_most" : PySem.Str)]
abbrev st7 : Stmt := top 16
def N7 : List PySem.Str := [("_law_actual" : PySem.Str)]
def ps7 : List PySem.Str := [("_law_actual" : PySem.Str)]
abbrev st8 : Stmt := top 17
def N8 : List PySem.Str := [("_law_actual" : PySem.Str), ("_law_expected" : PySem.Str), ("_law_k" : PySem.Str)]
def ps8 : List PySem.Str := [("_law_actual" : PySem.Str), ("_law_expected" : PySem.Str)]
abbrev st9 : Stmt := top 18
def N9 : List PySem.Str := [("_law_pick" : PySem.Str), ("_law_rows" : PySem.Str)]
def ps9 : List PySem.Str := [("_law_pick" : PySem.Str)]
abbrev st10 : Stmt := top 19
def N10 : List PySem.Str := [("_law_script" : PySem.Str), ("_law_pick" : PySem.Str)]
def ps10 : List PySem.Str := [("_law_script" : PySem.Str)]
abbrev st11 : Stmt := top 20
def N11 : List PySem.Str := [("_law_script" : PySem.Str), ("_law_at" : PySem.Str), ("_law_shape" : PySem.Str), ("_law_size" : PySem.Str), ("_law_row" : PySem.Str), ("_law_far" : PySem.Str), ("_law_bad" : PySem.Str), ("_law_signs" : PySem.Str), ("_law_k" : PySem.Str)]
def ps11 : List PySem.Str := [("_law_script" : PySem.Str), ("_law_at" : PySem.Str)]
abbrev st12 : Stmt := top 21
def N12 : List PySem.Str := [("_law_script" : PySem.Str), ("_law_at" : PySem.Str), ("_law_letters" : PySem.Str), ("_law_others" : PySem.Str), ("_law_shape" : PySem.Str), ("_law_size" : PySem.Str), ("_law_many" : PySem.Str), ("_law_signs" : PySem.Str), ("_law_k" : PySem.Str), ("_law_place" : PySem.Str)]
def ps12 : List PySem.Str := [("_law_script" : PySem.Str), ("_law_at" : PySem.Str)]
abbrev st13 : Stmt := top 22
def N13 : List PySem.Str := [("_law_row" : PySem.Str), ("_law_k" : PySem.Str)]
def ps13 : List PySem.Str := [("_law_row" : PySem.Str)]
abbrev st14 : Stmt := top 23
def N14 : List PySem.Str := [("_law_given" : PySem.Str), ("_law_by_name" : PySem.Str), ("e" : PySem.Str)]
def ps14 : List PySem.Str := [("_law_given" : PySem.Str), ("_law_by_name" : PySem.Str)]
abbrev st15 : Stmt := top 24
def N15 : List PySem.Str := [("_law_line_here" : PySem.Str), ("_law_by_name" : PySem.Str), ("e" : PySem.Str)]
def ps15 : List PySem.Str := [("_law_line_here" : PySem.Str), ("_law_by_name" : PySem.Str)]
abbrev st16 : Stmt := top 25
def N16 : List PySem.Str := [("_law_strand" : PySem.Str), ("_law_number" : PySem.Str), ("_law_by_name" : PySem.Str), ("e" : PySem.Str)]
def ps16 : List PySem.Str := [("_law_strand" : PySem.Str), ("_law_number" : PySem.Str), ("_law_by_name" : PySem.Str)]
abbrev st17 : Stmt := top 26
def N17 : List PySem.Str := [("_law_given" : PySem.Str), ("e" : PySem.Str)]
def ps17 : List PySem.Str := [("_law_given" : PySem.Str)]
abbrev st18 : Stmt := top 27
def N18 : List PySem.Str := [("_law_strand" : PySem.Str), ("_law_number" : PySem.Str), ("e" : PySem.Str)]
def ps18 : List PySem.Str := [("_law_strand" : PySem.Str), ("_law_number" : PySem.Str)]
abbrev st19 : Stmt := top 28
def N19 : List PySem.Str := [("_law_row" : PySem.Str), ("_law_size" : PySem.Str), ("_law_starts" : PySem.Str), ("_law_pieces" : PySem.Str), ("_law_k" : PySem.Str), ("_law_many" : PySem.Str), ("_law_j" : PySem.Str)]
def ps19 : List PySem.Str := [("_law_row" : PySem.Str)]
abbrev st20 : Stmt := top 29
def N20 : List PySem.Str := [("_law_strand" : PySem.Str), ("_law_row" : PySem.Str), ("_law_size" : PySem.Str), ("_law_places" : PySem.Str), ("_law_fresh" : PySem.Str), ("_law_told" : PySem.Str), ("_law_due_here" : PySem.Str), ("_law_pieces" : PySem.Str), ("_law_more" : PySem.Str), ("_law_walked" : PySem.Str), ("_law_one" : PySem.Str), ("_law_k" : PySem.Str), ("_law_two" : PySem.Str)]
def ps20 : List PySem.Str := [("_law_strand" : PySem.Str), ("_law_row" : PySem.Str)]
abbrev st21 : Stmt := top 30
def N21 : List PySem.Str := [("_law_told" : PySem.Str), ("_law_row" : PySem.Str), ("_law_due_here" : PySem.Str)]
def ps21 : List PySem.Str := [("_law_told" : PySem.Str), ("_law_row" : PySem.Str)]
abbrev st22 : Stmt := top 31
def N22 : List PySem.Str := [("_law_strand" : PySem.Str), ("_law_row" : PySem.Str), ("_law_pick" : PySem.Str), ("_law_far" : PySem.Str), ("_law_by_name" : PySem.Str), ("_law_size" : PySem.Str), ("_law_number" : PySem.Str), ("_law_spot" : PySem.Str), ("_law_due_here" : PySem.Str)]
def ps22 : List PySem.Str := [("_law_strand" : PySem.Str), ("_law_row" : PySem.Str), ("_law_pick" : PySem.Str), ("_law_far" : PySem.Str), ("_law_by_name" : PySem.Str)]
abbrev st23 : Stmt := top 32
def N23 : List PySem.Str := [("_law_script" : PySem.Str), ("_law_row" : PySem.Str), ("_law_pick" : PySem.Str), ("_law_by_name" : PySem.Str), ("_law_given" : PySem.Str), ("_law_strand" : PySem.Str), ("_law_spot" : PySem.Str), ("_law_second" : PySem.Str), ("_law_passed" : PySem.Str), ("_law_line_here" : PySem.Str), ("_law_letters" : PySem.Str), ("_law_third" : PySem.Str), ("_law_far" : PySem.Str), ("_law_sign" : PySem.Str)]
def ps23 : List PySem.Str := [("_law_script" : PySem.Str)]
abbrev st24 : Stmt := inClass (top 10) 2
def N24 : List PySem.Str := [("self" : PySem.Str), ("kinds" : PySem.Str), ("at" : PySem.Str), ("kind" : PySem.Str)]
def ps24 : List PySem.Str := [("self" : PySem.Str), ("kinds" : PySem.Str)]
abbrev st25 : Stmt := inClass (top 10) 3
def N25 : List PySem.Str := [("cls" : PySem.Str), ("text" : PySem.Str), ("letter" : PySem.Str)]
def ps25 : List PySem.Str := [("cls" : PySem.Str), ("text" : PySem.Str)]
abbrev st26 : Stmt := inClass (top 10) 4
def N26 : List PySem.Str := [("self" : PySem.Str), ("breaks" : PySem.Str), ("found" : PySem.Str), ("before" : PySem.Str), ("place" : PySem.Str), ("bead" : PySem.Str)]
def ps26 : List PySem.Str := [("self" : PySem.Str)]
abbrev st27 : Stmt := inClass (top 10) 5
def N27 : List PySem.Str := [("self" : PySem.Str)]
def ps27 : List PySem.Str := [("self" : PySem.Str)]
abbrev st28 : Stmt := inClass (top 10) 6
def N28 : List PySem.Str := [("self" : PySem.Str), ("bead" : PySem.Str)]
def ps28 : List PySem.Str := [("self" : PySem.Str), ("bead" : PySem.Str)]
end L01
end

section
set_option Elab.async false
set_option linter.all false
set_option maxRecDepth 100000
set_option maxHeartbeats 4000000
set_option autoImplicit false
namespace Ev
open PySem PySem.Spec PyProof.Rows L2 Pd

/-! ### what a reading wants -/
def KR (K : PySem.W.Frag) (r : RR) (Q : VK) (W : Addr → Addr → Hp → Prop) (Hs H : Hp) : Prop := match r with
  | .val d => ∀ v Hs' H', Gr Hs H Hs' H' → Rep K Hs' v d → Q v H'
  | .new ds => ∀ l vs Hs' H', Gr Hs H Hs' H' → H l = none → Hs' l = none → H' l = some (.lst vs) → Reps K Hs' vs ds → Q (.ref l) H'
  | .exc C fs => ∀ dd us Hs' H', Gr Hs H Hs' H' → Hs' dd = some (.xd us) → RepF K Hs' us fs → W C dd H'
theorem KR.go {K : PySem.W.Frag} {r : RR} {Q : VK} {W : Addr → Addr → Hp → Prop} {Hs H Hs1 H1 : Hp} (k : KR K r Q W Hs H) (g : Gr Hs H Hs1 H1) : KR K r Q W Hs1 H1 := by
  cases r with
  | val d => exact fun v Hs' H' g2 r => k v Hs' H' (g.trans g2) r
  | new ds => exact fun l vs Hs' H' g2 h1 h2 h3 r => k l vs Hs' H' (g.trans g2) (g.ext.free h1) h2 h3 r
  | exc C fs => exact fun dd us Hs' H' g2 h1 h2 => k dd us Hs' H' (g.trans g2) h1 h2
theorem KR.val {K : PySem.W.Frag} {d : D} {Q : VK} {W : Addr → Addr → Hp → Prop} {Hs H : Hp} {v : V} (k : KR K (.val d) Q W Hs H) (s : Same Hs H) (r : Rep K Hs v d) : Q v H := k v Hs H (Gr.refl s) r
/-- e gives r -/
def PG (X : Cx) (γ : List Sl) (e : Expr) (r : RR) : Prop := ∀ (W : WX), Takes X W → ∀ (σ : L2.St) (Hs H : Hp) (Q : VK), Same Hs H → SE X.K Hs σ γ →
  KR X.K r Q (fun C dd H' => W (.ref C) (some dd) σ H') Hs H → wE X e σ H Q
def PGT (X : Cx) (γ : List Sl) (e : Expr) (r : RR) : Prop := ∀ b, r = .val (.bl b) → PDT X γ e b
theorem takes0 {X : Cx} : Takes X (fun _ _ _ _ => False) := fun _ _ x => by
  obtain ⟨_, _, _, _, _, _, _, _, _, _, _, _, _, _, _, _, z⟩ := x
  exact z.elim
theorem PG.pd {X : Cx} {γ : List Sl} {e : Expr} {d : D} (h : PG X γ e (.val d)) : PD X γ e d := fun σ Hs H Q s E k => h _ takes0 σ Hs H Q s E k
theorem PG.pn {X : Cx} {γ : List Sl} {e : Expr} {d : List D} (h : PG X γ e (.new d)) : PN X γ e d := fun σ Hs H Q s E k => h _ takes0 σ Hs H Q s E k
theorem PG.px {X : Cx} {γ : List Sl} {e : Expr} {C : Addr} {fs : List (Str × D)} (h : PG X γ e (.exc C fs)) : PDX X γ e C fs := fun W tk σ Hs H Q s E k => h W tk σ Hs H Q s E k
theorem PG.of_pd {X : Cx} {γ : List Sl} {e : Expr} {d : D} (h : PD X γ e d) : PG X γ e (.val d) := fun W tk σ Hs H Q s E k => h σ Hs H Q s E k
theorem PG.of_pn {X : Cx} {γ : List Sl} {e : Expr} {d : List D} (h : PN X γ e d) : PG X γ e (.new d) := fun W tk σ Hs H Q s E k => h σ Hs H Q s E k

section
variable {X : Cx} {γ : List Sl} {a e : Expr} {es : List Expr} {pos : Pos}
theorem andR {ra r : RR} {f : D → Option RR} {W : WX} {σ : L2.St} {Hs H : Hp} {Q0 R : VK} (ha : PG X γ a ra) (h : RR.and (some ra) f = some r) (tk : Takes X W) (s : Same Hs H) (E : SE X.K Hs σ γ)
    (K : ∀ C fs, r = .exc C fs → KR X.K r Q0 (fun C dd H' => W (.ref C) (some dd) σ H') Hs H)
    (k : ∀ x v Hs1 H1, f x = some r → Gr Hs H Hs1 H1 → Rep X.K Hs1 v x → R v H1) : wE X a σ H R := by
  cases ra with
  | val x => exact ha W tk σ Hs H R s E fun v Hs' H' g q => k x v Hs' H' h g q
  | new ds =>
    refine ha W tk σ Hs H R s E fun l vs Hs' H' g h1 h2 h3 q => ?_
    obtain ⟨g', r'⟩ := share s g h1 h2 h3 q
    exact k _ _ _ H' h g' r'
  | exc C fs =>
    have e : RR.exc C fs = r := Option.some.inj h
    subst e
    exact ha W tk σ Hs H R s E (K C fs rfl)
end

/-! ### the checks -/
structure Md where
  sc : Scope
  N : List Str
  calm : Bool
structure Sta where
  fname : Nat → Option Str
  cname : Nat → Option Str
  gname : Nat → Option Str
  mname : Nat → Option Str
  ename : Nat → Option Str
  kname : Nat → Option Str
  plan : Nat → Option (Nat × Nat × List Str)
  frees : List Str
  gcd : Bool
def visB (M : Md) (n : Str) : Bool := match M.sc.names.lookup n with
  | some .local => true
  | some .cell => true
  | some .free => true
  | _ => false
def glB (M : Md) (n : Str) : Bool := match M.sc.names.lookup n with
  | some .globalImplicit => true
  | _ => false
def plainN (n : Str) : Bool := !(n == ("__debug__" : Str)) && !(n == ("__classdict__" : Str)) && !decide (n = ("__name__" : Str))
def biN : BI → Str
  | .len => "len" | .int => "int" | .list => "list" | .tuple => "tuple" | .sum => "sum" | .min => "min" | .max => "max" | .ord => "ord" | .bool => "bool" | .abs => "abs" | _ => ""
def biKnown (b : BI) : Bool := match bootBuiltins (biN b) with
  | some (.builtin _) => true
  | some (.type _) => true
  | _ => false
def bmN : BM → Str
  | .join => "join" | .find => "find" | .upper => "upper" | .count => "count" | .index => "index"
def isStar : Expr → Bool
  | .Starred _ _ => true
  | _ => false
def plainIx : Expr → Bool
  | .Slice _ _ _ _ => false
  | _ => true
def isSet : Expr → Bool
  | .Set _ _ _ => true
  | _ => false
def isComp : Expr → Bool
  | .ListComp _ _ _ _ => true
  | .SetComp _ _ _ _ => true
  | .DictComp _ _ _ _ _ => true
  | _ => false
def isCall0 : Expr → Bool
  | .Call (.Name x _) [] [] _ => x == ("super" : Str)
  | _ => false
def free (S : Sta) (M : Md) (n : Str) : Bool := glB M n && (S.frees.contains n && plainN n)
def all2 {α β : Type} (f : α → β → Bool) : List α → List β → Bool
  | [], [] => true
  | a :: as, b :: bs => f a b && all2 f as bs
  | _, _ => false
def isN (M : Md) (i : Nat) (n : Str) : Bool := decide (M.N[i]? = some n) && (visB M n && plainN n)
def okG (M : Md) (is : List Nat) (e : Expr) : Bool := match is, e with
  | [i], .Name n _ => decide (M.N[i]? = some n) && (match M.sc.names.lookup n with
    | some .local => true
    | _ => false)
  | [i, j], .Tuple [.Name n _, .Name m _] _ _ => (decide (M.N[i]? = some n) && (match M.sc.names.lookup n with
    | some .local => true
    | _ => false)) && (decide (M.N[j]? = some m) && (match M.sc.names.lookup m with
    | some .local => true
    | _ => false))
  | _, _ => false
def locB (M : Md) (n : Str) : Bool := match M.sc.names.lookup n with
  | some .local => true
  | some .cell => true
  | _ => false
/-- a statement's targets -/
def okGs (M : Md) (is : List Nat) (e : Expr) : Bool := match is, e with
  | [i], .Name n _ => decide (M.N[i]? = some n) && locB M n
  | [i, j], .Tuple [.Name n _, .Name m _] _ _ => (decide (M.N[i]? = some n) && locB M n) && (decide (M.N[j]? = some m) && locB M m)
  | _, _ => false
/-- a comprehension's target: local there, or a cell there -/
def okO (N : List Str) (own : List (Str × Nat)) (sc scope : Scope) : Bool := decide (scope.kind = .function) && ((scope.names.all fun y => decide (scope.names.lookup y.1 = some y.2)) && ((own.all fun p => decide (N[p.2]? = some p.1)) && ((scope.names.all fun y => !decide (y.2 = .free) || (decide (sc.names.lookup y.1 = some .cell) || decide (sc.names.lookup y.1 = some .free))) &&
  (scope.names.all fun y => !(decide (y.2 = .local) || decide (y.2 = .cell)) || ((own.map (·.1)).contains y.1 || !N.contains y.1)))))
def tgN : Expr → List Str
  | .Name n _ => [n]
  | .Tuple [.Name n _, .Name m _] _ _ => [n, m]
  | _ => []
def okC : D → Const → Bool
  | .non, .none => true
  | .bl b, .bool c => b == c
  | .int i, .int j => decide (i = j)
  | .str x, .str y => decide (x = y)
  | _, _ => false
def okKw (f : IE → Expr → Bool) (xs : List Expr) (as kvs : List IE) (kws : List Keyword) : Bool := decide (xs.length + kws.length + 1 < 30) && (all2 f as xs && all2 (fun a (k : Keyword) => f a k.value) kvs kws)
def okPl (S : Sta) (p : Nat) (f : Option Nat) (xs : List Expr) (kws : List Keyword) : Bool := match S.plan p with
  | some (f', m, ks) => (match f with
    | some f => decide (f' = f)
    | none => true) && (decide (m = xs.length) && decide (kws.map (·.arg) = ks.map some))
  | none => false
def okIt (f : IE → Expr → Bool) (S : Sta) (M : Md) (k : IK) (its : List IE) (e : Expr) : Bool := !isSet e && (match k, its, e with
  | .vl, [a], x => f a x
  | .rg, as, .Call (.Name n _) xs [] _ => decide (n = ("range" : Str)) && (free S M n && ((xs.length == 1 || xs.length == 2) && all2 f as xs))
  | .ow, [.itr a], x => M.calm && f a x
  | .en, as, .Call (.Name n _) xs [] _ => decide (n = ("enumerate" : Str)) && (free S M n && (xs.length == 1 && all2 f as xs))
  | _, _, _ => false)
def okA (F : Md → IE → Expr → Bool) (S : Sta) (M : Md) (ir : IE) (e : Expr) : Bool := match ir, e with
  | .cst d, .Constant c _ _ => okC d c
  | .loc i, .Name x _ => isN M i x
  | .glo k, .Name x _ => decide (S.gname k = some x) && (glB M x && plainN x)
  | .kls k, .Name x _ => decide (S.cname k = some x) && (glB M x && plainN x)
  | .bin op a b, .BinOp x op' y _ => decide (op = op') && (F M a x && F M b y)
  | .neg a, .UnaryOp .USub x _ => F M a x
  | .not a, .UnaryOp .Not x _ => F M a x
  | .and a b, .BoolOp .And [x, y] _ => F M a x && F M b y
  | .and a b, .BoolOp .And (x :: y :: z :: r) p => F M a x && F M b (.BoolOp .And (y :: z :: r) p)
  | .or a b, .BoolOp .Or [x, y] _ => F M a x && F M b y
  | .or a b, .BoolOp .Or (x :: y :: z :: r) p => F M a x && F M b (.BoolOp .Or (y :: z :: r) p)
  | .ife c a b, .IfExp x y z _ => F M c x && (F M a y && F M b z)
  | .cmp op a b, .Compare x [op'] [y] _ => decide (op = op') && (!isSet y && (F M a x && F M b y))
  | .chn o1 o2 a b c, .Compare x [q1, q2] [y, z] _ => decide (o1 = q1) && (decide (o2 = q2) && (!isSet z && (F M a x && (F M b y && F M c z))))
  | .isc false a d, .Compare x [.Is] [.Constant c _ _] _ => okC d c && F M a x
  | .isc true a .non, .Compare x [.IsNot] [.Constant .none _ _] _ => F M a x
  | .fn f as, .Call (.Name x _) xs [] _ => M.calm && (decide (S.fname f = some x) && (glB M x && (plainN x && (!xs.isEmpty && all2 (F M) as xs))))
  | .bi .trg [a], .Call (.Name x _) [.Call (.Name y _) [z] [] _] [] _ => M.calm && (decide (x = ("tuple" : Str)) && (free S M x && (decide (y = ("range" : Str)) && (free S M y && F M a z))))
  | .bi .lset [a], .Call (.Name x _) [.Call (.Name y _) [z] [] _] [] _ => M.calm && (decide (x = ("len" : Str)) && (free S M x && (decide (y = ("set" : Str)) && (free S M y && F M a z))))
  | .bi b as, .Call (.Name x _) xs [] _ => biKnown b && (decide (b ≠ .trg) && (decide (b ≠ .lset) && (decide (biN b = x) && (free S M x && (!xs.isEmpty && all2 (F M) as xs)))))
  | .inb a t, .Call (.Name x _) [y, .Name z _] [] _ => decide (x = ("isinstance" : Str)) && (free S M x && (free S M z && (decide (bootBuiltins z = some (.type t)) && F M a y)))
  | .att o f, .Attribute x g _ => decide (f = g) && (!isCall0 x && F M o x)
  | .sub a b, .Subscript x y _ => plainIx y && (F M a x && F M b y)
  | .lst es, .List xs _ => all2 (F M) es xs
  | .tup es, .Tuple xs _ _ => all2 (F M) es xs
  | .slc a lo hi, .Subscript x (.Slice l h none _) _ => F M a x && ((match lo, l with
    | [], none => true
    | [i], some y => F M i y
    | _, _ => false) && (match hi, h with
    | [], none => true
    | [i], some y => F M i y
    | _, _ => false))
  | .rev a, .Subscript x (.Slice none none (some (.UnaryOp .USub (.Constant (.int 1) _ _) _)) _) _ => F M a x
  | .lc elt tg k its cond, .ListComp y [⟨t, it, ifs, 0⟩] scope _ => M.calm && (okG { M with sc := relS scope M.sc } tg t && (okO M.N ((tgN t).zip tg) M.sc scope && (decide (tg.length = (tgN t).length) && ((decide (k ≠ .en) || decide (tg.length = 2)) && (okIt (F M) S M k its it && ((match cond, ifs with
    | [], [] => true
    | [c], [z] => F { M with sc := relS scope M.sc } c z
    | _, _ => false) && F { M with sc := relS scope M.sc } elt y))))))
  | _, _ => false
/-- the calls and the rest -/
def okY (F : Md → IE → Expr → Bool) (S : Sta) (M : Md) (ir : IE) (e : Expr) : Bool := match ir, e with
  | .fnk g p as kvs, .Call (.Name x _) xs kws _ => M.calm && (decide (S.fname g = some x) && (glB M x && (plainN x && (okPl S p (some g) xs kws && okKw (F M) xs as kvs kws))))
  | .mk g p as kvs, .Call (.Name x _) xs kws _ => M.calm && (decide (S.kname g = some x) && (glB M x && (plainN x && (okPl S p (some g) xs kws && okKw (F M) xs as kvs kws))))
  | .con c g, .Attribute (.Name x _) h _ => decide (S.cname c = some x) && (glB M x && (plainN x && decide (g = h)))
  | .gcd [a, b], .Call (.Name x _) [y, z] [] _ => S.gcd && (decide (x = ("gcd" : Str)) && (glB M x && (F M a y && F M b z)))
  | .bm b o [a], .Call (.Attribute y x ap) [z] [] q => decide (b ≠ .upper) && (decide (bmN b = x) && (!isCall0 y && (!isStar z && ((ap.endLine == q.line) && (F M o y && F M a z)))))
  | .mth o _m p as kvs, .Call (.Attribute y x ap) xs kws q => M.calm && (decide (S.mname _m = some x) && (!isCall0 y && ((ap.endLine == q.line) && (F M o y && (okPl S p none xs kws && okKw (F M) xs as kvs kws)))))
  | .cm c _m p as kvs, .Call (.Attribute (.Name y _) x ap) xs kws q => M.calm && (decide (S.mname _m = some x) && (decide (S.cname c = some y) && (glB M y && (plainN y && ((ap.endLine == q.line) && (okPl S p none xs kws && okKw (F M) xs as kvs kws))))))
  | .lmk i as, .Call (.Name x _) xs [] _ => M.calm && (isN M i x && (!xs.isEmpty && all2 (F M) as xs))
  | .ins a t, .Call (.Name x _) [y, .Name z _] [] _ => decide (x = ("isinstance" : Str)) && (free S M x && (decide (S.cname t = some z) && (glB M z && (plainN z && F M a y))))
  | .exa i f, .Attribute (.Name x _) g _ => isN M i x && decide (f = g)
  | .exi i t, .Call (.Name x _) [.Name y _, .Name z _] [] _ => decide (x = ("isinstance" : Str)) && (free S M x && (isN M i y && (decide (S.ename t = some z) && (glB M z && plainN z))))
  | .exb i t, .Call (.Name x _) [.Name y _, .Name z _] [] _ => decide (x = ("isinstance" : Str)) && (free S M x && (isN M i y && (free S M z && decide (bootBuiltins z = some (.type t)))))
  | .bi .list [.itr a], .Call (.Name x _) [y] [] _ => M.calm && (decide (x = ("list" : Str)) && (free S M x && F M a y))
  | .bi .lrv [a], .Call (.Name x _) [.Call (.Name y _) [z] [] _] [] _ => M.calm && (decide (x = ("list" : Str)) && (free S M x && (decide (y = ("reversed" : Str)) && (free S M y && F M a z))))
  | .lrg as, .Call (.Name x _) [.Call (.Name y _) xs [] _] [] _ => M.calm && (decide (x = ("list" : Str)) && (free S M x && (decide (y = ("range" : Str)) && (free S M y && ((xs.length == 1 || xs.length == 2) && all2 (F M) as xs)))))
  | .lc2 elt t1 k1 its1 t2 k2 its2, .ListComp y [⟨g1, i1, [], 0⟩, ⟨g2, i2, [], 0⟩] scope _ => M.calm && (okG { M with sc := relS scope M.sc } t1 g1 && (okG { M with sc := relS scope M.sc } t2 g2 && (okO M.N ((tgN g1 ++ tgN g2).zip (t1 ++ t2)) M.sc scope && (decide (t1.length = (tgN g1).length) && (decide (t2.length = (tgN g2).length) && ((decide (k1 ≠ .en) && decide (k2 ≠ .en)) && (okIt (F M) S M k1 its1 i1 &&
    (okIt (F { M with sc := relS scope M.sc }) S { M with sc := relS scope M.sc } k2 its2 i2 && F { M with sc := relS scope M.sc } elt y))))))))
  | _, _ => false
def okE (S : Sta) : Nat → Md → IE → Expr → Bool
  | 0, _, _, _ => false
  | n + 1, M, ir, e => okA (okE S n) S M ir e || okY (okE S n) S M ir e

/-! ### what is known of the module, of the context -/
def spC (K : PySem.W.Frag) (G : List D → Option RR) : Sp := fun vs H Q E => ∃ Hs ds r, Same Hs H ∧ Reps K Hs vs ds ∧ G ds = some r ∧ KR K r Q (fun C dd H' => E (.ref C) (some dd) H') Hs H
/-- a constructor, from data to fields -/
def spCI (K : PySem.W.Frag) (C : Addr) (G : List D → Option RR) : Sp := fun vs H Q E => ∃ Hs H1 p dx ws ds r, vs = .ref p :: ws ∧ H = upd (upd H1 dx (.own p)) p (.ins C dx []) ∧ H1 p = none ∧ H1 dx = none ∧ dx ≠ p ∧ Same Hs H1 ∧ Reps K Hs ws ds ∧ G ds = some r ∧
  (match r with
  | .val (.obj C' fs) => C' = C ∧ ∀ Hs' H' dx' us, Gr Hs H1 Hs' H' → Hs' p = none → H' p = some (.ins C dx' us) → RepF K Hs' us fs → Q .non H'
  | .exc CE fs => ∀ dd us Hs' H', Gr Hs H1 Hs' H' → Hs' dd = some (.xd us) → RepF K Hs' us fs → E (.ref CE) (some dd) H'
  | _ => False)
/-- what a maker answers -/
def MkSh (C : Addr) (r : RR) : Prop := (∃ fs, r = .val (.obj C fs)) ∨ ∃ CE fs, r = .exc CE fs
def PA.sh : PA → PA
  | .pos j => .pos (j + 1)
  | q => q
/-- how a call binds: m values by position, keywords ks, arranged by pl -/
def paV (vs zs : List V) : PA → V
  | .pos j => vs.getD j .non
  | .kw j => zs.getD j .non
  | .dfl (.int i) => .int i
  | .dfl (.bl b) => .bl b
  | .dfl (.str x) => .str x
  | .dfl _ => .non
def okPA (m n : Nat) : PA → Prop
  | .pos j => j < m
  | .kw j => j < n
  | .dfl d => d.sc = true
structure BD (K : PySem.W.Frag) (fd : FuncData) (ps : List Str) (m : Nat) (ks : List Str) (pl : List PA) : Prop where
  ex : ∃ g gV, KBn K fd ps m ks g gV ∧ ∀ vs zs, vs.length = m → zs.length = ks.length → gV vs zs = pl.map (paV vs zs)
  ok : ∀ q ∈ pl, okPA m ks.length q
structure Glo (Φ : Phi) (S : Sta) (k : Nat) (P : Program) (w : World) (K : PySem.W.Frag) (mg : Str → Option Value) (base : Heap) : Prop where
  gl : ∀ i n d, S.gname i = some n → Φ.glob i = some d → ∃ v u, mg n = some u ∧ RelV v u ∧ ∀ H, Rep K H v d
  kl : ∀ i n, S.cname i = some n → mg n = some (.ref (Φ.ga i))
  fr : ∀ n ∈ S.frees, mg n = none
  gc : S.gcd = true → mg ("gcd" : Str) = some (.builtin "math.gcd")
  fn : ∀ i n, S.fname i = some n → ∃ f fd ps, FnOk P w K mg base (L2.CX P w) k f fd ps (spC K (Φ.call i)) ∧ mg n = some (.ref f) ∧ PySem.W.keepIn K (.ref f) = true ∧ Binds K fd ps [] ∧ ∀ p m ks, S.plan p = some (i, m, ks) → BD K fd ps m ks (Φ.arr p)
  mkr : ∀ i n, S.kname i = some n → ∃ C f fd ps j, FnOk P w K mg base (L2.CX P w) j f fd ps (spCI K C (Φ.call i)) ∧ j + 1 ≤ k ∧ mg n = some (.ref C) ∧ Mk K C f ∧ (∀ ds r, Φ.call i ds = some r → MkSh C r) ∧ ∀ p m ks, S.plan p = some (i, m, ks) → BD K fd ps (m + 1) ks (.pos 0 :: (Φ.arr p).map PA.sh)
  me : ∀ C m n i, S.mname m = some n → Φ.meth C m = some i → Φ.mn m = n ∧ Cls K C ∧ ∃ f fd ps, FnOk P w K mg base (L2.CX P w) k f fd ps (spC K (Φ.call i)) ∧ Meth K C n f ∧ ∀ p m ks, S.plan p = some (i, m, ks) → BD K fd ps (m + 1) ks (.pos 0 :: (Φ.arr p).map PA.sh)
  pf : ∀ p i m ks, S.plan p = some (i, m, ks) → Φ.pf p = i
  co : ∀ c n f d, S.cname c = some n → Φ.ccon c f = some d → ∃ mc v u, ClX.CRead K (Φ.ga c) mc ∧ ClX.CVal K (Φ.ga c) mc f v u ∧ ∀ H, Rep K H v d
  is : ∀ C t n b, S.cname t = some n → Φ.isO C t = some b → b = true ∧ C = Φ.ga t ∧ C8.InsC K C
  it : ∀ C f, Φ.itf C = some f → OwnT K mg C f
  xn : ∀ t n, S.ename t = some n → mg n = some (.ref (Φ.ga t))
  xh : ∀ A t n b, S.ename t = some n → Φ.isX A t = some b → PySem.W.exmOne K (.ref A) (.ref (Φ.ga t)) = some b ∧ PySem.W.kitOne K (.ref A) (.ref (Φ.ga t)) = some b ∧ ExcC K A
  xb : ∀ A n b, Φ.isB A n = some b → PySem.W.kitOne K (.ref A) (.type n) = some b ∧ ExcC K A
  xf : ∀ C f, Φ.xfl C f = true → XfC K C ∧ PySem.W.findIn K (.ref C) f = some none
  cme : ∀ c m n nm i, S.cname c = some n → S.mname m = some nm → Φ.cmeth c m = some i → ∃ mc p f fd ps, FnOk P w K mg base (L2.CX P w) k f fd ps (spC K (Φ.call i)) ∧ ClX.CRead K (Φ.ga c) mc ∧ ClX.CMet K (Φ.ga c) mc nm p f ∧ ∀ q m ks, S.plan q = some (i, m, ks) → BD K fd ps (m + 1) ks (.pos 0 :: (Φ.arr q).map PA.sh)
  ctor : ∀ C i, Φ.ctor C = some i → ∃ f fd ps j, FnOk P w K mg base (L2.CX P w) j f fd ps (spCI K C (Φ.call i)) ∧ j + 1 ≤ k ∧ Mk K C f ∧ (∀ ds r, Φ.call i ds = some r → MkSh C r) ∧ Binds K fd ps []
  er : ∀ i n f, S.ename i = some n → Φ.efld i = some f → DE P w K mg base n (Φ.ga i) f
  at_ : ∀ C f, Φ.fld C f = true → Cls K C ∧ NoAttr K C f
structure XO (Φ : Phi) (S : Sta) (k : Nat) (M : Md) (X : Cx) : Prop where
  sc : X.env.scope = M.sc
  N : X.N = M.N
  nd : X.N.Nodup
  hr : M.calm = true → Room k X.A
  un : X.A.units + 16 * k + 200 < cLine
  k3 : 3 ≤ k
  calm : M.calm = true → X.calm = true
  pa : M.calm = true → PassesOwn (model X.prog X.w) X.A X.env X.xe
  g : Glo Φ S k X.prog X.w X.K X.mg X.base
/-- where a caught error stands in a slot, its suite runs -/
def XG (X : Cx) (π : Pt) (γ : List S2) : Prop := ∀ (i : Nat) C fs, γ[i]? = some (S2.ex C fs) → ∃ (X0 : Cx) (oe : Obj) (pn : List (Addr × Obj)), X = X0.suite π.a ((π.a, oe) :: pn) ∧ Zc (.ref C) (some π.dd) oe ∧ ∃ vs, oe.data = .fields vs
end Ev
end

section
set_option Elab.async false
set_option linter.all false
set_option maxRecDepth 100000
set_option maxHeartbeats 4000000
set_option autoImplicit false
namespace Ev
open PySem PySem.Spec PyProof.Rows L2 Pd
theorem ba {a b : Bool} (h : (a && b) = true) : a = true ∧ b = true := Bool.and_eq_true_iff.mp h
theorem nb {b : Bool} (h : (!b) = true) : b = false := by cases b <;> simp_all
/-! ### operations -/
section
variable {X : Cx}
theorem rd_eqB {K : PySem.W.Frag} {p q : Bool} : RVD K rEq (.bl p) (.bl q) (.bl (decide (p = q))) := fun Hs H _ _ Q s r1 r2 k => by
  cases r1; cases r2
  refine ⟨rfl, k _ _ _ (Gr.refl s) ?_⟩
  have : decide (V.bl p = V.bl q) = decide (p = q) := by simp
  rw [this]
  exact .bl _
theorem rd_neS {K : PySem.W.Frag} {u v : Str} : RVD K rNe (.str u) (.str v) (.bl (!decide (u = v))) := fun Hs H _ _ Q s r1 r2 k => by
  cases r1; cases r2
  refine ⟨rfl, k _ _ _ (Gr.refl s) ?_⟩
  have : decide (V.str u = V.str v) = decide (u = v) := by simp
  rw [this]
  exact .bl _
theorem ints_ok : ∀ {ds : List D} {ns : List Int}, ints? ds = some ns → ds = ns.map .int
  | [], _, h => by cases h; rfl
  | d :: r, ns, h => by
    unfold ints? at h
    split at h
    · next z => cases z
    · next i r' z =>
      cases z
      cases q : ints? r with
      | none => rw [q] at h; cases h
      | some l => rw [q] at h; cases h; rw [ints_ok q]; rfl
    · cases h
theorem repsI {K : PySem.W.Frag} {H : Hp} : ∀ {vs : List V} {xs : List Int}, Reps K H vs (xs.map D.int) → vs = xs.map V.int
  | [], [], _ => rfl
  | [], _ :: _, h => by cases h
  | _ :: _, [], h => by cases h
  | v :: vs, n :: ns, h => by
    cases h with
    | cons r t => cases r; rw [repsI t] <;> rfl
theorem dpI {K : PySem.W.Frag} {H : Hp} : ∀ xs : List Int, DpAll K H (xs.map V.int) (xs.map PyData.int)
  | [] => .nil
  | x :: xs => .cons (.int x) (dpI xs)
theorem layI : ∀ xs : List Int, PyData.canLayAll0 (xs.map PyData.int) = true
  | [] => rfl
  | x :: xs => by
    show (PyData.canLay0 (.int x) && PyData.canLayAll0 (xs.map PyData.int)) = true
    rw [layI xs]; rfl
theorem depI : ∀ xs : List Int, PyData.depthAll (xs.map PyData.int) = 0
  | [] => rfl
  | x :: xs => by
    show max (PyData.depth (.int x)) (PyData.depthAll (xs.map PyData.int)) = 0
    rw [depI xs]; rfl
theorem eqvI : ∀ xs ys : List Int, PyData.eqvAll (xs.map PyData.int) (ys.map PyData.int) = decide (xs = ys)
  | [], [] => rfl
  | [], _ :: _ => rfl
  | _ :: _, [] => rfl
  | x :: xs, y :: ys => by
    show (PyData.eqv (.int x) (.int y) && PyData.eqvAll (xs.map PyData.int) (ys.map PyData.int)) = _
    rw [eqvI xs ys]
    show ((x == y) && decide (xs = ys)) = decide (x :: xs = y :: ys)
    by_cases a : x = y
    · subst a
      by_cases b : xs = ys
      · subst b; simp
      · simp [b]
    · simp [a]
theorem shLI (xs : List Int) : SeqAt.shaped (.list (xs.map PyData.int)) = true := by
  show (PyData.canLayAll0 (xs.map PyData.int) && decide (PyData.depthAll (xs.map PyData.int) + 1 ≤ 64)) = true
  rw [layI, depI]; rfl
theorem shTI (xs : List Int) : SeqAt.shaped (.tuple (xs.map PyData.int)) = true := by
  show (PyData.canLayAll0 (xs.map PyData.int) && decide (PyData.depthAll (xs.map PyData.int) + 1 ≤ 64)) = true
  rw [layI, depI]; rfl
theorem memI_ok {K : PySem.W.Frag} {H : Hp} {i : Int} : ∀ {ds : List D} {vs : List V} {b : Bool}, memI i ds = some b → Reps K H vs ds → vs.all flatV = true ∧ inV (.int i) vs = b
  | [], _, b, h, .nil => by
    cases h
    exact ⟨rfl, rfl⟩
  | d :: ds, _, b, h, .cons r t => by
    unfold memI at h
    cases d with
    | int j =>
      dsimp only at h
      cases q : memI i ds with
      | none => rw [q] at h; cases h
      | some b' =>
        rw [q] at h
        cases h
        cases r
        obtain ⟨h1, h2⟩ := memI_ok q t
        refine ⟨by rw [List.all_cons, h1]; rfl, ?_⟩
        subst h2
        show ((j == i) || _) = (decide (i = j) || _)
        rw [show (j == i) = decide (i = j) from by
          by_cases e : i = j
          · subst e; simp
          · simp [e, Ne.symm e]]
        rfl
    | _ => cases h
theorem cmpR {op : CmpOp} {x y : D} {b : Bool} (h : cmpD op x y = some b) (hu : X.A.units + 64 < cLine) : ∃ r, OpR X (compareOp op) r ∧ RVD X.K r x y (.bl b) := by
  unfold cmpD at h
  split at h <;> first | cases h | skip
  · exact ⟨_, op_eq, rd_eqI⟩
  · exact ⟨_, op_eq, rd_eqS⟩
  · exact ⟨_, op_eq, rd_eqB⟩
  · exact ⟨_, op_ne, rd_neI⟩
  · exact ⟨_, op_ne, rd_neB⟩
  · exact ⟨_, op_ne, rd_neS⟩
  · exact ⟨_, op_lt, rd_I0 fun _ => .bl _⟩
  · exact ⟨_, op_le, rd_I0 fun _ => .bl _⟩
  · exact ⟨_, op_gt, rd_I0 fun _ => .bl _⟩
  · exact ⟨_, op_ge, rd_I0 fun _ => .bl _⟩
  · exact ⟨_, op_le_str, rd_leS⟩
  · next a c =>
    cases q1 : ints? a with
    | none => rw [q1] at h; cases h
    | some xs =>
      cases q2 : ints? c with
      | none => rw [q1, q2] at h; cases h
      | some ys =>
        rw [q1, q2] at h
        cases h
        rw [ints_ok q1, ints_ok q2]
        refine ⟨_, op_eqD hu, fun Hs H _ _ Q s r1 r2 k => ?_⟩
        cases r1 with
        | lst h1 r1 => cases r2 with
          | lst h2 r2 =>
            have e1 := repsI r1
            have e2 := repsI r2
            subst e1 e2
            refine ⟨_, _, .lst (.inl (.inl (s _ _ h1))) (dpI xs), .lst (.inl (.inl (s _ _ h2))) (dpI ys), shLI xs, shLI ys, k _ _ _ (Gr.refl s) ?_⟩
            rw [show PyData.eqv (.list (xs.map PyData.int)) (.list (ys.map PyData.int)) = PyData.eqvAll (xs.map PyData.int) (ys.map PyData.int) from rfl, eqvI]
            exact .bl _
  · next a c =>
    cases q1 : ints? a with
    | none => rw [q1] at h; cases h
    | some xs =>
      cases q2 : ints? c with
      | none => rw [q1, q2] at h; cases h
      | some ys =>
        rw [q1, q2] at h
        cases h
        rw [ints_ok q1, ints_ok q2]
        refine ⟨_, op_neD hu, fun Hs H _ _ Q s r1 r2 k => ?_⟩
        cases r1 with
        | tup h1 r1 => cases r2 with
          | tup h2 r2 =>
            have e1 := repsI r1
            have e2 := repsI r2
            subst e1 e2
            refine ⟨_, _, .tup (sqT_mono s h1) (dpI xs), .tup (sqT_mono s h2) (dpI ys), shTI xs, shTI ys, k _ _ _ (Gr.refl s) ?_⟩
            rw [show PyData.eqv (.tuple (xs.map PyData.int)) (.tuple (ys.map PyData.int)) = PyData.eqvAll (xs.map PyData.int) (ys.map PyData.int) from rfl, eqvI]
            exact .bl _
  · next i ds =>
    cases q : memI i ds with
    | none => rw [q] at h; cases h
    | some b' =>
      rw [q] at h
      cases h
      refine ⟨_, op_notIn_seq, fun Hs H _ _ Q s r1 r2 k => ?_⟩
      cases r1
      cases r2 with
      | lst h2 r2 =>
        obtain ⟨f1, f2⟩ := memI_ok q r2
        refine ⟨_, _, rfl, .inl (.inl (.inl (s _ _ h2))), rfl, f1, k _ _ _ (Gr.refl s) ?_⟩
        rw [f2]
        exact .bl _
/-- an operation of two, by what comes -/
def RVR (K : PySem.W.Frag) (r : R2) (x y : D) (rr : RR) : Prop := ∀ (Hs H : Hp) (v u : V) (Q : VK) (W : Addr → Addr → Hp → Prop), Same Hs H → Rep K Hs v x → Rep K Hs u y → KR K rr Q W Hs H → r v u H Q
theorem RVR.of {K : PySem.W.Frag} {r : R2} {x y z : D} (h : RVD K r x y z) : RVR K r x y (.val z) := fun Hs H v u Q W s r1 r2 k => h Hs H v u Q s r1 r2 k
theorem rd_catT {X : Cx} {ds es : List D} (hz : ds.length + es.length ≤ 100000) : ∃ r, OpR X (binaryOp .Add) r ∧ RVD X.K r (.tup ds) (.tup es) (.tup (ds ++ es)) := ⟨_, op_catA, fun Hs H v u Q s r1 r2 k => by
    cases r1 with
    | tup t1 r1 =>
      cases r2 with
      | tup t2 r2 =>
        refine ⟨_, _, _, _, rfl, rfl, sqT_mono s t1, sqT_mono s t2, sz_of (by rw [r1.length, r2.length]; exact hz), fun z => ?_, fun _ z => ?_, fun _ _ => newT s (r1.append r2) k⟩
        · have e := (reps_nil r1).mp z
          subst e
          exact k _ _ _ (Gr.refl s) (.tup t2 r2)
        · have e := (reps_nil r2).mp z
          subst e
          exact k _ _ _ (Gr.refl s) (by rw [List.append_nil]; exact .tup t1 r1)⟩
theorem reps_app {K : PySem.W.Frag} {H : Hp} {vs : List V} {ds : List D} {n : Nat} (r : Reps K H vs ds) : Reps K H (List.replicate n vs).flatten (List.replicate n ds).flatten := by
  induction n with
  | zero => exact .nil
  | succ n ih =>
    rw [List.replicate_succ, List.replicate_succ, List.flatten_cons, List.flatten_cons]
    exact r.append ih
theorem reps_rep {K : PySem.W.Frag} {H : Hp} {vs : List V} {ds : List D} (r : Reps K H vs ds) (n : Nat) : Reps K H (List.replicate n vs).flatten (List.replicate n ds).flatten := reps_app r
theorem binR {op : Operator} {x y : D} {rr : RR} (h : binD op x y = some rr) : ∃ r, OpR X (binaryOp op) r ∧ RVR X.K r x y rr := by
  unfold binD at h
  split at h
  · cases h
    exact ⟨_, op_add, .of (rd_I0 fun _ => .int _)⟩
  · split at h <;> cases h
    next hz => exact ⟨_, op_add_str, .of fun Hs H v u Q s r1 r2 k => by
      cases r1; cases r2
      exact ⟨_, _, rfl, rfl, sz_of hz, k _ _ _ (Gr.refl s) (.str _)⟩⟩
  · split at h <;> cases h
    next hz =>
      obtain ⟨r, h1, h2⟩ := rd_catT (X := X) hz
      exact ⟨r, h1, .of h2⟩
  · split at h <;> cases h
    next hz => exact ⟨_, op_cat, fun Hs H v u Q W s r1 r2 k => by
      cases r1 with
      | lst h1 r1 =>
        cases r2 with
        | lst h2 r2 => exact ⟨_, _, _, _, rfl, rfl, s _ _ h1, s _ _ h2, sz_of (by rw [r1.length, r2.length]; exact hz), newL s (r1.append r2) k⟩⟩
  · cases h
    exact ⟨_, op_sub, .of (rd_I0 fun _ => .int _)⟩
  · split at h <;> cases h
    next hz => exact ⟨_, op_mulW, .of (rd_I (fun _ => .int _) hz)⟩
  · split at h <;> cases h
    next hz => exact ⟨_, op_mod, .of (rd_I (fun _ => .int _) hz)⟩
  · split at h <;> cases h
    next hz => exact ⟨_, op_fdivW, .of (rd_I (fun _ => .int _) hz)⟩
  · split at h <;> cases h
    next hz => exact ⟨_, op_pow, .of (rd_I (fun _ => .int _) hz)⟩
  · split at h <;> cases h
    next hz => exact ⟨_, op_rep, fun Hs H v u Q W s r1 r2 k => by
      obtain ⟨hz1, hz2⟩ := hz
      unfold okRg at hz1
      cases r2
      cases r1 with
      | lst h1 r1 => exact ⟨_, _, _, rfl, rfl, s _ _ h1, by omega, by omega, sz_of (by rw [r1.length]; exact hz2), newL s (reps_rep r1 _) k⟩⟩
  · cases h
theorem negR {x : D} {rr : RR} (h : negD x = some rr) : ∃ i, x = .int i ∧ rr = .val (.int (-i)) := by
  unfold negD at h
  split at h <;> cases h
  exact ⟨_, rfl, rfl⟩
theorem notR {x : D} {rr : RR} (h : notD x = some rr) : ∃ b, x = .bl b ∧ rr = .val (.bl (!b)) := by
  unfold notD at h
  split at h <;> cases h
  exact ⟨_, rfl, rfl⟩
theorem subR {x y : D} {rr : RR} (h : subD x y = some rr) : ∃ r, IxR X r ∧ RVR X.K r x y rr := by
  unfold subD at h
  split at h
  · cases e : atI _ _ <;> rw [e] at h <;> cases h
    exact ⟨_, ix_list, .of (rd_ixL e)⟩
  · cases e : atI _ _ <;> rw [e] at h <;> cases h
    exact ⟨_, ix_list, .of (rd_ixR e)⟩
  · cases e : atI _ _ <;> rw [e] at h <;> cases h
    exact ⟨_, ix_tup, .of (rd_ixT e)⟩
  · split at h
    next hz =>
      cases e : atI _ _ <;> rw [e] at h <;> cases h
      exact ⟨_, ix_str, .of (rd_ixS hz e)⟩
    · cases h
  · cases h
end

/-! ### pieces -/
theorem and_some {r : Option RR} {f : D → Option RR} {x : RR} (h : RR.and r f = some x) : ∃ ra, r = some ra ∧ RR.and (some ra) f = some x := by
  cases r with
  | none => cases h
  | some ra => exact ⟨ra, rfl, h⟩
theorem noK {K : PySem.W.Frag} {d : D} {Q : VK} {W : Addr → Addr → Hp → Prop} {Hs H : Hp} : ∀ C fs, RR.val d = .exc C fs → KR K (.val d) Q W Hs H := fun _ _ h => by cases h
theorem star_cons {e : Expr} {es : List Expr} {env : Env} (h : isStar e = false) : starEach (e :: es) env = (false, eval e env) :: starEach es env := by
  cases e <;> first | rfl | cases h
theorem star_any {pos : Pos} {env : Env} : ∀ {es : List Expr}, (∀ e ∈ es, isStar e = false) → (backTo pos (starEach es env)).any (·.1) = false
  | [], _ => rfl
  | e :: es, h => by
    rw [star_cons (h e (List.mem_cons_self ..))]
    show (false || (backTo pos (starEach es env)).any (·.1)) = false
    rw [Bool.false_or]
    exact star_any fun x hx => h x (List.mem_cons_of_mem _ hx)
theorem ok_nostar {S : Sta} : ∀ {n : Nat} {M : Md} {ir : IE} {e : Expr}, okE S n M ir e = true → isStar e = false
  | 0, _, _, _, h => by cases h
  | n + 1, M, ir, e, h => by
    cases e with
    | Starred v p =>
      exfalso
      rcases Bool.or_eq_true_iff.mp (show (okA (okE S n) S M ir (.Starred v p) || okY (okE S n) S M ir (.Starred v p)) = true from h) with h | h
      · unfold okA at h
        split at h <;> first | contradiction | (rename_i q; cases q)
      · unfold okY at h
        split at h <;> first | contradiction | (rename_i q; cases q)
    | _ => rfl
theorem all2_mem {α β : Type} {f : α → β → Bool} : ∀ {as : List α} {bs : List β}, all2 f as bs = true → ∀ b ∈ bs, ∃ a, f a b = true
  | [], [], _, _, hb => by cases hb
  | [], _ :: _, h, _, _ => by cases h
  | _ :: _, [], h, _, _ => by cases h
  | a :: as, b :: bs, h, c, hc => by
    obtain ⟨h1, h2⟩ := ba h
    rcases List.mem_cons.mp hc with rfl | hc
    · exact ⟨a, h1⟩
    · exact all2_mem h2 c hc
section
variable {Φ : Phi} {S : Sta} {k n : Nat} {M : Md} {X : Cx} {γ : List S2} {π : Pt}
theorem PG.d {e : Expr} {g : List Sl} {rr : RR} {d : D} (h : PG X g e rr) (q : RR.d? (some rr) = some d) : PD X g e d := by
  cases rr with
  | val x => cases q; exact h.pd
  | new ds => cases q; exact h.pn.pd
  | exc C fs => cases q
def isBo : Expr → Bool
  | .BoolOp _ _ _ => true
  | _ => false
def PGW (X : Cx) (g : List Sl) (e : Expr) (r : RR) : Prop := ∀ b, r = .val (.bl b) → PDT X g e b ∧ (isBo e = true → PDW X g e b)
/-- all expressions, n deep -/
def IHt (Φ : Phi) (S : Sta) (k n : Nat) : Prop := ∀ (M : Md) (X : Cx), XO Φ S k M X → ∀ (γ : List S2) (π : Pt), XG X π γ → ∀ (ir : IE) (e : Expr), okE S n M ir e = true →
  (∀ r, ev Φ γ false ir = some r → PG X (γ.map (S2.sl π)) e r) ∧ ∀ r, ev Φ γ true ir = some r → PGW X (γ.map (S2.sl π)) e r
/-- arguments -/
theorem argsR (ih : IHt Φ S k n) (x : XO Φ S k M X) (gx : XG X π γ) {W : WX} (tk : Takes X W) {σ : L2.St} {Q0 : VK} : ∀ {as : List IE} {xs : List Expr} {kf : List D → Option RR} {r : RR} {Hs H : Hp} {R : List V → Hp → Prop}, all2 (okE S n M) as xs = true → evL Φ γ as kf = some r →
    Same Hs H → SE X.K Hs σ (γ.map (S2.sl π)) → (∀ C fs, r = .exc C fs → KR X.K r Q0 (fun C dd H' => W (.ref C) (some dd) σ H') Hs H) →
    (∀ ds vs Hs1 H1, kf ds = some r → Gr Hs H Hs1 H1 → Reps X.K Hs1 vs ds → R vs H1) → wA X xs σ H R
  | [], [], kf, r, Hs, H, R, _, h, s, E, K, kk => wA_of L2.pa_nil (kk [] [] Hs H h (Gr.refl s) .nil)
  | a :: as, y :: ys, kf, r, Hs, H, R, ok, h, s, E, K, kk => by
    obtain ⟨o1, o2⟩ := ba ok
    have h' : RR.and (ev Φ γ false a) (fun d => evL Φ γ as fun ds => kf (d :: ds)) = some r := by rw [evL] at h; exact h
    obtain ⟨ra, e1, e2⟩ := and_some h'
    refine wA_of (L2.pa_cons (wE_ok y) (wA_ok ys) (star_cons (ok_nostar o1))) ?_
    refine andR (((ih M X x γ π gx a y o1).1) ra e1) e2 tk s E K fun d v Hs1 H1 hd g1 r1 => ?_
    refine argsR ih x gx tk o2 hd g1.sub (E.mono g1.sh) (fun C fs e => (K C fs e).go g1) fun ds vs Hs2 H2 hk g2 r2 => ?_
    exact kk (d :: ds) (v :: vs) Hs2 H2 hk (g1.trans g2) (.cons (r1.mono g2.sh) r2)
  | [], _ :: _, _, _, _, _, _, ok, _, _, _, _, _ => by cases ok
  | _ :: _, [], _, _, _, _, _, ok, _, _, _, _, _ => by cases ok
theorem map_at {γ : List S2} {i : Nat} {s : S2} (h : γ[i]? = some s) : (γ.map (S2.sl π))[i]? = some (s.sl π) := by rw [List.getElem?_map, h] <;> rfl
theorem visB_ok (x : XO Φ S k M X) {i : Nat} {nm : Str} (h : isN M i nm = true) : X.N[i]? = some nm ∧ Vis X.env.scope nm ∧ (nm == ("__debug__" : Str)) = false ∧ (nm == ("__classdict__" : Str)) = false := by
  obtain ⟨h1, h2⟩ := ba h
  obtain ⟨h2, h3⟩ := ba h2
  obtain ⟨h3, h4⟩ := ba h3
  obtain ⟨h3, h5⟩ := ba h3
  refine ⟨by rw [x.N]; exact of_decide_eq_true h1, ?_, nb h3, nb h5⟩
  unfold visB at h2
  unfold Vis
  rw [x.sc]
  split at h2
  · exact .inl (by assumption)
  · exact .inr (.inl (by assumption))
  · exact .inr (.inr (by assumption))
  · cases h2
theorem glB_ok (x : XO Φ S k M X) {nm : Str} (h : (glB M nm && plainN nm) = true) : Gl X nm ∧ (nm == ("__debug__" : Str)) = false ∧ nm ≠ "__name__" := by
  obtain ⟨h2, h3⟩ := ba h
  obtain ⟨h3, h4⟩ := ba h3
  obtain ⟨h3, h5⟩ := ba h3
  refine ⟨?_, nb h3, of_decide_eq_false (nb h4)⟩
  unfold glB at h2
  show X.env.scope.names.lookup nm = _
  rw [x.sc]
  split at h2
  · assumption
  · cases h2
theorem free_ok (x : XO Φ S k M X) {nm : Str} (h : free S M nm = true) : Gl X nm ∧ X.mg nm = none ∧ (nm == ("__debug__" : Str)) = false ∧ nm ≠ "__name__" := by
  obtain ⟨h1, h2⟩ := ba h
  obtain ⟨h2, h3⟩ := ba h2
  obtain ⟨q1, q2, q3⟩ := glB_ok x (nm := nm) (by rw [h1, h3]; rfl)
  exact ⟨q1, x.g.fr nm (List.contains_iff_mem.mp h2), q2, q3⟩
theorem tst_eq (ir : IE) (h : ev Φ γ true ir = tst true (ev Φ γ false ir)) {r : RR} (e : ev Φ γ true ir = some r) {b : Bool} (q : r = .val (.bl b)) : ∃ d, (RR.d? (ev Φ γ false ir) = some d ∧ (∀ C fs, ev Φ γ false ir ≠ some (.exc C fs))) ∧ ((d = .bl b) ∨ (∃ i, d = .int i ∧ b = (i != 0)) ∨ ∃ ds, d = .lst ds ∧ b = !ds.isEmpty) := by
  rw [h] at e
  subst q
  cases q2 : ev Φ γ false ir with
  | none => rw [q2] at e; cases e
  | some ra =>
    rw [q2] at e
    cases ra with
    | val d =>
      refine ⟨d, ⟨rfl, fun _ _ z => by cases z⟩, ?_⟩
      unfold tst RR.and at e
      cases d <;> first | cases e | skip
      · exact .inl rfl
      · exact .inr (.inl ⟨_, rfl, rfl⟩)
      · exact .inr (.inr ⟨_, rfl, rfl⟩)
    | new ds =>
      refine ⟨.lst ds, ⟨rfl, fun _ _ z => by cases z⟩, ?_⟩
      unfold tst RR.and at e
      cases e
      exact .inr (.inr ⟨_, rfl, rfl⟩)
    | exc C fs => unfold tst RR.and at e; cases e
/-- a test that is a value's truth -/
theorem tst_ok {e : Expr} (ir : IE) (h : ev Φ γ true ir = tst true (ev Φ γ false ir)) (hp : ∀ r, ev Φ γ false ir = some r → PG X (γ.map (S2.sl π)) e r) (he : ∀ whole, isTrue e X.env whole = (do let v ← whole; standAt e.pos; holding [v] (truthy v)) := by intro _; rfl) (hbo : isBo e = false := by rfl) :
    ∀ r, ev Φ γ true ir = some r → PGW X (γ.map (S2.sl π)) e r := fun r hr b hb => by
  refine ⟨?_, fun z => by rw [hbo] at z; cases z⟩
  obtain ⟨d, ⟨h1, _⟩, h2⟩ := tst_eq ir h hr hb
  cases q : ev Φ γ false ir with
  | none => rw [q] at h1; cases h1
  | some rr =>
    rw [q] at h1
    have p := (hp rr q).d h1
    rcases h2 with rfl | ⟨i, rfl, rfl⟩ | ⟨ds, rfl, rfl⟩
    · exact pt_val p he
    · exact fun σ Hs H Q s E k => wT_of (L2.pt_truth (wE_ok e) he) (p σ Hs H _ s E fun v Hs' H' g r => by
        cases r
        exact ⟨_, rfl, k Hs' H' g⟩)
    · exact pt_lst p he
theorem bl_ok {e : Expr} (ir : IE) (h : ev Φ γ true ir = ev Φ γ false ir) (hp : ∀ r, ev Φ γ false ir = some r → PG X (γ.map (S2.sl π)) e r) (he : ∀ whole, isTrue e X.env whole = (do let v ← whole; standAt e.pos; holding [v] (truthy v)) := by intro _; rfl) (hbo : isBo e = false := by rfl) :
    ∀ r, ev Φ γ true ir = some r → PGW X (γ.map (S2.sl π)) e r := fun r hr b hb => by
  refine ⟨?_, fun z => by rw [hbo] at z; cases z⟩
  subst hb
  rw [h] at hr
  exact pt_val (hp _ hr).pd he
end
end Ev
end

section
set_option Elab.async false
set_option linter.all false
set_option maxRecDepth 100000
set_option maxHeartbeats 4000000
set_option autoImplicit false
namespace Ev
open PySem PySem.Spec PyProof.Rows L2 Pd
section
variable {X : Cx}
theorem opAny {f : Value → Value → Sem Value} : OpR X f (fun v u H Q => ∃ r, OpR X f r ∧ r v u H Q) := fun pins s σ H x y v u Q I r1 r2 ⟨r, h, q⟩ => h pins s σ H x y v u Q I r1 r2 q
theorem callAny {f : Value} : CallR X f (fun vs H Q => ∃ r, CallR X f r ∧ r vs H Q) := fun pins s σ H xs us Q I r1 ⟨r, h, q⟩ => h pins s σ H xs us Q I r1 q
theorem ixAny : IxR X (fun v u H Q => ∃ r, IxR X r ∧ r v u H Q) := fun a b pins s σ H x y v u Q I r1 r2 ⟨r, h, q⟩ hs => h a b pins s σ H x y v u Q I r1 r2 q hs
theorem slAny : L2.SlR X (fun v l h H Q => ∃ r, L2.SlR X r ∧ r v l h H Q) := fun pins s σ H x v vl vu lo hi sl Q I r1 hs p1 p2 ⟨r, h, q⟩ => h pins s σ H x v vl vu lo hi sl Q I r1 hs p1 p2 q
def RCRr (K : PySem.W.Frag) (r : List V → Hp → VK → Prop) (ds : List D) (rr : RR) : Prop := ∀ (Hs H : Hp) (vs : List V) (Q : VK) (W : Addr → Addr → Hp → Prop), Same Hs H → Reps K Hs vs ds → KR K rr Q W Hs H → r vs H Q
theorem RCRr.of {K : PySem.W.Frag} {r : List V → Hp → VK → Prop} {ds : List D} {z : D} (h : RCD K r ds z) : RCRr K r ds (.val z) := fun Hs H vs Q W s r k => h Hs H vs Q s r k
theorem RCRr.ofN {K : PySem.W.Frag} {r : List V → Hp → VK → Prop} {ds zs : List D} (h : RCN K r ds zs) : RCRr K r ds (.new zs) := fun Hs H vs Q W s r k => h Hs H vs Q s r k
theorem rc_lenX {x : D} {n : Nat} (hx : (∃ ds, x = .lst ds ∧ n = ds.length) ∨ (∃ ds, x = .rol ds ∧ n = ds.length) ∨ (∃ ds, x = .tup ds ∧ n = ds.length)) : ∃ r, CallR X (.builtin "len") r ∧ RCD X.K r [x] (.int (n : Int)) := by
  refine ⟨_, call_len_seq, rc_one fun Hs H v Q s r k => ?_⟩
  rcases hx with ⟨ds, rfl, rfl⟩ | ⟨ds, rfl, rfl⟩ | ⟨ds, rfl, rfl⟩
  · cases r with
    | lst h1 r1 => exact ⟨_, _, rfl, .inl (.inl (.inl (s _ _ h1))), by rw [r1.length]; exact k _ Hs H (Gr.refl s) (.int _)⟩
  · cases r with
    | rol h1 r1 => exact ⟨_, _, rfl, .inl (sqL_mono s h1), by rw [r1.length]; exact k _ Hs H (Gr.refl s) (.int _)⟩
  · cases r with
    | tup h1 r1 => exact ⟨_, _, rfl, .inr (sqT_mono s h1), by rw [r1.length]; exact k _ Hs H (Gr.refl s) (.int _)⟩
theorem rc_listX {x : D} {ds : List D} (hx : x = .lst ds ∨ x = .rol ds ∨ x = .tup ds) : ∃ r, CallR X (.type "list") r ∧ RCN X.K r [x] ds := by
  refine ⟨_, call_list_of, fun Hs H vs Q s rs k => ?_⟩
  cases rs with
  | cons r rn =>
    cases rn
    rcases hx with rfl | rfl | rfl
    · cases r with
      | lst h1 r1 => exact ⟨_, _, rfl, .inl (.inl (.inl (s _ _ h1))), newL s r1 k⟩
    · cases r with
      | rol h1 r1 => exact ⟨_, _, rfl, .inl (sqL_mono s h1), newL s r1 k⟩
    · cases r with
      | tup h1 r1 => exact ⟨_, _, rfl, .inr (sqT_mono s h1), newL s r1 k⟩
theorem biOk {b : BI} {ds : List D} {rr : RR} (h : biD b ds = some rr) (nt : b ≠ .trg) (nl : b ≠ .lset) (nv : b ≠ .lrv) : (∃ id r, bootBuiltins (biN b) = some (.builtin id) ∧ CallR X (.builtin id) r ∧ RCRr X.K r ds rr) ∨ (∃ T r, bootBuiltins (biN b) = some (.type T) ∧ CallR X (.type T) r ∧ RCRr X.K r ds rr) := by
  unfold biD at h
  split at h
  · cases h
    obtain ⟨r, h1, h2⟩ := rc_lenX (X := X) (x := .lst _) (.inl ⟨_, rfl, rfl⟩)
    exact .inl ⟨"len", r, boot_len, h1, .of h2⟩
  · cases h
    obtain ⟨r, h1, h2⟩ := rc_lenX (X := X) (x := .rol _) (.inr (.inl ⟨_, rfl, rfl⟩))
    exact .inl ⟨"len", r, boot_len, h1, .of h2⟩
  · cases h
    obtain ⟨r, h1, h2⟩ := rc_lenX (X := X) (x := .tup _) (.inr (.inr ⟨_, rfl, rfl⟩))
    exact .inl ⟨"len", r, boot_len, h1, .of h2⟩
  · split at h <;> cases h
    next hz => exact .inl ⟨"len", _, boot_len, call_len_str, .of (rc_one fun Hs H v Q s r k => by
      cases r
      exact ⟨_, rfl, sz_of hz, k _ Hs H (Gr.refl s) (.int _)⟩)⟩
  · cases h
    exact .inr ⟨"int", _, boot_int, call_int1, .of (rc_one fun Hs H v Q s r k => by
      cases r
      exact .inl ⟨_, rfl, k _ Hs H (Gr.refl s) (.int _)⟩)⟩
  · cases h
    exact .inr ⟨"int", _, boot_int, call_int1, .of (rc_one fun Hs H v Q s r k => by
      cases r
      exact .inr ⟨_, rfl, k _ Hs H (Gr.refl s) (.int _)⟩)⟩
  · cases h
    obtain ⟨r, h1, h2⟩ := rc_listX (X := X) (x := .lst _) (.inl rfl)
    exact .inr ⟨"list", r, by decide +kernel, h1, .ofN h2⟩
  · cases h
    obtain ⟨r, h1, h2⟩ := rc_listX (X := X) (x := .rol _) (.inr (.inl rfl))
    exact .inr ⟨"list", r, by decide +kernel, h1, .ofN h2⟩
  · cases h
    obtain ⟨r, h1, h2⟩ := rc_listX (X := X) (x := .tup _) (.inr (.inr rfl))
    exact .inr ⟨"list", r, by decide +kernel, h1, .ofN h2⟩
  · cases h
    exact .inr ⟨"tuple", _, boot_tuple, call_tuple_of, .of (rc_one fun Hs H v Q s r k => by
      cases r with
      | lst h1 r1 => exact ⟨_, _, rfl, .inl ⟨.inl (.inl (s _ _ h1)), newT s r1 k⟩⟩)⟩
  · cases h
    exact .inr ⟨"tuple", _, boot_tuple, call_tuple_of, .of (rc_one fun Hs H v Q s r k => by
      cases r with
      | tup h1 r1 => exact ⟨_, _, rfl, .inr ⟨sqT_mono s h1, k _ Hs H (Gr.refl s) (.tup h1 r1)⟩⟩)⟩
  · split at h <;> cases h
    next hz => exact .inl ⟨"ord", _, by decide +kernel, call_ord, .of (rc_one fun Hs H v Q s r k => by
      cases r
      exact ⟨_, rfl, hz, k _ Hs H (Gr.refl s) (.int _)⟩)⟩
  · exact absurd rfl nt
  · exact absurd rfl nv
  · exact absurd rfl nl
  · cases h
theorem slcR {x : D} {l h : Option Int} {rr : RR} (e : slcD x l h = some rr) : ∃ r, L2.SlR X r ∧ ∀ (Hs H : Hp) (v : V) (Q : VK) (W : Addr → Addr → Hp → Prop), Same Hs H → Rep X.K Hs v x → KR X.K rr Q W Hs H → r v l h H Q := by
  unfold slcD at e
  split at e
  · cases e
    exact ⟨_, sl_list, fun Hs H v Q W s r k => by
      cases r with
      | lst h1 r1 => exact ⟨_, _, rfl, .inl (.inl (s _ _ h1)), newL s (r1.cut _ _) k⟩⟩
  · cases e
    refine ⟨_, sl_tupA, fun Hs H v Q W s r k => ?_⟩
    cases r with
    | tup h1 r1 =>
      refine ⟨_, _, rfl, sqT_mono s h1, fun hw => ?_, fun _ => newT s (r1.cut _ _) k⟩
      rw [r1.length] at hw
      exact k _ _ _ (Gr.refl s) (by rw [cut_whole hw]; exact .tup h1 r1)
  · split at e <;> cases e
    next hz => exact ⟨_, sl_str, fun Hs H v Q W s r k => by
      cases r
      exact ⟨_, rfl, sz_of hz, k _ Hs H (Gr.refl s) (.str _)⟩⟩
  · cases e
end
end Ev
end

section
set_option Elab.async false
set_option linter.all false
set_option maxRecDepth 100000
set_option maxHeartbeats 4000000
set_option autoImplicit false
namespace Ev
open PySem PySem.Spec PyProof.Rows L2 Pd
theorem okC_ok {X : Cx} {γ : List Sl} {d : D} {c : Const} {j : Nat} {p : Pos} (h : okC d c = true) : PD X γ (.Constant c j p) d := by
  unfold okC at h
  split at h
  · exact pd_non
  · have e := eq_of_beq h
    subst e
    exact pd_bl
  · have e := of_decide_eq_true h
    subst e
    exact pd_int
  · have e := of_decide_eq_true h
    subst e
    exact pd_str
  · cases h
theorem attr_base {o : Expr} {f : Str} {env : Env} {w : Sem Value} (h : isCall0 o = false) : attributeBase o f env w = w := by
  unfold attributeBase
  split
  · next id p1 pos =>
    have h1 : (id == ("super" : Str)) = false := h
    have h2 : (id != ("super" : Str)) = true := by rw [bne, h1]; rfl
    rw [h2]
    rfl
  · rfl
theorem plainIx_ok {b : Expr} (h : plainIx b = true) : PlainIx b := by
  cases b <;> first | exact fun _ _ => rfl | cases h
theorem noset {e : Expr} (h : isSet e = false) {op : CmpOp} : behindInMarks op e = false := by
  cases e <;> first | rfl | cases h
theorem noset2 {a b : Expr} (h : isSet b = false) {o1 o2 : CmpOp} : lastMarks [o1, o2] [a, b] = false := by
  show behindInMarks o2 b = false
  exact noset h
theorem noset_it {e : Expr} (h : isSet e = false) {env : Env} : ∀ x, foldedSetIterable e env x = pure x := by
  intro x
  cases e <;> first | rfl | cases h
section
variable {Φ : Phi} {S : Sta} {k n : Nat} {M : Md} {X : Cx} {γ : List S2} {π : Pt} {a b c o : IE} {ea eb ec eo : Expr} {p : Pos} {r : RR}
theorem s_bin (ih : IHt Φ S k n) (x : XO Φ S k M X) (gx : XG X π γ) {op : Operator} (h1 : okE S n M a ea = true) (h2 : okE S n M b eb = true) (h : ev Φ γ false (.bin op a b) = some r) : PG X (γ.map (S2.sl π)) (.BinOp ea op eb p) r := fun W tk σ Hs H Q s E K => by
  have h' : RR.and (ev Φ γ false a) (fun x => RR.and (ev Φ γ false b) fun y => binD op x y) = some r := h
  obtain ⟨ra, e1, e2⟩ := and_some h'
  refine wE_of (pe_op opAny (wE_ok ea) (wE_ok eb)) (andR ((ih M X x γ π gx a ea h1).1 ra e1) e2 tk s E (fun _ _ _ => K) fun u v Hs1 H1 hd g1 r1 => ?_)
  obtain ⟨rb, e3, e4⟩ := and_some hd
  refine andR ((ih M X x γ π gx b eb h2).1 rb e3) e4 tk g1.sub (E.mono g1.sh) (fun _ _ _ => K.go g1) fun u2 v2 Hs2 H2 hd2 g2 r2 => ?_
  obtain ⟨rr, q1, q2⟩ := binR (X := X) hd2
  exact ⟨rr, q1, q2 Hs2 H2 v v2 Q _ g2.sub (r1.mono g2.sh) r2 (K.go (g1.trans g2))⟩
theorem s_sub (ih : IHt Φ S k n) (x : XO Φ S k M X) (gx : XG X π γ) (hp : plainIx eb = true) (h1 : okE S n M a ea = true) (h2 : okE S n M b eb = true) (h : ev Φ γ false (.sub a b) = some r) : PG X (γ.map (S2.sl π)) (.Subscript ea eb p) r := fun W tk σ Hs H Q s E K => by
  have h' : RR.and (ev Φ γ false a) (fun x => RR.and (ev Φ γ false b) fun y => subD x y) = some r := h
  obtain ⟨ra, e1, e2⟩ := and_some h'
  refine wE_of (pe_ix ixAny (wE_ok ea) (wE_ok eb) (plainIx_ok hp)) (andR ((ih M X x γ π gx a ea h1).1 ra e1) e2 tk s E (fun _ _ _ => K) fun u v Hs1 H1 hd g1 r1 => ?_)
  obtain ⟨rb, e3, e4⟩ := and_some hd
  refine andR ((ih M X x γ π gx b eb h2).1 rb e3) e4 tk g1.sub (E.mono g1.sh) (fun _ _ _ => K.go g1) fun u2 v2 Hs2 H2 hd2 g2 r2 => ?_
  obtain ⟨rr, q1, q2⟩ := subR (X := X) hd2
  exact ⟨rr, q1, q2 Hs2 H2 v v2 Q _ g2.sub (r1.mono g2.sh) r2 (K.go (g1.trans g2))⟩
theorem s_neg (ih : IHt Φ S k n) (x : XO Φ S k M X) (gx : XG X π γ) (h1 : okE S n M a ea = true) (h : ev Φ γ false (.neg a) = some r) : PG X (γ.map (S2.sl π)) (.UnaryOp .USub ea p) r := fun W tk σ Hs H Q s E K => by
  have h' : RR.and (ev Φ γ false a) negD = some r := h
  obtain ⟨ra, e1, e2⟩ := and_some h'
  refine wE_of (pe_un un_neg (wE_ok ea)) (andR ((ih M X x γ π gx a ea h1).1 ra e1) e2 tk s E (fun _ _ _ => K) fun u v Hs1 H1 hd g1 r1 => ?_)
  obtain ⟨i, rfl, rfl⟩ := negR hd
  cases r1
  exact ⟨i, rfl, (K.go g1).val g1.sub (.int _)⟩
theorem s_not (ih : IHt Φ S k n) (x : XO Φ S k M X) (gx : XG X π γ) (h1 : okE S n M a ea = true) (h : ev Φ γ false (.not a) = some r) : PG X (γ.map (S2.sl π)) (.UnaryOp .Not ea p) r := fun W tk σ Hs H Q s E K => by
  have h' : RR.and (ev Φ γ false a) notD = some r := h
  obtain ⟨ra, e1, e2⟩ := and_some h'
  refine wE_of (pe_not (wE_ok ea)) (andR ((ih M X x γ π gx a ea h1).1 ra e1) e2 tk s E (fun _ _ _ => K) fun u v Hs1 H1 hd g1 r1 => ?_)
  obtain ⟨i, rfl, rfl⟩ := notR hd
  cases r1
  exact ⟨i, rfl, (K.go g1).val g1.sub (.bl _)⟩
theorem s_notT (ih : IHt Φ S k n) (x : XO Φ S k M X) (gx : XG X π γ) (h1 : okE S n M a ea = true) (h : ev Φ γ true (.not a) = some r) : PGW X (γ.map (S2.sl π)) (.UnaryOp .Not ea p) r := fun b hb => by
  subst hb
  have h' : RR.and (ev Φ γ true a) notD = some (.val (.bl b)) := h
  obtain ⟨ra, e1, e2⟩ := and_some h'
  refine ⟨?_, fun z => by cases z⟩
  cases ra with
  | val d =>
    obtain ⟨i, rfl, q⟩ := notR e2
    cases q
    exact pt_not ((ih M X x γ π gx a ea h1).2 _ e1 i rfl).1
  | new ds => obtain ⟨i, z, _⟩ := notR (x := .lst ds) e2; cases z
  | exc C fs => cases e2
theorem s_cmp (ih : IHt Φ S k n) (x : XO Φ S k M X) (gx : XG X π γ) {op : CmpOp} (hs : isSet eb = false) (h1 : okE S n M a ea = true) (h2 : okE S n M b eb = true) (h : ev Φ γ false (.cmp op a b) = some r) : PG X (γ.map (S2.sl π)) (.Compare ea [op] [eb] p) r := fun W tk σ Hs H Q s E K => by
  have h' : RR.and (ev Φ γ false a) (fun x => RR.and (ev Φ γ false b) fun y => (cmpD op x y).bind bv) = some r := h
  obtain ⟨ra, e1, e2⟩ := and_some h'
  refine wE_of (pe_cmpR opAny (wE_ok ea) (wE_ok eb) (noset hs)) (andR ((ih M X x γ π gx a ea h1).1 ra e1) e2 tk s E (fun _ _ _ => K) fun u v Hs1 H1 hd g1 r1 => ?_)
  obtain ⟨rb, e3, e4⟩ := and_some hd
  refine andR ((ih M X x γ π gx b eb h2).1 rb e3) e4 tk g1.sub (E.mono g1.sh) (fun _ _ _ => K.go g1) fun u2 v2 Hs2 H2 hd2 g2 r2 => ?_
  cases q : cmpD op u u2 with
  | none => rw [q] at hd2; cases hd2
  | some b' =>
    rw [q] at hd2
    cases hd2
    obtain ⟨rr, q1, q2⟩ := cmpR (X := X) q (by have := x.un; omega)
    exact ⟨rr, q1, q2 Hs2 H2 v v2 Q g2.sub (r1.mono g2.sh) r2 (K.go (g1.trans g2))⟩
theorem s_cmpT (ih : IHt Φ S k n) (x : XO Φ S k M X) (gx : XG X π γ) {op : CmpOp} (hs : isSet eb = false) (h1 : okE S n M a ea = true) (h2 : okE S n M b eb = true) (h : ev Φ γ true (.cmp op a b) = some r) : PGW X (γ.map (S2.sl π)) (.Compare ea [op] [eb] p) r := fun bb hb => by
  subst hb
  have h' : RR.and (ev Φ γ false a) (fun x => RR.and (ev Φ γ false b) fun y => (cmpD op x y).bind bv) = some (.val (.bl bb)) := h
  refine ⟨fun σ Hs H Q s E K => ?_, fun z => by cases z⟩
  obtain ⟨ra, e1, e2⟩ := and_some h'
  refine wT_of (pt_cmpR opAny (wE_ok ea) (wE_ok eb) (noset hs)) (andR (Q0 := fun _ _ => True) ((ih M X x γ π gx a ea h1).1 ra e1) e2 takes0 s E noK fun u v Hs1 H1 hd g1 r1 => ?_)
  obtain ⟨rb, e3, e4⟩ := and_some hd
  refine andR (Q0 := fun _ _ => True) ((ih M X x γ π gx b eb h2).1 rb e3) e4 takes0 g1.sub (E.mono g1.sh) noK fun u2 v2 Hs2 H2 hd2 g2 r2 => ?_
  cases q : cmpD op u u2 with
  | none => rw [q] at hd2; cases hd2
  | some b' =>
    rw [q] at hd2
    cases hd2
    obtain ⟨rr, q1, q2⟩ := cmpR (X := X) q (by have := x.un; omega)
    refine ⟨rr, q1, q2 Hs2 H2 v v2 _ g2.sub (r1.mono g2.sh) r2 fun w Hs3 H3 g3 r3 => ?_⟩
    cases r3
    exact ⟨_, rfl, K Hs3 H3 ((g1.trans g2).trans g3)⟩
/-- the chain's reading -/
theorem chn_go (ih : IHt Φ S k n) (x : XO Φ S k M X) (gx : XG X π γ) {o1 o2 : CmpOp} (h1 : okE S n M a ea = true) (h2 : okE S n M b eb = true) (h3 : okE S n M c ec = true) (h : ev Φ γ false (.chn o1 o2 a b c) = some r)
    {W : WX} (tk : Takes X W) {σ : L2.St} {Hs H : Hp} {Q : VK} (s : Same Hs H) (E : SE X.K Hs σ (γ.map (S2.sl π))) (K : KR X.K r Q (fun C dd H' => W (.ref C) (some dd) σ H') Hs H) :
    tChain (fun v u H Q => ∃ r, OpR X (compareOp o1) r ∧ r v u H Q) (fun v u H Q => ∃ r, OpR X (compareOp o2) r ∧ r v u H Q) (wE X ea) (wE X eb) (wE X ec) σ H Q := by
  have h' : RR.and (ev Φ γ false a) (fun x => RR.and (ev Φ γ false b) fun y => match cmpD o1 x y with
    | none => none
    | some false => bv false
    | some true => RR.and (ev Φ γ false c) fun z => (cmpD o2 y z).bind bv) = some r := h
  obtain ⟨ra, e1, e2⟩ := and_some h'
  refine andR ((ih M X x γ π gx a ea h1).1 ra e1) e2 tk s E (fun _ _ _ => K) fun u v Hs1 H1 hd g1 r1 => ?_
  obtain ⟨rb, e3, e4⟩ := and_some hd
  refine andR ((ih M X x γ π gx b eb h2).1 rb e3) e4 tk g1.sub (E.mono g1.sh) (fun _ _ _ => K.go g1) fun u2 v2 Hs2 H2 hd2 g2 r2 => ?_
  cases q : cmpD o1 u u2 with
  | none => rw [q] at hd2; cases hd2
  | some b' =>
    rw [q] at hd2
    obtain ⟨rr, q1, q2⟩ := cmpR (X := X) q (by have := x.un; omega)
    refine ⟨rr, q1, q2 Hs2 H2 v v2 _ g2.sub (r1.mono g2.sh) r2 fun w Hs3 H3 g3 r3 => ?_⟩
    cases r3
    refine ⟨_, rfl, ?_⟩
    have g13 := (g1.trans g2).trans g3
    cases b' with
    | false =>
      rw [if_neg Bool.false_ne_true]
      cases hd2
      exact (K.go g13).val g3.sub (.bl false)
    | true =>
      rw [if_pos rfl]
      obtain ⟨rc, e5, e6⟩ := and_some hd2
      refine andR ((ih M X x γ π gx c ec h3).1 rc e5) e6 tk g3.sub (E.mono g13.sh) (fun _ _ _ => K.go g13) fun u3 v3 Hs4 H4 hd3 g4 r4 => ?_
      cases q3 : cmpD o2 u2 u3 with
      | none => rw [q3] at hd3; cases hd3
      | some b3 =>
        rw [q3] at hd3
        cases hd3
        obtain ⟨r5, q4, q5⟩ := cmpR (X := X) q3 (by have := x.un; omega)
        exact ⟨r5, q4, q5 Hs4 H4 v2 v3 _ g4.sub ((r2.mono g3.sh).mono g4.sh) r4 (K.go (g13.trans g4))⟩
theorem s_chn (ih : IHt Φ S k n) (x : XO Φ S k M X) (gx : XG X π γ) {o1 o2 : CmpOp} (hs : isSet ec = false) (h1 : okE S n M a ea = true) (h2 : okE S n M b eb = true) (h3 : okE S n M c ec = true) (h : ev Φ γ false (.chn o1 o2 a b c) = some r) : PG X (γ.map (S2.sl π)) (.Compare ea [o1, o2] [eb, ec] p) r := fun W tk σ Hs H Q s E K =>
  wE_of (pe_chain opAny opAny (wE_ok ea) (wE_ok eb) (wE_ok ec) (noset2 hs)) (chn_go ih x gx h1 h2 h3 h tk s E K)
theorem s_chnT (ih : IHt Φ S k n) (x : XO Φ S k M X) (gx : XG X π γ) {o1 o2 : CmpOp} (hs : isSet ec = false) (h1 : okE S n M a ea = true) (h2 : okE S n M b eb = true) (h3 : okE S n M c ec = true) (h : ev Φ γ true (.chn o1 o2 a b c) = some r) : PGW X (γ.map (S2.sl π)) (.Compare ea [o1, o2] [eb, ec] p) r := fun bb hb => by
  subst hb
  refine ⟨fun σ Hs H Q s E K => ?_, fun z => by cases z⟩
  refine wT_of (L2.pt_chain opAny opAny (wE_ok ea) (wE_ok eb) (wE_ok ec) (noset2 hs)) (chn_go ih x gx h1 h2 h3 (show ev Φ γ false (.chn o1 o2 a b c) = _ from h) takes0 s E fun w Hs3 H3 g3 r3 => ?_)
  cases r3
  exact ⟨_, rfl, K Hs3 H3 g3⟩
theorem s_isc (x : XO Φ S k M X) (ih : IHt Φ S k n) (gx : XG X π γ) {d : D} {cc : Const} {j : Nat} {p2 : Pos} (hc : okC d cc = true) (h1 : okE S n M a ea = true) (h : ev Φ γ false (.isc false a d) = some r) : (PG X (γ.map (S2.sl π)) (.Compare ea [.Is] [.Constant cc j p2] p) r) ∧ PGW X (γ.map (S2.sl π)) (.Compare ea [.Is] [.Constant cc j p2] p) r := by
  have h' : RR.and (ev Φ γ false a) (fun x => (iscD d x).bind fun b => bv (if false then !b else b)) = some r := h
  obtain ⟨ra, e1, e2⟩ := and_some h'
  have pa := (ih M X x γ π gx a ea h1).1 ra e1
  have main : ∀ y, PD X (γ.map (S2.sl π)) ea y → ((iscD d y).bind fun b => bv (if false then !b else b)) = some r → (PG X (γ.map (S2.sl π)) (.Compare ea [.Is] [.Constant cc j p2] p) r) ∧ PGW X (γ.map (S2.sl π)) (.Compare ea [.Is] [.Constant cc j p2] p) r := fun y py e => by
    unfold iscD at e
    unfold okC at hc
    split at hc
    · cases e
      exact ⟨PG.of_pd (pd_isN py), fun b hb => by cases hb; exact ⟨pt_isN py, fun z => by cases z⟩⟩
    · cases e
      have e' := eq_of_beq hc
      subst e'
      exact ⟨PG.of_pd (pd_isBl py), fun b hb => by cases hb; exact ⟨pt_isBl py, fun z => by cases z⟩⟩
    · cases e
    · cases e
    · cases hc
  cases ra with
  | val y => exact main y pa.pd e2
  | new ds => exact main _ pa.pn.pd e2
  | exc C fs =>
    cases e2
    refine ⟨fun W tk σ Hs H Q s E K => ?_, fun b hb => by cases hb⟩
    exact wE_of (pe_cmpR opAny (wE_ok ea) (wE_ok _) (noset rfl)) (pa W tk σ Hs H _ s E K)
theorem s_isn (x : XO Φ S k M X) (ih : IHt Φ S k n) (gx : XG X π γ) {j : Nat} {p2 : Pos} (h1 : okE S n M a ea = true) (h : ev Φ γ false (.isc true a .non) = some r) : (PG X (γ.map (S2.sl π)) (.Compare ea [.IsNot] [.Constant .none j p2] p) r) ∧ PGW X (γ.map (S2.sl π)) (.Compare ea [.IsNot] [.Constant .none j p2] p) r := by
  have h' : RR.and (ev Φ γ false a) (fun x => (iscD .non x).bind fun b => bv (if true then !b else b)) = some r := h
  obtain ⟨ra, e1, e2⟩ := and_some h'
  have pa := (ih M X x γ π gx a ea h1).1 ra e1
  have main : ∀ y, PD X (γ.map (S2.sl π)) ea y → ((iscD .non y).bind fun b => bv (if true then !b else b)) = some r → (PG X (γ.map (S2.sl π)) (.Compare ea [.IsNot] [.Constant .none j p2] p) r) ∧ PGW X (γ.map (S2.sl π)) (.Compare ea [.IsNot] [.Constant .none j p2] p) r := fun y py e => by
    cases e
    refine ⟨PG.of_pd ?_, fun b hb => by cases hb; exact ⟨pt_notN py, fun z => by cases z⟩⟩
    exact pd_cmp op_notN (fun Hs H v u Q s r1 r2 kk => by
      cases r2
      exact ⟨rfl, kk _ Hs H (Gr.refl s) (by rw [r1.non_iff]; exact .bl _)⟩) py pd_non
  cases ra with
  | val y => exact main y pa.pd e2
  | new ds => exact main _ pa.pn.pd e2
  | exc C fs =>
    cases e2
    refine ⟨fun W tk σ Hs H Q s E K => ?_, fun b hb => by cases hb⟩
    exact wE_of (pe_cmpR opAny (wE_ok ea) (wE_ok _) (noset rfl)) (pa W tk σ Hs H _ s E K)
end
end Ev
end

section
set_option Elab.async false
set_option linter.all false
set_option maxRecDepth 100000
set_option maxHeartbeats 4000000
set_option autoImplicit false
namespace Ev
open PySem PySem.Spec PyProof.Rows L2 Pd
section
variable {Φ : Phi} {S : Sta} {k n : Nat} {M : Md} {X : Cx} {γ : List S2} {π : Pt} {a b c o : IE} {ea eb ec eo : Expr} {p : Pos} {r : RR}
/-- a and rest, as values -/
theorem and_go {rest : List Expr} (pa : ∀ ra, ev Φ γ false a = some ra → PG X (γ.map (S2.sl π)) ea ra) (pb : ∀ rb, ev Φ γ false b = some rb → PG X (γ.map (S2.sl π)) (.BoolOp .And (eb :: rest) p) rb) (h : ev Φ γ false (.and a b) = some r) :
    PG X (γ.map (S2.sl π)) (.BoolOp .And (ea :: eb :: rest) p) r := fun W tk σ Hs H Q s E K => by
  have h' : RR.and (ev Φ γ false a) (fun
    | .bl true => ev Φ γ false b
    | .bl false => bv false
    | _ => none) = some r := h
  obtain ⟨ra, e1, e2⟩ := and_some h'
  refine wE_of (pe_and (wE_ok ea) (wE_ok _)) (andR (pa ra e1) e2 tk s E (fun _ _ _ => K) fun u v Hs1 H1 hd g1 r1 => ?_)
  split at hd
  · cases r1
    exact ⟨true, rfl, pb r hd W tk σ Hs1 H1 Q g1.sub (E.mono g1.sh) (K.go g1)⟩
  · cases r1
    cases hd
    exact ⟨false, rfl, (K.go g1).val g1.sub (.bl false)⟩
  · cases hd
theorem or_go {rest : List Expr} (pa : ∀ ra, ev Φ γ false a = some ra → PG X (γ.map (S2.sl π)) ea ra) (pb : ∀ rb, ev Φ γ false b = some rb → PG X (γ.map (S2.sl π)) (.BoolOp .Or (eb :: rest) p) rb) (h : ev Φ γ false (.or a b) = some r) :
    PG X (γ.map (S2.sl π)) (.BoolOp .Or (ea :: eb :: rest) p) r := fun W tk σ Hs H Q s E K => by
  have h' : RR.and (ev Φ γ false a) (fun
    | .bl true => bv true
    | .bl false => ev Φ γ false b
    | _ => none) = some r := h
  obtain ⟨ra, e1, e2⟩ := and_some h'
  refine wE_of (pe_or (wE_ok ea) (wE_ok _)) (andR (pa ra e1) e2 tk s E (fun _ _ _ => K) fun u v Hs1 H1 hd g1 r1 => ?_)
  split at hd
  · cases r1
    cases hd
    exact ⟨true, rfl, (K.go g1).val g1.sub (.bl true)⟩
  · cases r1
    exact ⟨false, rfl, pb r hd W tk σ Hs1 H1 Q g1.sub (E.mono g1.sh) (K.go g1)⟩
  · cases hd
theorem and_goT {rest : List Expr} (pa : ∀ ra, ev Φ γ true a = some ra → PGW X (γ.map (S2.sl π)) ea ra) (pb : ∀ q, ev Φ γ true b = some (.val (.bl q)) → PDW X (γ.map (S2.sl π)) (.BoolOp .And (eb :: rest) p) q) (h : ev Φ γ true (.and a b) = some r) :
    PGW X (γ.map (S2.sl π)) (.BoolOp .And (ea :: eb :: rest) p) r := fun q hq => by
  subst hq
  have h' : RR.and (ev Φ γ true a) (fun
    | .bl true => ev Φ γ true b
    | .bl false => bv false
    | _ => none) = some (.val (.bl q)) := h
  obtain ⟨ra, e1, e2⟩ := and_some h'
  have w : PDW X (γ.map (S2.sl π)) (.BoolOp .And (ea :: eb :: rest) p) q := by
    cases ra with
    | val d =>
      have e3 : (match d with
        | .bl true => ev Φ γ true b
        | .bl false => bv false
        | _ => none) = some (.val (.bl q)) := e2
      split at e3
      · have z := pw_and (q := q) ((pa _ e1) true rfl).1 fun _ => pb q e3
        rwa [Bool.true_and] at z
      · cases e3
        have z := pw_and (b := eb) (rest := rest) (pos := p) (q := false) ((pa _ e1) false rfl).1 fun h => by cases h
        exact z
      · cases e3
    | new ds => cases e2
    | exc C fs => cases e2
  exact ⟨w.pt, fun _ => w⟩
theorem or_goT {rest : List Expr} (pa : ∀ ra, ev Φ γ true a = some ra → PGW X (γ.map (S2.sl π)) ea ra) (pb : ∀ q, ev Φ γ true b = some (.val (.bl q)) → PDW X (γ.map (S2.sl π)) (.BoolOp .Or (eb :: rest) p) q) (h : ev Φ γ true (.or a b) = some r) :
    PGW X (γ.map (S2.sl π)) (.BoolOp .Or (ea :: eb :: rest) p) r := fun q hq => by
  subst hq
  have h' : RR.and (ev Φ γ true a) (fun
    | .bl true => bv true
    | .bl false => ev Φ γ true b
    | _ => none) = some (.val (.bl q)) := h
  obtain ⟨ra, e1, e2⟩ := and_some h'
  have w : PDW X (γ.map (S2.sl π)) (.BoolOp .Or (ea :: eb :: rest) p) q := by
    cases ra with
    | val d =>
      have e3 : (match d with
        | .bl true => bv true
        | .bl false => ev Φ γ true b
        | _ => none) = some (.val (.bl q)) := e2
      split at e3
      · cases e3
        have z := pw_or (b := eb) (rest := rest) (pos := p) (q := true) ((pa _ e1) true rfl).1 fun h => by cases h
        exact z
      · have z := pw_or (q := q) ((pa _ e1) false rfl).1 fun _ => pb q e3
        rwa [Bool.false_or] at z
      · cases e3
    | new ds => cases e2
    | exc C fs => cases e2
  exact ⟨w.pt, fun _ => w⟩
theorem PG.one {op : BoolOp} {g : List Sl} (h : PG X g ea r) : PG X g (.BoolOp op [ea] p) r := fun W tk σ Hs H Q s E K => wE_of (pe_one (wE_ok ea)) (h W tk σ Hs H Q s E K)
theorem bl?_ok {r : Option RR} {q : Bool} (h : bl? r = some q) : r = some (.val (.bl q)) := by
  unfold bl? at h
  split at h
  · cases h; rfl
  · cases h
theorem s_ife (ih : IHt Φ S k n) (x : XO Φ S k M X) (gx : XG X π γ) (h0 : okE S n M c ec = true) (h1 : okE S n M a ea = true) (h2 : okE S n M b eb = true) (h : ev Φ γ false (.ife c a b) = some r) : PG X (γ.map (S2.sl π)) (.IfExp ec ea eb p) r := fun W tk σ Hs H Q s E K => by
  have h' : (match bl? (ev Φ γ true c) with
    | some true => ev Φ γ false a
    | some false => ev Φ γ false b
    | none => none) = some r := h
  cases q : bl? (ev Φ γ true c) with
  | none => rw [q] at h'; cases h'
  | some q0 =>
    rw [q] at h'
    have pc := ((ih M X x γ π gx c ec h0).2 _ (bl?_ok q) q0 rfl).1
    refine wE_of (pe_ifExp (wT_ok ec) (wE_ok ea) (wE_ok eb)) (pc σ Hs H _ s E fun Hs' H' g => ?_)
    cases q0 with
    | true => exact (ih M X x γ π gx a ea h1).1 r h' W tk σ Hs' H' Q g.sub (E.mono g.sh) (K.go g)
    | false => exact (ih M X x γ π gx b eb h2).1 r h' W tk σ Hs' H' Q g.sub (E.mono g.sh) (K.go g)
theorem s_att (ih : IHt Φ S k n) (x : XO Φ S k M X) (gx : XG X π γ) {f : Str} (hc : isCall0 eo = false) (h1 : okE S n M o eo = true) (h : ev Φ γ false (.att o f) = some r) : PG X (γ.map (S2.sl π)) (.Attribute eo f p) r := fun W tk σ Hs H Q s E K => by
  have h' : RR.and (ev Φ γ false o) (fun x => match x with
    | .obj C fs => if Φ.fld C f then (fs.lookup f).map .val else none
    | _ => none) = some r := h
  obtain ⟨ra, e1, e2⟩ := and_some h'
  refine wE_of (pe_fld (wE_ok eo) (attr_base hc)) (andR ((ih M X x γ π gx o eo h1).1 ra e1) e2 tk s E (fun _ _ _ => K) fun u v Hs1 H1 hd g1 r1 => ?_)
  split at hd
  · split at hd
    next hf =>
      cases r1 with
      | obj h1 r1 =>
        cases q : List.lookup f _ with
        | none => rw [q] at hd; cases hd
        | some d =>
          rw [q] at hd
          cases hd
          obtain ⟨u, hu, ru⟩ := r1.get q
          obtain ⟨c1, c2⟩ := x.g.at_ _ f hf
          exact ⟨_, _, _, _, u, rfl, g1.sub _ _ h1, c1, c2, hu, (K.go g1).val g1.sub ru⟩
    · cases hd
  · cases hd
theorem s_fn (ih : IHt Φ S k n) (x : XO Φ S k M X) (gx : XG X π γ) (hcm : M.calm = true) {f : Nat} {nm : Str} {as : List IE} {e : Expr} {es : List Expr} {p2 : Pos} (hf : S.fname f = some nm) (hg : (glB M nm && plainN nm) = true) (h1 : all2 (okE S n M) as (e :: es) = true) (h : ev Φ γ false (.fn f as) = some r) :
    PG X (γ.map (S2.sl π)) (.Call (.Name nm p2) (e :: es) [] p) r := fun W tk σ Hs H Q s E K => by
  have h' : evL Φ γ as (fun ds => Φ.call f ds) = some r := h
  obtain ⟨fa, fd, ps, F, m, kp, bd, _⟩ := x.g.fn f nm hf
  obtain ⟨q1, q2, _⟩ := glB_ok x hg
  have ns : ∀ y ∈ (e :: es), isStar y = false := fun y hy => by
    obtain ⟨i, hi⟩ := all2_mem h1 y hy
    exact ok_nostar hi
  refine wE_of (pe_callS F (x.hr hcm) q1 m kp bd (fun σ => passAt tk σ) (wA_ok _) q2 (star_cons (ns e (List.mem_cons_self ..))) (star_any fun y hy => ns y (List.mem_cons_of_mem _ hy))) ?_
  exact argsR ih x gx tk h1 h' s E (fun _ _ _ => K) fun ds vs Hs1 H1 hk g1 r1 => ⟨Hs1, ds, r, g1.sub, r1, hk, K.go g1⟩
theorem s_bi (ih : IHt Φ S k n) (x : XO Φ S k M X) (gx : XG X π γ) {bb : BI} {nm : Str} {as : List IE} {e : Expr} {es : List Expr} {p2 : Pos} (hkn : biKnown bb = true) (hb : biN bb = nm) (hg : free S M nm = true) (h1 : all2 (okE S n M) as (e :: es) = true) (nt : bb ≠ .trg) (nl : bb ≠ .lset) (h : ev Φ γ false (.bi bb as) = some r) :
    PG X (γ.map (S2.sl π)) (.Call (.Name nm p2) (e :: es) [] p) r := fun W tk σ Hs H Q s E K => by
  have h' : evL Φ γ as (fun ds => biD bb ds) = some r := h
  obtain ⟨q1, q2, q3, q4⟩ := free_ok x hg
  have ns : ∀ y ∈ (e :: es), isStar y = false := fun y hy => by
    obtain ⟨i, hi⟩ := all2_mem h1 y hy
    exact ok_nostar hi
  have n1 := star_cons (env := X.env) (es := es) (ns e (List.mem_cons_self ..))
  have n2 := star_any (pos := p) (env := X.env) fun y (hy : y ∈ es) => ns y (List.mem_cons_of_mem _ hy)
  subst hb
  by_cases hk : ∃ id, bootBuiltins (biN bb) = some (.builtin id)
  · obtain ⟨id, hid⟩ := hk
    refine wE_of (pe_callB callAny q1 q2 hid (wA_ok _) q4 q3 n1 n2) (argsR ih x gx tk h1 h' s E (fun _ _ _ => K) fun ds vs Hs1 H1 hk g1 r1 => ?_)
    rcases biOk (X := X) hk nt nl (fun z => by subst z; exact absurd hkn (by decide +kernel)) with ⟨id', rr, w1, w2, w3⟩ | ⟨T, rr, w1, w2, w3⟩
    · rw [w1] at hid; cases hid
      exact ⟨rr, w2, w3 Hs1 H1 vs Q _ g1.sub r1 (K.go g1)⟩
    · rw [w1] at hid; cases hid
  · by_cases hk2 : ∃ T, bootBuiltins (biN bb) = some (.type T)
    · obtain ⟨T, hT⟩ := hk2
      refine wE_of (pe_callTy callAny q1 q2 hT (wA_ok _) q4 q3 n1 n2) (argsR ih x gx tk h1 h' s E (fun _ _ _ => K) fun ds vs Hs1 H1 hk g1 r1 => ?_)
      rcases biOk (X := X) hk nt nl (fun z => by subst z; exact absurd hkn (by decide +kernel)) with ⟨id', rr, w1, w2, w3⟩ | ⟨T', rr, w1, w2, w3⟩
      · rw [w1] at hT; cases hT
      · rw [w1] at hT; cases hT
        exact ⟨rr, w2, w3 Hs1 H1 vs Q _ g1.sub r1 (K.go g1)⟩
    · exfalso
      unfold biKnown at hkn
      split at hkn
      next id q => exact hk ⟨_, q⟩
      next T q => exact hk2 ⟨_, q⟩
      next => cases hkn
end
end Ev
end

section
set_option Elab.async false
set_option linter.all false
set_option maxRecDepth 100000
set_option maxHeartbeats 4000000
set_option autoImplicit false
namespace Ev
open PySem PySem.Spec PyProof.Rows L2 Pd
section
variable {Φ : Phi} {S : Sta} {k n : Nat} {M : Md} {X : Cx} {γ : List S2} {π : Pt} {a b c o : IE} {ea eb ec eo : Expr} {p : Pos} {r : RR}
theorem s_loc (x : XO Φ S k M X) {i : Nat} {nm : Str} (hn : isN M i nm = true) (h : ev Φ γ false (.loc i) = some r) : PG X (γ.map (S2.sl π)) (.Name nm p) r := by
  have h' : (match γ[i]? with
    | some (.sh d) => some (RR.val d)
    | _ => none) = some r := h
  obtain ⟨q1, q2, q3, q4⟩ := visB_ok x hn
  split at h'
  next d e =>
    cases h'
    exact PG.of_pd (pd_v i (map_at e) q1 q2 q3 q4)
  next => cases h'
theorem s_glo (x : XO Φ S k M X) {i : Nat} {nm : Str} (hs : S.gname i = some nm) (hg : (glB M nm && plainN nm) = true) (h : ev Φ γ false (.glo i) = some r) : PG X (γ.map (S2.sl π)) (.Name nm p) r := by
  have h' : (Φ.glob i).map RR.val = some r := h
  obtain ⟨q1, q2, _⟩ := glB_ok x hg
  cases e : Φ.glob i with
  | none => rw [e] at h'; cases h'
  | some d =>
    rw [e] at h'
    cases h'
    obtain ⟨v, u, m, rv, hv⟩ := x.g.gl i nm d hs e
    exact PG.of_pd (pd_glob q1 m rv hv q2)
theorem s_kls (x : XO Φ S k M X) {i : Nat} {nm : Str} (hs : S.cname i = some nm) (hg : (glB M nm && plainN nm) = true) (h : ev Φ γ false (.kls i) = some r) : PG X (γ.map (S2.sl π)) (.Name nm p) r := by
  obtain ⟨q1, q2, _⟩ := glB_ok x hg
  have h' : some (RR.val (.adr (Φ.ga i))) = some r := h
  cases h'
  exact PG.of_pd (pd_glob (v := .ref (Φ.ga i)) q1 (x.g.kl i nm hs) rfl (fun _ => .adr _) q2)
theorem s_lst (ih : IHt Φ S k n) (x : XO Φ S k M X) (gx : XG X π γ) {as : List IE} {es : List Expr} (h1 : all2 (okE S n M) as es = true) (h : ev Φ γ false (.lst as) = some r) : PG X (γ.map (S2.sl π)) (.List es p) r := fun W tk σ Hs H Q s E K => by
  have h' : evL Φ γ as (fun ds => if ds.length ≤ 100000 then some (.new ds) else none) = some r := h
  refine wE_of (pe_lst (wA_ok es)) (argsR ih x gx tk h1 h' s E (fun _ _ _ => K) fun ds vs Hs1 H1 hk g1 r1 => ?_)
  split at hk
  next hz =>
    cases hk
    exact ⟨sz_of (by rw [r1.length]; exact hz), newL g1.sub r1 (K.go g1)⟩
  next => cases hk
theorem s_tup (ih : IHt Φ S k n) (x : XO Φ S k M X) (gx : XG X π γ) {as : List IE} {es : List Expr} {j : Nat} (h1 : all2 (okE S n M) as es = true) (h : ev Φ γ false (.tup as) = some r) : PG X (γ.map (S2.sl π)) (.Tuple es j p) r := fun W tk σ Hs H Q s E K => by
  have h' : evL Φ γ as (fun ds => if ds.length ≤ 100000 then some (.val (.tup ds)) else none) = some r := h
  refine wE_of (pe_tup (wA_ok es)) (argsR ih x gx tk h1 h' s E (fun _ _ _ => K) fun ds vs Hs1 H1 hk g1 r1 => ?_)
  split at hk
  next hz =>
    cases hk
    exact ⟨sz_of (by rw [r1.length]; exact hz), newT g1.sub r1 (K.go g1)⟩
  next => cases hk
def okO1 (S : Sta) (n : Nat) (M : Md) (lo : List IE) (l : Option Expr) : Bool := match lo, l with
  | [], none => true
  | [i], some y => okE S n M i y
  | _, _ => false
theorem evO_ok (ih : IHt Φ S k n) (x : XO Φ S k M X) (gx : XG X π γ) {lo : List IE} {l : Option Expr} {q : Option Int} (h : okO1 S n M lo l = true) (e : evO Φ γ lo = some q) : PDO X (γ.map (S2.sl π)) l q := by
  unfold okO1 at h
  split at h
  · have e' : (some none : Option (Option Int)) = some q := e
    cases e'
    exact trivial
  · next i y =>
    have e' : (match RR.d? (ev Φ γ false i) with
      | some (.int i) => some (some i)
      | _ => none) = some q := e
    split at e'
    · next j hj =>
      cases e'
      cases z : ev Φ γ false i with
      | none => rw [z] at hj; cases hj
      | some ra =>
        rw [z] at hj
        exact ((ih M X x γ π gx i y h).1 ra z).d hj
    · cases e'
  · cases h
theorem s_slc (ih : IHt Φ S k n) (x : XO Φ S k M X) (gx : XG X π γ) {lo hi : List IE} {l h0 : Option Expr} {p2 : Pos} (h1 : okE S n M a ea = true) (hl : okO1 S n M lo l = true) (hh : okO1 S n M hi h0 = true) (h : ev Φ γ false (.slc a lo hi) = some r) :
    PG X (γ.map (S2.sl π)) (.Subscript ea (.Slice l h0 none p2) p) r := fun W tk σ Hs H Q s E K => by
  have h' : RR.and (ev Φ γ false a) (fun x => match evO Φ γ lo, evO Φ γ hi with
    | some l, some h => slcD x l h
    | _, _ => none) = some r := h
  obtain ⟨ra, e1, e2⟩ := and_some h'
  refine wE_of (pe_slice slAny (wE_ok ea) (tO_ok l) (tO_ok h0)) (andR ((ih M X x γ π gx a ea h1).1 ra e1) e2 tk s E (fun _ _ _ => K) fun u v Hs1 H1 hd g1 r1 => ?_)
  cases q1 : evO Φ γ lo with
  | none => rw [q1] at hd; cases hd
  | some ql =>
    cases q2 : evO Φ γ hi with
    | none => rw [q1, q2] at hd; cases hd
    | some qh =>
      rw [q1, q2] at hd
      refine po_go (evO_ok (π := π) ih x gx hl q1) g1.sub (E.mono g1.sh) fun Hs2 H2 g2 => ?_
      refine po_go (evO_ok (π := π) ih x gx hh q2) g2.sub (E.mono (g1.trans g2).sh) fun Hs3 H3 g3 => ?_
      obtain ⟨rr, w1, w2⟩ := slcR (X := X) hd
      exact ⟨rr, w1, w2 Hs3 H3 v Q _ g3.sub ((r1.mono g2.sh).mono g3.sh) (K.go ((g1.trans g2).trans g3))⟩
theorem s_rev (ih : IHt Φ S k n) (x : XO Φ S k M X) (gx : XG X π γ) {j : Nat} {p1 p2 p3 : Pos} (h1 : okE S n M a ea = true) (h : ev Φ γ false (.rev a) = some r) : PG X (γ.map (S2.sl π)) (.Subscript ea (.Slice none none (some (.UnaryOp .USub (.Constant (.int 1) j p1) p2)) p3) p) r := by
  have h' : RR.and (ev Φ γ false a) (fun x => match x with
    | .tup ds => some (.val (.tup ds.reverse))
    | _ => none) = some r := h
  obtain ⟨ra, e1, e2⟩ := and_some h'
  have pa := (ih M X x γ π gx a ea h1).1 ra e1
  have main : ∀ d, PD X (γ.map (S2.sl π)) ea d → (match d with
    | .tup ds => some (RR.val (.tup ds.reverse))
    | _ => none) = some r → PG X (γ.map (S2.sl π)) (.Subscript ea (.Slice none none (some (.UnaryOp .USub (.Constant (.int 1) j p1) p2)) p3) p) r := fun d pd e => by
    split at e
    · cases e
      exact PG.of_pd (pd_rvT pd)
    · cases e
  cases ra with
  | val d => exact main d pa.pd e2
  | new ds => exact main _ pa.pn.pd e2
  | exc C fs =>
    cases e2
    exact fun W tk σ Hs H Q s E K => wE_of (pe_rvT (wE_ok ea)) (pa W tk σ Hs H _ s E K)
theorem d_of {g : List Sl} {r : Option RR} {d : D} (h : RR.d? r = some d) (hp : ∀ ra, r = some ra → PG X g ea ra) : PD X g ea d := by
  cases r with
  | none => cases h
  | some ra => exact (hp ra rfl).d h
theorem evL1 {kf : List D → Option RR} (h : evL Φ γ [a] kf = some r) : (∃ d, RR.d? (ev Φ γ false a) = some d ∧ kf [d] = some r) ∨ ∃ C fs, ev Φ γ false a = some (.exc C fs) ∧ r = .exc C fs := by
  have h' : RR.and (ev Φ γ false a) (fun d => kf [d]) = some r := h
  obtain ⟨ra, e1, e2⟩ := and_some h'
  rw [e1]
  cases ra with
  | val d => exact .inl ⟨d, rfl, e2⟩
  | new ds => exact .inl ⟨_, rfl, e2⟩
  | exc C fs => cases e2; exact .inr ⟨C, fs, rfl, rfl⟩
theorem s_inb (ih : IHt Φ S k n) (x : XO Φ S k M X) (gx : XG X π γ) {t : String} {z : Str} {p2 p3 : Pos} (hg : free S M "isinstance" = true) (hz : free S M z = true) (hb : bootBuiltins z = some (.type t)) (h1 : okE S n M a ea = true) (h : ev Φ γ false (.inb a t) = some r) :
    PG X (γ.map (S2.sl π)) (.Call (.Name "isinstance" p2) [ea, .Name z p3] [] p) r := by
  have h' : RR.and (ev Φ γ false a) (fun x => match x.tyN with
    | some t' => (kitB t' t).bind bv
    | none => none) = some r := h
  obtain ⟨ra, e1, e2⟩ := and_some h'
  have pa := (ih M X x γ π gx a ea h1).1 ra e1
  obtain ⟨q1, q2, q3, q4⟩ := free_ok x hg
  obtain ⟨w1, w2, w3, w4⟩ := free_ok x hz
  have n1 : starEach [ea, .Name z p3] X.env = (false, eval ea X.env) :: starEach [.Name z p3] X.env := star_cons (ok_nostar h1)
  have main : ∀ d, PD X (γ.map (S2.sl π)) ea d → (match d.tyN with
    | some t' => (kitB t' t).bind bv
    | none => none) = some r → PG X (γ.map (S2.sl π)) (.Call (.Name "isinstance" p2) [ea, .Name z p3] [] p) r := fun d pd e => by
    split at e
    · next t' ht =>
      cases q : kitB t' t with
      | none => rw [q] at e; cases e
      | some bb =>
        rw [q] at e
        cases e
        exact PG.of_pd (pd_isi pd ht q q2 w2 hb q1 w1 w4 w3 n1 rfl rfl)
    · cases e
  cases ra with
  | val d => exact main d pa.pd e2
  | new ds => exact main _ pa.pn.pd e2
  | exc C fs =>
    cases e2
    exact fun W tk σ Hs H Q s E K => wE_of (pe_callB (id := "isinstance") (r := fun _ _ _ => False) (fun _ _ _ _ _ _ _ _ _ z => z.elim) q1 q2 (by decide +kernel) (wA_ok _) q4 q3 n1 rfl) (wA_of (L2.pa_cons (wE_ok ea) (wA_ok _) n1) (pa W tk σ Hs H _ s E K))
theorem s_trg (ih : IHt Φ S k n) (x : XO Φ S k M X) (gx : XG X π γ) (hcm : M.calm = true) {p1 p2 p3 : Pos} (hg : free S M "tuple" = true) (hz : free S M "range" = true) (h1 : okE S n M a ea = true) (h : ev Φ γ false (.bi .trg [a]) = some r) :
    PG X (γ.map (S2.sl π)) (.Call (.Name "tuple" p1) [.Call (.Name "range" p2) [ea] [] p3] [] p) r := by
  have h' : evL Φ γ [a] (fun ds => biD .trg ds) = some r := h
  obtain ⟨q1, q2, q3, q4⟩ := free_ok x hg
  obtain ⟨w1, w2, w3, w4⟩ := free_ok x hz
  have na := star_cons (env := X.env) (es := []) (ok_nostar h1)
  rcases evL1 h' with ⟨d, e1, e2⟩ | ⟨C, fs, e1, rfl⟩
  · have pd := d_of e1 ((ih M X x γ π gx a ea h1).1)
    have e2' : biD .trg [d] = some r := e2
    unfold biD at e2'
    split at e2' <;> first | contradiction | skip
    next i z =>
      cases z
      split at e2'
      next hb =>
        cases e2'
        exact PG.of_pd (pd_tupRg pd hb.1 hb.2 q2 w2 q1 w1 na (x.calm hcm))
      next => cases e2'
  · exact fun W tk σ Hs H Q s E K => wE_of (pe_tupRg (x.calm hcm) q1 q2 (prg_1 w1 w2 (wE_ok ea) na) rfl) ((ih M X x γ π gx a ea h1).1 _ e1 W tk σ Hs H _ s E K)
theorem s_lset (ih : IHt Φ S k n) (x : XO Φ S k M X) (gx : XG X π γ) (hcm : M.calm = true) {p1 p2 p3 : Pos} (hg : free S M "len" = true) (hz : free S M "set" = true) (h1 : okE S n M a ea = true) (h : ev Φ γ false (.bi .lset [a]) = some r) :
    PG X (γ.map (S2.sl π)) (.Call (.Name "len" p1) [.Call (.Name "set" p2) [ea] [] p3] [] p) r := by
  have h' : evL Φ γ [a] (fun ds => biD .lset ds) = some r := h
  obtain ⟨q1, q2, q3, q4⟩ := free_ok x hg
  obtain ⟨w1, w2, w3, w4⟩ := free_ok x hz
  have na := star_cons (env := X.env) (es := []) (ok_nostar h1)
  rcases evL1 h' with ⟨d, e1, e2⟩ | ⟨C, fs, e1, rfl⟩
  · have pd := d_of e1 ((ih M X x γ π gx a ea h1).1)
    have e2' : biD .lset [d] = some r := e2
    unfold biD at e2'
    split at e2' <;> first | contradiction | skip
    next ds z1 z =>
      cases z
      cases q : ints? ds with
      | none => rw [q] at e2'; cases e2'
      | some ns =>
        rw [q] at e2'
        have e3 : (if ns.length ≤ 4000 then iv (kinds ns).length else none) = some r := e2'
        split at e3
        next hb =>
          cases e3
          rw [ints_ok q] at pd
          exact PG.of_pd (pd_lenS2 pd hb q2 w2 q1 w1 (x.calm hcm) na)
        next => cases e3
  · exact fun W tk σ Hs H Q s E K => wE_of (pe_lenS q1 q2 w1 w2 (wE_ok ea) (x.calm hcm) na) ((ih M X x γ π gx a ea h1).1 _ e1 W tk σ Hs H _ s E K)
theorem evD1 {ds : List D} (h : evD Φ γ [a] = some ds) : ∃ d, RR.d? (ev Φ γ false a) = some d ∧ ds = [d] := by
  have h' : (match RR.d? (ev Φ γ false a), (some [] : Option (List D)) with
    | some d, some ds => some (d :: ds)
    | _, _ => none) = some ds := h
  cases q : RR.d? (ev Φ γ false a) with
  | none => rw [q] at h'; cases h'
  | some d => rw [q] at h'; cases h'; exact ⟨d, rfl, rfl⟩
theorem evD2 {ds : List D} (h : evD Φ γ [a, b] = some ds) : ∃ d e, RR.d? (ev Φ γ false a) = some d ∧ RR.d? (ev Φ γ false b) = some e ∧ ds = [d, e] := by
  have h' : (match RR.d? (ev Φ γ false a), evD Φ γ [b] with
    | some d, some ds => some (d :: ds)
    | _, _ => none) = some ds := h
  cases q : RR.d? (ev Φ γ false a) with
  | none => rw [q] at h'; cases h'
  | some d =>
    cases q2 : evD Φ γ [b] with
    | none => rw [q, q2] at h'; cases h'
    | some l =>
      rw [q, q2] at h'
      cases h'
      obtain ⟨e, w1, rfl⟩ := evD1 q2
      exact ⟨d, e, rfl, w1, rfl⟩
theorem itr_parts {ra : RR} (h : ev Φ γ false (.itr a) = some ra) : (∃ C fs f ds, ev Φ γ false a = some (.val (.obj C fs)) ∧ Φ.itf C = some f ∧ fs.lookup f = some (.tup ds) ∧ ra = .val (.tup ds)) ∨ ∃ C fs, ev Φ γ false a = some (.exc C fs) ∧ ra = .exc C fs := by
  have h' : RR.and (ev Φ γ false a) (fun x => match x with
    | .obj C fs => (match Φ.itf C with
      | some f => (match fs.lookup f with
        | some (.tup ds) => some (.val (.tup ds))
        | _ => none)
      | none => none)
    | _ => none) = some ra := h
  obtain ⟨rb, e1, e2⟩ := and_some h'
  cases rb with
  | val d =>
    cases d with
    | obj C fs =>
      have e2 : (match Φ.itf C with
        | some f => (match fs.lookup f with
          | some (.tup ds) => some (RR.val (.tup ds))
          | _ => none)
        | none => none) = some ra := e2
      split at e2
      · next f hf =>
        split at e2
        · next ds hl => cases e2; exact .inl ⟨_, _, f, ds, e1, hf, hl, rfl⟩
        · cases e2
      · cases e2
    | _ => cases e2
  | new ds => cases e2
  | exc C fs => cases e2; exact .inr ⟨C, fs, e1, rfl⟩
theorem it_ok (ih : IHt Φ S k n) (x : XO Φ S k M X) (gx : XG X π γ) {kk : IK} {its : List IE} {e tg : Expr} {items : List D} (h : okIt (okE S n M) S M kk its e = true) (hv : (evD Φ γ its).bind (itms kk) = some items) (ht : kk = .en → ∃ elts j tp, tg = .Tuple elts j tp) :
    PDIt X (γ.map (S2.sl π)) tg e items ∧ ∀ y, foldedSetIterable e X.env y = pure y := by
  obtain ⟨h0, h⟩ := ba h
  refine ⟨?_, noset_it (nb h0)⟩
  split at h
  · next a y =>
    cases q : evD Φ γ [a] with
    | none => rw [q] at hv; cases hv
    | some ds =>
      rw [q] at hv
      obtain ⟨d, e1, rfl⟩ := evD1 q
      have pd := d_of e1 ((ih M X x γ π gx a _ h).1)
      have e2 : itms .vl [d] = some items := hv
      unfold itms at e2
      split at e2 <;> first | contradiction | skip
      · next l z1 z => cases z; cases e2; exact (it_l pd).at tg
      · next l z1 z => cases z; cases e2; exact (it_r pd).at tg
      · next l z1 z => cases z; cases e2; exact (it_t pd).at tg
      · next l z1 z => cases z; cases e2; exact (it_s pd).at tg
  · next nm p1 xs p2 h9 =>
    obtain ⟨hn, hA⟩ := ba h
    obtain ⟨hf, hB⟩ := ba hA
    obtain ⟨hl, hC⟩ := ba hB
    have hn := of_decide_eq_true hn
    subst hn
    obtain ⟨q1, q2, q3, q4⟩ := free_ok x hf
    match xs, its, hC, hv with
    | [y], [a], h, hv =>
      obtain ⟨h1, _⟩ := ba h
      cases q : evD Φ γ [a] with
      | none => rw [q] at hv; cases hv
      | some ds =>
        rw [q] at hv
        obtain ⟨d, e1, rfl⟩ := evD1 q
        have pd := d_of e1 ((ih M X x γ π gx a _ h1).1)
        have e2 : itms .rg [d] = some items := hv
        unfold itms at e2
        split at e2 <;> first | contradiction | skip
        · next j z1 z =>
          cases z
          split at e2
          next hb =>
            cases e2
            exact (it_range1 pd q2 hb.1 hb.2 q1 (star_cons (ok_nostar h1))).at tg
          next => cases e2
        · next z => cases z
    | [y, z], [a, b], h, hv =>
      obtain ⟨h1, h⟩ := ba h
      obtain ⟨h2, _⟩ := ba h
      cases q : evD Φ γ [a, b] with
      | none => rw [q] at hv; cases hv
      | some ds =>
        rw [q] at hv
        obtain ⟨d, d2, e1, e3, rfl⟩ := evD2 q
        have pd := d_of e1 ((ih M X x γ π gx a _ h1).1)
        have pd2 := d_of e3 ((ih M X x γ π gx b _ h2).1)
        have e2 : itms .rg [d, d2] = some items := hv
        unfold itms at e2
        split at e2 <;> first | contradiction | skip
        · next z => cases z
        next i j z1 z =>
          cases z
          split at e2
          next hb =>
            cases e2
            have s2 : starEach [z] X.env = [(false, eval z X.env)] := star_cons (ok_nostar h2)
            exact (it_range2 pd pd2 q2 ⟨hb.1.1, hb.1.2, hb.2.1, hb.2.2⟩ q1 (by rw [star_cons (ok_nostar h1), s2]) s2).at tg
          next => cases e2
    | [], [], _, _ => cases hl
    | _ :: _ :: _ :: _, _, _, _ => cases hl
    | [], _ :: _, h, _ => cases h
    | [_], [], h, _ => cases h
    | [_], _ :: _ :: _, h, _ => exact (by obtain ⟨_, h⟩ := ba h; cases h)
    | [_, _], [], h, _ => cases h
    | [_, _], [_], h, _ => exact (by obtain ⟨_, h⟩ := ba h; cases h)
    | [_, _], _ :: _ :: _ :: _, h, _ => exact (by obtain ⟨_, h⟩ := ba h; obtain ⟨_, h⟩ := ba h; cases h)
  · next a y =>
    obtain ⟨hcm, h1⟩ := ba h
    cases q : evD Φ γ [.itr a] with
    | none => rw [q] at hv; cases hv
    | some ds =>
      rw [q] at hv
      obtain ⟨d, e1, rfl⟩ := evD1 q
      cases q2 : ev Φ γ false (.itr a) with
      | none => rw [q2] at e1; cases e1
      | some ra =>
        rw [q2] at e1
        rcases itr_parts q2 with ⟨C, fs, f, es, g1, g2, g3, rfl⟩ | ⟨C, fs, g1, rfl⟩
        · cases e1
          have e2 : itms .ow [.tup es] = some items := hv
          have e2 : some es = some items := e2
          cases e2
          have O := x.g.it C f g2
          have pd := ((ih M X x γ π gx a _ h1).1 _ g1).pd
          refine ⟨iOwn X.K C f (wE X _), pi_own O ((x.hr hcm).mono (by have := x.k3; omega)) (wE_ok _), fun σ Hs H R s E k => pd σ Hs H _ s E fun v Hs' H' g r => ?_⟩
          cases r with
          | obj h2 r2 =>
            obtain ⟨u, hu, ru⟩ := r2.get g3
            cases ru with
            | tup t1 r1 => exact ⟨_, _, _, _, _, rfl, g.sub _ _ h2, hu, sqT_mono g.sub t1, k _ Hs' H' g (feeds_t t1 r1)⟩
        · cases e1
  · next nm p1 xs p2 h9 =>
    obtain ⟨hn, hA⟩ := ba h
    obtain ⟨hf, hB⟩ := ba hA
    obtain ⟨hl, hC⟩ := ba hB
    have hn := of_decide_eq_true hn
    subst hn
    obtain ⟨q1, q2, q3, q4⟩ := free_ok x hf
    obtain ⟨elts, j, tp, rfl⟩ := ht rfl
    match xs, its, hC, hv with
    | [y], [a], h, hv =>
      obtain ⟨h1, _⟩ := ba h
      cases q : evD Φ γ [a] with
      | none => rw [q] at hv; cases hv
      | some ds =>
        rw [q] at hv
        obtain ⟨d, e1, rfl⟩ := evD1 q
        have pd := d_of e1 ((ih M X x γ π gx a _ h1).1)
        have e2 : itms .en [d] = some items := hv
        unfold itms at e2
        split at e2 <;> first | contradiction | skip
        · next l z1 z => cases z; cases e2; exact it_enL pd q2 q1 (star_cons (ok_nostar h1))
        · next l z1 z => cases z; cases e2; exact it_enT pd q2 q1 (star_cons (ok_nostar h1))
    | [], [], _, _ => cases hl
    | _ :: _ :: _, _, _, _ => cases hl
    | [], _ :: _, h, _ => cases h
    | [_], [], h, _ => cases h
    | [_], _ :: _ :: _, h, _ => exact (by obtain ⟨_, h⟩ := ba h; cases h)
  · cases h
end
end Ev
end

section
set_option Elab.async false
set_option linter.all false
set_option maxRecDepth 100000
set_option maxHeartbeats 4000000
set_option autoImplicit false
namespace Ev
open PySem PySem.Spec PyProof.Rows L2 Pd
theorem ht_of {o : Expr} {m : Str} {apos pos : Pos} {env : Env} {es : List Expr} {kws : List Keyword} (h : isCall0 o = false) (f : methodCallForm (es.length + kws.length) (backTo pos (starEach es env)) (backToKw pos (keywordEach kws env)) = true) (hl : (apos.endLine == pos.line) = true) : eval (.Call (.Attribute o m apos) es kws pos) env = (do
      let ov ← eval o env
      standAt apos.atName
      let (f, first) ← holding [ov] (getMethod ov m (do return (← importBound o env).getD true))
      callWith pos f first (backTo pos (starEach es env)) (backToKw pos (keywordEach kws env))) := by
  show (do
    let ov ← attributeBase o m env (eval o env)
    standAt apos.atName
    methodCall o m apos pos env ov (es.length + kws.length) (backTo pos (starEach es env)) (backToKw pos (keywordEach kws env))) = _
  rw [attr_base h]
  unfold methodCall
  rw [f]
  have e : methodCallPos true o env apos pos = pure pos := by
    unfold methodCallPos
    rw [hl]
    rfl
  rw [e]
  rfl
/-! ### any call's arguments -/
def wK (X : Cx) (kws : List Keyword) : TA := fun σ H Q => ∀ (pos : Pos) (pins : List (Addr × Obj)) (s : Shared), Inv X pins σ H s → wpAny (model X.prog X.w) X.A (evalAll ((backToKw pos (keywordEach kws X.env)).map (·.2))) (AP X pins σ Q) X.xe s
theorem wK_of {X : Cx} {kws : List Keyword} {t : TA} (h : PK X kws t) {σ : L2.St} {H : Hp} {Q : List V → Hp → Prop} (q : t σ H Q) : wK X kws σ H Q := fun pos pins s I => h.run pos pins s σ H Q I q
theorem wK_ok {X : Cx} (kws : List Keyword) : PK X kws (wK X kws) := ⟨fun pos pins s σ H Q I h => h pos pins s I⟩
def wA0 (X : Cx) : List Expr → TA
  | [] => fun _ H Q => Q [] H
  | e :: es => wA X (e :: es)
def wK0 (X : Cx) : List Keyword → TA
  | [] => fun _ H Q => Q [] H
  | e :: es => wK X (e :: es)
section
variable {X : Cx} {pins : List (Addr × Obj)} {σ : L2.St} {H : Hp} {s : Shared}
theorem cw_any {f : Value} {first : List Value} {es : List Expr} {kws : List Keyword} {pos : Pos} {Q' : Value → Shared → Prop} {R : List V → List V → Hp → Prop} (I : Inv X pins σ H s) (hk : PySem.W.keepIn X.K f = true) (ns : ∀ y ∈ es, isStar y = false) (hall : (backToKw pos (keywordEach kws X.env)).all (·.1.isSome) = true)
    (hany : (backToKw pos (keywordEach kws X.env)).any (·.1.isNone) = false) (h : wA0 X es σ H fun vs H1 => wK0 X kws σ H1 fun zs H2 => R vs zs H2)
    (k : ∀ us ws vs zs s' H2, Inv X pins σ H2 s' → Vals vs us → Vals zs ws → R vs zs H2 → wpAny (model X.prog X.w) X.A (call f (first ++ us) (((backToKw pos (keywordEach kws X.env)).filterMap (·.1)).zip ws)) Q' X.xe s') :
    wpAny (model X.prog X.w) X.A (callWith pos f first (backTo pos (starEach es X.env)) (backToKw pos (keywordEach kws X.env))) Q' X.xe s := by
  have ap := fun (e : Expr) (es : List Expr) (ns : ∀ y ∈ e :: es, isStar y = false) => star_any (pos := pos) (env := X.env) fun y (hy : y ∈ es) => ns y (List.mem_cons_of_mem _ hy)
  cases es with
  | nil =>
    cases kws with
    | nil =>
      have z := k [] [] [] [] s H I .nil .nil h
      exact PySem.W.callWith_K0 I.kIn hk z
    | cons kw kws =>
      refine PySem.W.callWith_KW0 (h₀ := X.base) I.ok.mod.kin hk hall ?_ (by rw [hany]; rfl)
      refine thn (h pos pins s I) fun ws s2 ⟨zs, H2, I2, rz, q2⟩ => ⟨I2.kIn, ?_⟩
      exact k [] ws [] zs s2 H2 I2 .nil rz q2
  | cons e es =>
    have he := star_cons (env := X.env) (es := es) (ns e (List.mem_cons_self ..))
    have hp := ap e es ns
    cases kws with
    | nil =>
      refine PySem.W.callWith_K (h₀ := X.base) I.ok.mod.kin hk (thn (h pos pins s I) fun us s1 ⟨vs, H1, I1, r, q⟩ => ⟨I1.kIn, ?_⟩) he hp
      exact k us [] vs [] s1 H1 I1 r .nil q
    | cons kw kws =>
      have hp2 : ((backTo pos (starEach (e :: es) X.env)).any (·.1) || (backToKw pos (keywordEach (kw :: kws) X.env)).any (·.1.isNone)) = false := by
        rw [hany, star_any (es := e :: es) (fun y hy => ns y hy)]; rfl
      refine PySem.W.callWith_KW (h₀ := X.base) I.ok.mod.kin hk hall (thn (h pos pins s I) fun us s1 ⟨vs, H1, I1, r, q⟩ => ?_) hp2 he
      refine thn (q pos pins s1 I1) fun ws s2 ⟨zs, H2, I2, rz, q2⟩ => ⟨I2.kIn, ?_⟩
      exact k us ws vs zs s2 H2 I2 r rz q2
theorem Reps.arr {K : PySem.W.Frag} {H : Hp} {vs zs : List V} {ds es : List D} (r1 : Reps K H vs ds) (r2 : Reps K H zs es) : ∀ {pl : List PA}, (∀ q ∈ pl, okPA vs.length zs.length q) → Reps K H (pl.map (paV vs zs)) (pl.map (paD ds es))
  | [], _ => .nil
  | q :: pl, h => by
    refine .cons ?_ (Reps.arr r1 r2 fun x hx => h x (List.mem_cons_of_mem _ hx))
    have hq := h q (List.mem_cons_self ..)
    cases q with
    | pos j =>
      have hj : j < ds.length := by rw [← r1.length]; exact hq
      obtain ⟨v, e1, e2⟩ := r1.get (i := j) (d := ds[j]) (by simp [hj])
      show Rep K H (vs.getD j .non) (ds.getD j .non)
      rw [List.getD_eq_getElem?_getD, List.getD_eq_getElem?_getD, e1, List.getElem?_eq_getElem hj]
      exact e2
    | kw j =>
      have hj : j < es.length := by rw [← r2.length]; exact hq
      obtain ⟨v, e1, e2⟩ := r2.get (i := j) (d := es[j]) (by simp [hj])
      show Rep K H (zs.getD j .non) (es.getD j .non)
      rw [List.getD_eq_getElem?_getD, List.getD_eq_getElem?_getD, e1, List.getElem?_eq_getElem hj]
      exact e2
    | dfl d =>
      cases d with
      | non => exact .non
      | bl b => exact .bl b
      | int i => exact .int i
      | str x => exact .str x
      | _ => cases hq
/-- a callee runs; what it lets out is taken at the slots -/
theorem run_any {W : WX} {k m : Nat} {f : Addr} {fd : FuncData} {ps ks : List Str} {sp : Sp} {pl : List PA} {Q : VK} {us ws : List Value} {vs zs : List V} (tk : Takes X W) (F : FnOk X.prog X.w X.K X.mg X.base (L2.CX X.prog X.w) k f fd ps sp) (hr : Room k X.A) (B : BD X.K fd ps m ks pl)
    (I : Inv X pins σ H s) (r : Vals vs us) (rz : Vals zs ws) (l1 : vs.length = m) (l2 : zs.length = ks.length) (h : sp (pl.map (paV vs zs)) H Q (WE W σ)) : wpAny (model X.prog X.w) X.A (call (.ref f) us (ks.zip ws)) (EP X pins σ Q) X.xe s := by
  obtain ⟨g, gV, kb, hg⟩ := B.ex
  have r2 := kb.rel r rz
  rw [hg vs zs l1 l2] at r2
  refine wpAny_call (codeAny_mono (F.run X.A X.stack s H ⟨us, ks.zip ws⟩ (g us ws) _ Q (WE W σ) hr I.env0 (kb.to s us ws I.kIn (r.length.symm.trans l1) (rz.length.symm.trans l2)) r2 h) fun r s' hq => ?_)
  cases r with
  | error e => exact passAt tk σ pins H s e s' I hq
  | ok fl =>
    cases fl with
    | ret u => exact I.after hq
    | next => exact False.elim hq
    | brk => exact False.elim hq
    | cont => exact False.elim hq
/-- an instance is made -/
theorem make_any {W : WX} {k m : Nat} {CO fI : Addr} {fd : FuncData} {ps ks : List Str} {sp : Sp} {pl : List PA} {Q : VK} {us ws : List Value} {vs zs : List V} (tk : Takes X W) (M : Mk X.K CO fI) (F : FnOk X.prog X.w X.K X.mg X.base (L2.CX X.prog X.w) k fI fd ps sp) (hr : Room (k + 1) X.A)
    (B : BD X.K fd ps (m + 1) ks pl) (I : Inv X pins σ H s) (r : Vals vs us) (rz : Vals zs ws) (l1 : vs.length = m) (l2 : zs.length = ks.length)
    (h : ∀ p dx, H p = none → H dx = none → dx ≠ p → sp (pl.map (paV (.ref p :: vs) zs)) (upd (upd H dx (.own p)) p (.ins CO dx [])) (fun v H2 => v = .non ∧ Q (.ref p) H2) (WE W σ)) : wpAny (model X.prog X.w) X.A (call (.ref CO) us (ks.zip ws)) (EP X pins σ Q) X.xe s := by
  obtain ⟨g, gV, kb, hg⟩ := B.ex
  let z := s.heap.objs.size
  have I2 := Inv.made (C := CO) I
  have hq := h (z + 1) z (I.hok.fresh (Nat.le_succ z)) (I.hok.fresh (Nat.le_refl z)) (Nat.ne_of_lt (Nat.lt_succ_self z))
  have rr : Vals (V.ref (z + 1) :: vs) (Value.ref (z + 1) :: us) := .cons rfl r
  have r2 := kb.rel rr rz
  rw [hg (V.ref (z + 1) :: vs) zs (congrArg Nat.succ l1) l2] at r2
  have e1 : (Value.ref (z + 1) :: us).length = m + 1 := rr.length.symm.trans (congrArg Nat.succ l1)
  refine wpAny_call (make_map (f := fI) I.kIn M.makes M.init (beq_iff_eq.mp M.fn) (codeAny_mono (F.run _ X.stack _ _ ⟨Value.ref (z + 1) :: us, ks.zip ws⟩ (g (Value.ref (z + 1) :: us) ws) _ _ (WE W σ) (hr.make CO us (ks.zip ws)) (I2.env0.make CO us (ks.zip ws)) (kb.to _ (Value.ref (z + 1) :: us) ws I2.kIn e1 (rz.length.symm.trans l2)) r2 hq) fun res s' hq' => ?_))
  match res, hq' with
  | .error er, hq' => exact passAt tk σ pins _ _ er s' I2 hq'
  | .ok (.ret u), hq' =>
    obtain ⟨v, H', I3, rv, ev, q3⟩ := I2.after hq'
    subst ev
    exact ⟨rv, V.ref (z + 1), H', I3, rfl, q3⟩
  | .ok .next, hq' => exact hq'.elim
  | .ok .brk, hq' => exact hq'.elim
  | .ok .cont, hq' => exact hq'.elim
end
end Ev
end

section
set_option Elab.async false
set_option linter.all false
set_option maxRecDepth 100000
set_option maxHeartbeats 4000000
set_option autoImplicit false
namespace Ev
open PySem PySem.Spec PyProof.Rows L2 Pd
section
variable {Φ : Phi} {S : Sta} {k n : Nat} {M : Md} {X : Cx} {γ : List S2} {π : Pt} {p : Pos} {r : RR}
/-- arguments, their number told -/
theorem argsN (ih : IHt Φ S k n) (x : XO Φ S k M X) (gx : XG X π γ) {W : WX} (tk : Takes X W) {σ : L2.St} {Q0 : VK} : ∀ {as : List IE} {xs : List Expr} {kf : List D → Option RR} {r : RR} {Hs H : Hp} {R : List V → Hp → Prop}, all2 (okE S n M) as xs = true → evL Φ γ as kf = some r →
    Same Hs H → SE X.K Hs σ (γ.map (S2.sl π)) → (∀ C fs, r = .exc C fs → KR X.K r Q0 (fun C dd H' => W (.ref C) (some dd) σ H') Hs H) →
    (∀ ds vs Hs1 H1, kf ds = some r → Gr Hs H Hs1 H1 → Reps X.K Hs1 vs ds → ds.length = xs.length → R vs H1) → wA X xs σ H R
  | [], [], kf, r, Hs, H, R, _, h, s, E, K, kk => wA_of L2.pa_nil (kk [] [] Hs H h (Gr.refl s) .nil rfl)
  | a :: as, y :: ys, kf, r, Hs, H, R, ok, h, s, E, K, kk => by
    obtain ⟨o1, o2⟩ := ba ok
    have h' : RR.and (ev Φ γ false a) (fun d => evL Φ γ as fun ds => kf (d :: ds)) = some r := by rw [evL] at h; exact h
    obtain ⟨ra, e1, e2⟩ := and_some h'
    refine wA_of (L2.pa_cons (wE_ok y) (wA_ok ys) (star_cons (ok_nostar o1))) ?_
    refine andR (((ih M X x γ π gx a y o1).1) ra e1) e2 tk s E K fun d v Hs1 H1 hd g1 r1 => ?_
    refine argsN ih x gx tk o2 hd g1.sub (E.mono g1.sh) (fun C fs e => (K C fs e).go g1) fun ds vs Hs2 H2 hk g2 r2 l2 => ?_
    exact kk (d :: ds) (v :: vs) Hs2 H2 hk (g1.trans g2) (.cons (r1.mono g2.sh) r2) (congrArg Nat.succ l2)
  | [], _ :: _, _, _, _, _, _, ok, _, _, _, _, _ => by cases ok
  | _ :: _, [], _, _, _, _, _, ok, _, _, _, _, _ => by cases ok
theorem args0 (ih : IHt Φ S k n) (x : XO Φ S k M X) (gx : XG X π γ) {W : WX} (tk : Takes X W) {σ : L2.St} {Q0 : VK} {as : List IE} {xs : List Expr} {kf : List D → Option RR} {r : RR} {Hs H : Hp} {R : List V → Hp → Prop} (ok : all2 (okE S n M) as xs = true) (h : evL Φ γ as kf = some r)
    (s : Same Hs H) (E : SE X.K Hs σ (γ.map (S2.sl π))) (K : ∀ C fs, r = .exc C fs → KR X.K r Q0 (fun C dd H' => W (.ref C) (some dd) σ H') Hs H)
    (kk : ∀ ds vs Hs1 H1, kf ds = some r → Gr Hs H Hs1 H1 → Reps X.K Hs1 vs ds → ds.length = xs.length → R vs H1) : wA0 X xs σ H R := by
  cases xs with
  | nil =>
    cases as with
    | nil => exact kk [] [] Hs H h (Gr.refl s) .nil rfl
    | cons a as => cases ok
  | cons y ys => exact argsN ih x gx tk ok h s E K kk
theorem argsK (ih : IHt Φ S k n) (x : XO Φ S k M X) (gx : XG X π γ) {W : WX} (tk : Takes X W) {σ : L2.St} {Q0 : VK} : ∀ {as : List IE} {xs : List Keyword} {kf : List D → Option RR} {r : RR} {Hs H : Hp} {R : List V → Hp → Prop}, all2 (fun a (k : Keyword) => okE S n M a k.value) as xs = true → evL Φ γ as kf = some r →
    Same Hs H → SE X.K Hs σ (γ.map (S2.sl π)) → (∀ C fs, r = .exc C fs → KR X.K r Q0 (fun C dd H' => W (.ref C) (some dd) σ H') Hs H) →
    (∀ ds vs Hs1 H1, kf ds = some r → Gr Hs H Hs1 H1 → Reps X.K Hs1 vs ds → ds.length = xs.length → R vs H1) → wK X xs σ H R
  | [], [], kf, r, Hs, H, R, _, h, s, E, K, kk => wK_of pk_nil (kk [] [] Hs H h (Gr.refl s) .nil rfl)
  | a :: as, ⟨nm, y, kp⟩ :: ys, kf, r, Hs, H, R, ok, h, s, E, K, kk => by
    obtain ⟨o1, o2⟩ := ba ok
    have h' : RR.and (ev Φ γ false a) (fun d => evL Φ γ as fun ds => kf (d :: ds)) = some r := by rw [evL] at h; exact h
    obtain ⟨ra, e1, e2⟩ := and_some h'
    refine wK_of (pk_cons (wE_ok y) (wK_ok ys)) ?_
    refine andR (((ih M X x γ π gx a y o1).1) ra e1) e2 tk s E K fun d v Hs1 H1 hd g1 r1 => ?_
    refine argsK ih x gx tk o2 hd g1.sub (E.mono g1.sh) (fun C fs e => (K C fs e).go g1) fun ds vs Hs2 H2 hk g2 r2 l2 => ?_
    exact kk (d :: ds) (v :: vs) Hs2 H2 hk (g1.trans g2) (.cons (r1.mono g2.sh) r2) (congrArg Nat.succ l2)
  | [], _ :: _, _, _, _, _, _, ok, _, _, _, _, _ => by cases ok
  | _ :: _, [], _, _, _, _, _, ok, _, _, _, _, _ => by cases ok
theorem argsK0 (ih : IHt Φ S k n) (x : XO Φ S k M X) (gx : XG X π γ) {W : WX} (tk : Takes X W) {σ : L2.St} {Q0 : VK} {as : List IE} {xs : List Keyword} {kf : List D → Option RR} {r : RR} {Hs H : Hp} {R : List V → Hp → Prop} (ok : all2 (fun a (k : Keyword) => okE S n M a k.value) as xs = true) (h : evL Φ γ as kf = some r)
    (s : Same Hs H) (E : SE X.K Hs σ (γ.map (S2.sl π))) (K : ∀ C fs, r = .exc C fs → KR X.K r Q0 (fun C dd H' => W (.ref C) (some dd) σ H') Hs H)
    (kk : ∀ ds vs Hs1 H1, kf ds = some r → Gr Hs H Hs1 H1 → Reps X.K Hs1 vs ds → ds.length = xs.length → R vs H1) : wK0 X xs σ H R := by
  cases xs with
  | nil =>
    cases as with
    | nil => exact kk [] [] Hs H h (Gr.refl s) .nil rfl
    | cons a as => cases ok
  | cons y ys => exact argsK ih x gx tk ok h s E K kk
theorem kw_names {pos : Pos} {env : Env} : ∀ kws : List Keyword, (backToKw pos (keywordEach kws env)).map (·.1) = kws.map (·.arg)
  | [] => rfl
  | ⟨nm, y, kp⟩ :: ks => by
    show nm :: (backToKw pos (keywordEach ks env)).map (·.1) = nm :: ks.map (·.arg)
    rw [kw_names ks]
theorem names_of : ∀ {l : List (Option Str × Sem Value)} {ks : List Str}, l.map (·.1) = ks.map some → l.all (·.1.isSome) = true ∧ l.any (·.1.isNone) = false ∧ l.filterMap (·.1) = ks
  | [], [], _ => ⟨rfl, rfl, rfl⟩
  | [], _ :: _, h => by cases h
  | _ :: _, [], h => by cases h
  | (o, t) :: l, k :: ks, h => by
    have h1 : o = some k := (List.cons.inj h).1
    subst h1
    obtain ⟨e1, e2, e3⟩ := names_of (List.cons.inj h).2
    refine ⟨?_, ?_, ?_⟩
    · rw [List.all_cons, e1] <;> rfl
    · rw [List.any_cons, e2] <;> rfl
    · rw [List.filterMap_cons]; exact congrArg _ e3
theorem plan_ok {p0 : Nat} {f : Option Nat} {xs : List Expr} {kws : List Keyword} (h : okPl S p0 f xs kws = true) : ∃ f' ks, S.plan p0 = some (f', xs.length, ks) ∧ (∀ g, f = some g → f' = g) ∧ kws.map (·.arg) = ks.map some := by
  unfold okPl at h
  split at h
  next f' m ks q =>
    obtain ⟨h1, h2⟩ := ba h
    obtain ⟨h2, h3⟩ := ba h2
    have e := of_decide_eq_true h2
    subst e
    refine ⟨f', ks, q, fun g e => ?_, of_decide_eq_true h3⟩
    subst e
    exact of_decide_eq_true h1
  next => cases h
theorem s_fnk (ih : IHt Φ S k n) (x : XO Φ S k M X) (gx : XG X π γ) (hcm : M.calm = true) {f p0 : Nat} {nm : Str} {as kvs : List IE} {xs : List Expr} {kws : List Keyword} {p2 : Pos} (hf : S.fname f = some nm) (hg : (glB M nm && plainN nm) = true) (hp : okPl S p0 (some f) xs kws = true)
    (hk : okKw (okE S n M) xs as kvs kws = true) (h : ev Φ γ false (.fnk f p0 as kvs) = some r) : PG X (γ.map (S2.sl π)) (.Call (.Name nm p2) xs kws p) r := fun W tk σ Hs H Q s E K => by
  have h' : evL Φ γ as (fun ds => evL Φ γ kvs fun es => Φ.call f ((Φ.arr p0).map (paD ds es))) = some r := h
  obtain ⟨fa, fd, ps, F, m, kp, _, bd⟩ := x.g.fn f nm hf
  obtain ⟨f', ks, e1, e2, e3⟩ := plan_ok hp
  obtain rfl := e2 f rfl
  have B := bd p0 _ ks e1
  obtain ⟨q1, q2, _⟩ := glB_ok x hg
  obtain ⟨k0, k1⟩ := ba hk
  obtain ⟨k1, k2⟩ := ba k1
  have ns : ∀ y ∈ xs, isStar y = false := fun y hy => by
    obtain ⟨i, hi⟩ := all2_mem k1 y hy
    exact ok_nostar hi
  obtain ⟨n1, n2, n3⟩ := names_of (l := backToKw p (keywordEach kws X.env)) ((kw_names kws).trans e3)
  have hl : ks.length = kws.length := by
    have z := congrArg List.length e3
    simpa using z.symm
  refine fun pins t I => wpAny_Call_Name_kw (ld_glob I q1 m ?_ q2)
  refine cw_any (R := fun vs zs H2 => vs.length = xs.length ∧ zs.length = ks.length ∧ spC X.K (Φ.call f') ((Φ.arr p0).map (paV vs zs)) H2 Q (WE W σ)) I kp ns n1 n2 ?_ fun us ws vs zs s' H2 I2 r1 r2 ⟨l1, l2, q⟩ => ?_
  · refine args0 ih x gx tk k1 h' s E (fun _ _ _ => K) fun ds vs Hs1 H1 hd g1 r1 l1 => ?_
    refine argsK0 ih x gx tk k2 hd g1.sub (E.mono g1.sh) (fun _ _ _ => K.go g1) fun es zs Hs2 H2 hd2 g2 r2 l2 => ?_
    have r1' := r1.mono g2.sh
    refine ⟨r1'.length.trans l1, r2.length.trans (l2.trans hl.symm), Hs2, _, r, g2.sub, Reps.arr r1' r2 fun q hq => ?_, hd2, (K.go g1).go g2⟩
    have z := B.ok q hq
    rw [← (r1'.length.trans l1), ← (r2.length.trans (l2.trans hl.symm))] at z
    exact z
  · rw [n3]
    exact run_any tk F (x.hr hcm) B I2 r1 r2 l1 l2 q
theorem sh_arr {vs zs : List V} {u : V} (pl : List PA) : (pl.map PA.sh).map (paV (u :: vs) zs) = pl.map (paV vs zs) := by
  rw [List.map_map]
  apply List.map_congr_left
  intro q _
  cases q with
  | pos j => rfl
  | kw j => rfl
  | dfl d => cases d <;> rfl
/-- the object made becomes data -/
theorem made_gr {K : PySem.W.Frag} {Hs' H' Hs2 H2 : Hp} {p dx' C : Addr} {us : List (Str × V)} {fs : List (Str × D)} (np : H' p = none) (g2 : Gr Hs' H' Hs2 H2) (h1 : Hs2 p = none) (h2 : H2 p = some (.ins C dx' us)) (r2 : RepF K Hs2 us fs) :
    Gr Hs' H' (upd Hs2 p (.ins C dx' us)) H2 ∧ Rep K (upd Hs2 p (.ins C dx' us)) (.ref p) (.obj C fs) := by
  have s1 : Same Hs2 (upd Hs2 p (.ins C dx' us)) := fun x u e => by rw [upd_ne (ne_of_none e h1)]; exact e
  refine ⟨⟨g2.sh.trans s1, g2.ext, fun x u e => ?_, fun x q1 q2 => ?_⟩, .obj upd_same (r2.mono s1)⟩
  · by_cases q : x = p
    · subst q; rw [upd_same] at e; rw [← e]; exact h2
    · rw [upd_ne q] at e; exact g2.sub x u e
  · have : x ≠ p := fun q => q1 (by rw [q]; exact np)
    rw [upd_ne this]
    exact g2.loc x q1 q2
theorem s_mk (ih : IHt Φ S k n) (x : XO Φ S k M X) (gx : XG X π γ) (hcm : M.calm = true) {f p0 : Nat} {nm : Str} {as kvs : List IE} {xs : List Expr} {kws : List Keyword} {p2 : Pos} (hf : S.kname f = some nm) (hg : (glB M nm && plainN nm) = true) (hp : okPl S p0 (some f) xs kws = true)
    (hk : okKw (okE S n M) xs as kvs kws = true) (h : ev Φ γ false (.mk f p0 as kvs) = some r) : PG X (γ.map (S2.sl π)) (.Call (.Name nm p2) xs kws p) r := fun W tk σ Hs H Q s E K => by
  have h' : evL Φ γ as (fun ds => evL Φ γ kvs fun es => Φ.call f ((Φ.arr p0).map (paD ds es))) = some r := h
  obtain ⟨C, fa, fd, ps, j, F, hj, m, mk, msh, bd⟩ := x.g.mkr f nm hf
  obtain ⟨f', ks, e1, e2, e3⟩ := plan_ok hp
  obtain rfl := e2 f rfl
  have B := bd p0 _ ks e1
  obtain ⟨q1, q2, _⟩ := glB_ok x hg
  obtain ⟨k0, k1⟩ := ba hk
  obtain ⟨k1, k2⟩ := ba k1
  have ns : ∀ y ∈ xs, isStar y = false := fun y hy => by
    obtain ⟨i, hi⟩ := all2_mem k1 y hy
    exact ok_nostar hi
  obtain ⟨n1, n2, n3⟩ := names_of (l := backToKw p (keywordEach kws X.env)) ((kw_names kws).trans e3)
  have hl : ks.length = kws.length := by
    have z := congrArg List.length e3
    simpa using z.symm
  refine fun pins t I => wpAny_Call_Name_kw (ld_glob I q1 m ?_ q2)
  refine cw_any (R := fun vs zs H2 => vs.length = xs.length ∧ zs.length = ks.length ∧ ∃ Hs2 ds es, Same Hs2 H2 ∧ Reps X.K Hs2 ((Φ.arr p0).map (paV vs zs)) ((Φ.arr p0).map (paD ds es)) ∧ Φ.call f' ((Φ.arr p0).map (paD ds es)) = some r ∧ KR X.K r Q (fun C dd H' => W (.ref C) (some dd) σ H') Hs2 H2) I mk.kp ns n1 n2 ?_ fun us ws vs zs s' H2 I2 r1 r2 ⟨l1, l2, Hs2, ds, es, sm, rr, hc, kk⟩ => ?_
  · refine args0 ih x gx tk k1 h' s E (fun _ _ _ => K) fun ds vs Hs1 H1 hd g1 r1 l1 => ?_
    refine argsK0 ih x gx tk k2 hd g1.sub (E.mono g1.sh) (fun _ _ _ => K.go g1) fun es zs Hs2 H2 hd2 g2 r2 l2 => ?_
    have r1' := r1.mono g2.sh
    refine ⟨r1'.length.trans l1, r2.length.trans (l2.trans hl.symm), Hs2, ds, es, g2.sub, Reps.arr r1' r2 fun q hq => ?_, hd2, (K.go g1).go g2⟩
    have z := B.ok (PA.sh q) (List.mem_cons_of_mem _ (List.mem_map_of_mem hq))
    rw [(r1'.length.trans l1), (r2.length.trans (l2.trans hl.symm))]
    cases q with
    | pos j => exact Nat.lt_of_succ_lt_succ z
    | kw j => exact z
    | dfl d => exact z
  · rw [n3]
    refine make_any tk mk F ((x.hr hcm).mono hj) B I2 r1 r2 l1 l2 fun pp dx np ndx nex => ?_
    have ea : (PA.pos 0 :: (Φ.arr p0).map PA.sh).map (paV (.ref pp :: vs) zs) = .ref pp :: (Φ.arr p0).map (paV vs zs) := by
      rw [List.map_cons, sh_arr]; rfl
    rw [ea]
    refine ⟨Hs2, H2, pp, dx, _, _, r, rfl, rfl, np, ndx, nex, sm, rr, hc, ?_⟩
    rcases msh _ _ hc with ⟨fs, rfl⟩ | ⟨CE, fs, rfl⟩
    · refine ⟨rfl, fun Hs3 H3 dx' us' g3 h1 h2 r3 => ⟨rfl, ?_⟩⟩
      obtain ⟨g4, r4⟩ := made_gr np g3 h1 h2 r3
      exact kk _ _ _ g4 r4
    · exact fun dd us' Hs3 H3 g3 h1 r3 => kk dd us' Hs3 H3 g3 h1 r3
theorem s_con (x : XO Φ S k M X) {c : Nat} {f : Str} {nm : Str} {p2 : Pos} (hf : S.cname c = some nm) (hg : (glB M nm && plainN nm) = true) (h : ev Φ γ false (.con c f) = some r) : PG X (γ.map (S2.sl π)) (.Attribute (.Name nm p2) f p) r := by
  have h' : (Φ.ccon c f).map RR.val = some r := h
  cases q : Φ.ccon c f with
  | none => rw [q] at h'; cases h'
  | some d =>
    rw [q] at h'
    cases h'
    obtain ⟨mc, v, u, c1, c2, c3⟩ := x.g.co c nm f d hf q
    obtain ⟨q1, q2, _⟩ := glB_ok x hg
    exact PG.of_pd (pd_cval c1 c2 (pd_glob (v := .ref (Φ.ga c)) q1 (x.g.kl c nm hf) rfl (fun _ => .adr _) q2) c3)
theorem s_gcd (ih : IHt Φ S k n) (x : XO Φ S k M X) (gx : XG X π γ) {as : List IE} {e : Expr} {es : List Expr} {p2 : Pos} (hS : S.gcd = true) (hg : glB M "gcd" = true) (h1 : all2 (okE S n M) as (e :: es) = true) (h : ev Φ γ false (.gcd as) = some r) :
    PG X (γ.map (S2.sl π)) (.Call (.Name "gcd" p2) (e :: es) [] p) r := fun W tk σ Hs H Q s E K => by
  have h' : evL Φ γ as gcdD = some r := h
  obtain ⟨q1, q2, _⟩ := glB_ok x (nm := "gcd") (by rw [hg]; rfl)
  have ns : ∀ y ∈ (e :: es), isStar y = false := fun y hy => by
    obtain ⟨i, hi⟩ := all2_mem h1 y hy
    exact ok_nostar hi
  have n1 := star_cons (env := X.env) (es := es) (ns e (List.mem_cons_self ..))
  have n2 := star_any (pos := p) (env := X.env) fun y (hy : y ∈ es) => ns y (List.mem_cons_of_mem _ hy)
  refine wE_of (pe_callBfun cr_gcd q1 (x.g.gc hS) (wA_ok _) q2 n1 n2) (argsR ih x gx tk h1 h' s E (fun _ _ _ => K) fun ds vs Hs1 H1 hk g1 r1 => ?_)
  unfold gcdD at hk
  split at hk
  · next a b =>
    cases hk
    cases r1 with
    | cons a1 r1 => cases r1 with
      | cons a2 r1 =>
        cases a1; cases a2; cases r1
        exact ⟨a, b, rfl, (K.go g1).val g1.sub (.int _)⟩
  · cases hk
end
end Ev
end

section
set_option Elab.async false
set_option linter.all false
set_option maxRecDepth 100000
set_option maxHeartbeats 4000000
set_option autoImplicit false
namespace Ev
open PySem PySem.Spec PyProof.Rows L2 Pd
section
variable {Φ : Phi} {S : Sta} {k n : Nat} {M : Md} {X : Cx} {γ : List S2} {π : Pt} {p : Pos} {r : RR}
def cntS (q : Str) (v : Value) : Bool := match v with
  | .str b _ => b == q
  | _ => false
theorem strs_ok : ∀ {ds : List D} {ns : List Str}, strs? ds = some ns → ds = ns.map .str
  | [], ns, h => by cases h; rfl
  | d :: r, ns, h => by
    unfold strs? at h
    cases d with
    | str i =>
      dsimp only at h
      cases q : strs? r with
      | none => rw [q] at h; cases h
      | some l => rw [q] at h; cases h; rw [strs_ok q]; rfl
    | _ => cases h
def rCntS (K : PySem.W.Frag) : V → List V → Hp → VK → Prop := fun x xs H Q => ∃ (p : Addr) (bs : List Str) (k : Str), x = .ref p ∧ xs = [.str k] ∧ SqL K H p (bs.map V.str) ∧ Q (.int (bs.count k : Nat)) H
theorem cntS_of {k : Str} : ∀ {bs : List Str} {us : List Value}, Vals (bs.map V.str) us → us.countP (cntS k) = bs.count k
  | [], _, .nil => rfl
  | b :: bs, _, .cons r t => by
    obtain ⟨u, rfl⟩ := r
    rw [List.countP_cons, List.count_cons, cntS_of t] <;> rfl
theorem mem_str {bs : List Str} {us : List Value} (h : Vals (bs.map V.str) us) : ∀ u ∈ us, ∃ x t, u = .str x t := by
  intro u hu
  obtain ⟨j, hj, rfl⟩ := List.mem_iff_getElem.mp hu
  have hl := h.length
  rw [List.length_map] at hl
  obtain ⟨v, h1, h2⟩ := h.get (i := j) (x := .str (bs[j]'(by omega))) (by simp)
  rw [List.getElem?_eq_getElem hj] at h1
  cases h1
  obtain ⟨t, e⟩ := h2
  exact ⟨_, t, e⟩
theorem mt_cntS : MtR X "list.count" (rCntS X.K) := by
  intro pins s σ H x xs v us Q I rx rxs h
  obtain ⟨p, bs, k, rfl, rfl, hs, q⟩ := h
  cases rx
  obtain ⟨u, rfl, ru⟩ := rxs.one
  obtain ⟨t, rfl⟩ := (show ∃ t, u = Value.str k t from ru)
  obtain ⟨its, rv, ⟨⟨cls, dd, data, sl⟩, n, ho, hc, hdn, hd⟩, hlen⟩ := I.list hs
  simp only at hc hd
  subst hc hd
  refine call_meets PySem.F.slot_list_count ⟨_, ho, rfl⟩ PySem.F.entry_list_count (PySem.F.args_list_count_2 _ _) (SeqAt.list_countAt p _ n dd sl (.str k t) (cntS k)) ⟨ho, fun y hy => ?_, ?_⟩
  · obtain ⟨b, t2, rfl⟩ := mem_str rv y (by simpa using hy)
    exact SeqAt.EqAt.str_str b t2 k t
  · refine ⟨.int (bs.count k : Nat), H, I.tok _, ⟨s.toks, ?_⟩, q⟩
    have e := cntS_of (k := k) rv
    show Value.int ((its.toArray.toList.countP (cntS k) : Nat) : Int) s.toks = Value.int ((bs.count k : Nat) : Int) s.toks
    rw [List.toList_toArray, e]
theorem ty_lidx : typeOf (.builtin "list.index") = pure (.type "method_descriptor") := by show builtinType _ = _; rw [builtinType_eq_fast]; kernel_rfl
theorem repsS {K : PySem.W.Frag} {H : Hp} {vs : List V} {xs : List Str} (r : Reps K H vs (xs.map D.str)) : vs = xs.map V.str := reps_str r
theorem idx_of {α : Type} [BEq α] [LawfulBEq α] {xs : List α} {y : α} {f : α → V} (hf : ∀ a b, eqV (f a) (f b) = (a == b)) (h : xs.idxOf y < xs.length) : ∃ z, (xs.map f)[xs.idxOf y]? = some z ∧ eqV z (f y) = true ∧ ∀ (m : Nat) (z' : V), m < xs.idxOf y → (xs.map f)[m]? = some z' → eqV z' (f y) = false := by
  refine ⟨f xs[xs.idxOf y], by simp [h], ?_, fun m z' hm hz => ?_⟩
  · rw [hf, List.getElem_idxOf h]; exact beq_self_eq_true _
  · have hm' : m < xs.length := Nat.lt_trans hm h
    rw [List.getElem?_map, List.getElem?_eq_getElem hm'] at hz
    cases hz
    rw [hf]
    exact List.not_of_lt_findIdx hm
theorem flat_map {α : Type} {f : α → V} (h : ∀ a, flatV (f a) = true) (xs : List α) : (xs.map f).all flatV = true := by
  induction xs with
  | nil => rfl
  | cons x r ih => rw [List.map_cons, List.all_cons, h, ih] <;> rfl
theorem s_bm (ih : IHt Φ S k n) (x : XO Φ S k M X) (gx : XG X π γ) {b : BM} {o a : IE} {eo ea : Expr} {nm : Str} {ap : Pos} (hbb : b = .count ∨ b = .index) (hb : bmN b = nm) (hc : isCall0 eo = false) (hs : isStar ea = false) (hl : (ap.endLine == p.line) = true) (h1 : okE S n M o eo = true) (h2 : okE S n M a ea = true) (h : ev Φ γ false (.bm b o [a]) = some r) :
    PG X (γ.map (S2.sl π)) (.Call (.Attribute eo nm ap) [ea] [] p) r := fun W tk σ Hs H Q s E K => by
  have h' : RR.and (ev Φ γ false o) (fun y => if bmT b y then evL Φ γ [a] fun ds => bmD b y ds else none) = some r := h
  obtain ⟨ra, e1, e2⟩ := and_some h'
  have na := star_cons (env := X.env) (es := []) hs
  have few : ((backTo p (starEach [ea] X.env)).all (fun x => !x.1) && (backToKw p (keywordEach [] X.env)).all (fun x => x.1.isSome) && decide (([ea] : List Expr).length + ([] : List Keyword).length + (if ([] : List Keyword).isEmpty then 0 else 1) < 30)) = true := by
    rw [na]; rfl
  have args : ∀ {y : D} {R : List V → Hp → Prop} {Hs1 H1 : Hp}, evL Φ γ [a] (fun ds => bmD b y ds) = some r → Gr Hs H Hs1 H1 → (∀ d v Hs2 H2, bmD b y [d] = some r → Gr Hs1 H1 Hs2 H2 → Rep X.K Hs2 v d → R [v] H2) → wA X [ea] σ H1 R := fun {y R Hs1 H1} e g k => by
    refine argsR ih x gx tk (Q0 := Q) (as := [a]) (by show (okE S n M a ea && true) = true; rw [h2]; rfl) e g.sub (E.mono g.sh) (fun _ _ _ => K.go g) fun ds vs Hs2 H2 hd g2 r2 => ?_
    cases r2 with
    | nil => unfold bmD at hd; split at hd <;> first | (rename_i q; cases q; done) | cases hd
    | cons r2 rr => cases rr with
      | nil => exact k _ _ _ _ hd g2 r2
      | cons _ _ => unfold bmD at hd; split at hd <;> first | (rename_i q; cases q; done) | cases hd
  have PO := (ih M X x γ π gx o eo h1).1 ra e1
  have lst : ∀ y, bmT b y = true → ∃ ds, y = .lst ds := fun y q => by
    rcases hbb with rfl | rfl <;> cases y <;> first | exact ⟨_, rfl⟩ | cases q
  have fin : ∀ {id : String} {rr : V → List V → Hp → VK → Prop}, MtR X id rr → Slot "list" nm id → typeOf (.builtin id) = pure (.type "method_descriptor") → (∀ ds d Hs2 H2 l vs v, bmD b (.lst ds) [d] = some r → Same Hs2 H2 → H2 l = some (.lst vs) → Reps X.K Hs2 vs ds → Rep X.K Hs2 v d → KR X.K r Q (fun C dd H' => W (.ref C) (some dd) σ H') Hs2 H2 → rr (.ref l) [v] H2 Q) →
      wE X (.Call (.Attribute eo nm ap) [ea] [] p) σ H Q := fun {id rr} hm slot ty k => by
    refine wE_of (pe_bm (r := rr) PySem.F.plainAttrs_list slot ty hm (wE_ok eo) (wA_ok [ea]) (attr_base hc) few hl na rfl) ?_
    refine andR PO e2 tk s E (fun _ _ _ => K) fun y v Hs1 H1 hd g1 r1 => ?_
    split at hd
    next hT =>
      obtain ⟨ds, rfl⟩ := lst y hT
      cases r1 with
      | lst hl1 rl =>
        refine ⟨.inl ⟨rfl, _, .inl (.inl (g1.sub _ _ hl1))⟩, args hd g1 fun d v2 Hs2 H2 hd2 g2 r2 => ?_⟩
        exact k ds d Hs2 H2 _ _ v2 hd2 g2.sub (g2.sub _ _ (g2.sh _ _ hl1)) (rl.mono g2.sh) r2 ((K.go g1).go g2)
    next => cases hd
  subst hb
  cases b with
  | count =>
    refine fin mt_cntS PySem.F.slot_list_count ty_lcnt fun ds d Hs2 H2 l vs v hd sm hl2 rl rv kk => ?_
    unfold bmD at hd
    split at hd <;> first | contradiction | skip
    next _ ds' xk _ _ e1 e2 =>
      cases e1; cases e2
      cases q : strs? ds with
      | none => rw [q] at hd; cases hd
      | some xs =>
        rw [q] at hd
        cases hd
        rw [strs_ok q] at rl
        have e := repsS rl
        subst e
        cases rv
        exact ⟨l, xs, _, rfl, rfl, .inl (.inl hl2), kk.val sm (.int _)⟩
  | index =>
    refine fin mt_index PySem.F.slot_list_index ty_lidx fun ds d Hs2 H2 l vs v hd sm hl2 rl rv kk => ?_
    unfold bmD at hd
    split at hd <;> first | contradiction | skip
    next _ ds' xk _ _ e1 e2 =>
      cases e1; cases e2
      rename_i xk _
      cases q : strs? ds with
      | none => rw [q] at hd; cases hd
      | some xs =>
        rw [q] at hd
        have hd' : (if xs.idxOf xk < xs.length then iv (xs.idxOf xk : Nat) else none) = some r := hd
        split at hd'
        next hz =>
          cases hd'
          rw [strs_ok q] at rl
          have e := repsS rl
          subst e
          cases rv
          obtain ⟨z, z1, z2, z3⟩ := idx_of (f := V.str) (fun a b => rfl) hz
          exact ⟨l, _, _, _, z, rfl, rfl, .inl (.inl hl2), rfl, flat_map (fun _ => rfl) xs, z1, z2, z3, kk.val sm (.int _)⟩
        next => cases hd'
    next _ ds' xk _ _ e1 e2 =>
      cases e1; cases e2
      rename_i xk _
      cases q : ints? ds with
      | none => rw [q] at hd; cases hd
      | some xs =>
        rw [q] at hd
        have hd' : (if xs.idxOf xk < xs.length then iv (xs.idxOf xk : Nat) else none) = some r := hd
        split at hd'
        next hz =>
          cases hd'
          rw [ints_ok q] at rl
          have e := repsI rl
          subst e
          cases rv
          obtain ⟨z, z1, z2, z3⟩ := idx_of (f := V.int) (fun a b => rfl) hz
          exact ⟨l, _, _, _, z, rfl, rfl, .inl (.inl hl2), rfl, flat_map (fun _ => rfl) xs, z1, z2, z3, kk.val sm (.int _)⟩
        next => cases hd'
  | _ => rcases hbb with z | z <;> cases z
/-- of texts: join, find -/
theorem s_bmS (ih : IHt Φ S k n) (x : XO Φ S k M X) (gx : XG X π γ) {b : BM} {o a : IE} {eo ea : Expr} {nm : Str} {ap : Pos} (hbb : b = .join ∨ b = .find) (hb : bmN b = nm) (hc : isCall0 eo = false) (hs : isStar ea = false) (hl : (ap.endLine == p.line) = true) (h1 : okE S n M o eo = true) (h2 : okE S n M a ea = true) (h : ev Φ γ false (.bm b o [a]) = some r) :
    PG X (γ.map (S2.sl π)) (.Call (.Attribute eo nm ap) [ea] [] p) r := fun W tk σ Hs H Q s E K => by
  have h' : RR.and (ev Φ γ false o) (fun y => if bmT b y then evL Φ γ [a] fun ds => bmD b y ds else none) = some r := h
  obtain ⟨ra, e1, e2⟩ := and_some h'
  have na : starEach [ea] X.env = [(false, eval ea X.env)] := star_cons hs
  have PO := (ih M X x γ π gx o eo h1).1 ra e1
  have one : ∀ {y : D} {R : VK} {Hs1 H1 : Hp}, evL Φ γ [a] (fun ds => bmD b y ds) = some r → Gr Hs H Hs1 H1 → (∀ d v Hs2 H2, bmD b y [d] = some r → Gr Hs1 H1 Hs2 H2 → Rep X.K Hs2 v d → R v H2) → wE X ea σ H1 R := fun {y R Hs1 H1} e g k => by
    have e' : RR.and (ev Φ γ false a) (fun d => bmD b y [d]) = some r := e
    obtain ⟨rb, e3, e4⟩ := and_some e'
    exact andR ((ih M X x γ π gx a ea h2).1 rb e3) e4 tk g.sub (E.mono g.sh) (fun _ _ _ => K.go g) fun d v Hs2 H2 hd g2 r2 => k d v Hs2 H2 hd g2 r2
  subst hb
  rcases hbb with rfl | rfl
  · refine wE_of (pe_join (wE_ok eo) (wE_ok ea) na (attr_base hc) hl) ?_
    refine andR PO e2 tk s E (fun _ _ _ => K) fun y v Hs1 H1 hd g1 r1 => ?_
    split at hd
    next hT =>
      cases y with
      | str u =>
        cases r1
        refine ⟨⟨u, rfl⟩, one hd g1 fun d v2 Hs2 H2 hd2 g2 r2 => ?_⟩
        cases d with
        | lst ds =>
          have hd2 : ((Ev.strs? ds).bind fun xs => if (xs.map (·.length)).sum + xs.length * u.length ≤ 16777216 then some (RR.val (.str (Txt.join u xs))) else none) = some r := hd2
          cases q : Ev.strs? ds with
          | none => rw [q] at hd2; cases hd2
          | some xs =>
            rw [q, Option.bind_some] at hd2
            split at hd2
            next hz =>
              cases hd2
              rw [strs_ok q] at r2
              cases r2 with
              | lst h3 r3 =>
                have e := repsS r3
                subst e
                exact ⟨u, _, xs, rfl, rfl, .inl (.inl (.inl (g2.sub _ _ h3))), hz, ((K.go g1).go g2).val g2.sub (.str _)⟩
            next => cases hd2
        | _ => cases hd2
      | _ => cases hT
    next => cases hd
  · refine wE_of (pe_m1 F.slot_str_find F.type_str_find mt_find (wE_ok eo) (wE_ok ea) na (attr_base hc) hl) ?_
    refine andR PO e2 tk s E (fun _ _ _ => K) fun y v Hs1 H1 hd g1 r1 => ?_
    split at hd
    next hT =>
      cases y with
      | str u =>
        cases r1
        refine ⟨⟨u, rfl⟩, one hd g1 fun d v2 Hs2 H2 hd2 g2 r2 => ?_⟩
        cases d with
        | str w =>
          have hd2 : some (RR.val (.int (Txt.find u w))) = some r := hd2
          cases hd2
          cases r2
          exact ⟨u, w, rfl, rfl, ((K.go g1).go g2).val g2.sub (.int _)⟩
        | _ => cases hd2
      | _ => cases hT
    next => cases hd
theorem two_of {f : IE → Expr → Bool} : ∀ {as : List IE} {xs : List Expr}, (xs.length == 1 || xs.length == 2) = true → all2 f as xs = true → (∃ a y, as = [a] ∧ xs = [y] ∧ f a y = true) ∨ ∃ a b y z, as = [a, b] ∧ xs = [y, z] ∧ f a y = true ∧ f b z = true
  | [], [], hn, _ => by cases hn
  | _ :: _, [], hn, _ => by cases hn
  | [], _ :: _, _, h => by cases h
  | [a], [y], _, h => .inl ⟨a, y, rfl, rfl, (ba h).1⟩
  | [_], _ :: _ :: _, _, h => by have := (ba h).2; cases this
  | _ :: _ :: _, [_], _, h => by have := (ba h).2; cases this
  | [a, b], [y, z], _, h => .inr ⟨a, b, y, z, rfl, rfl, (ba h).1, (ba (ba h).2).1⟩
  | [_, _], _ :: _ :: _ :: _, hn, _ => by simp at hn
  | _ :: _ :: _ :: _, [_, _], _, h => by have := (ba (ba h).2).2; cases this
  | _ :: _ :: _ :: _, _ :: _ :: _ :: _, hn, _ => by simp at hn
/-- list(range(..)) -/
theorem s_lrg (ih : IHt Φ S k n) (x : XO Φ S k M X) (gx : XG X π γ) (hcm : M.calm = true) {as : List IE} {xs : List Expr} {p1 p2 p3 : Pos} (hg : free S M "list" = true) (hz : free S M "range" = true) (hn : (xs.length == 1 || xs.length == 2) = true) (h1 : all2 (okE S n M) as xs = true) (h : ev Φ γ false (.lrg as) = some r) :
    PG X (γ.map (S2.sl π)) (.Call (.Name "list" p1) [.Call (.Name "range" p2) xs [] p3] [] p) r := fun W tk σ Hs H Q s E K => by
  have h' : evL Φ γ as lrgD = some r := h
  obtain ⟨q1, q2, q3, q4⟩ := free_ok x hg
  obtain ⟨w1, w2, w3, w4⟩ := free_ok x hz
  have end_ : ∀ {i j : Int} {Hs1 H1 : Hp}, RgOk i j → Gr Hs H Hs1 H1 → r = .new (rngD i (j - i).toNat) → RgOk i j ∧ ∀ q, H1 q = none → Q (.ref q) (upd H1 q (.lst (rgV i j))) := fun {i j Hs1 H1} ok g e => by
    subst e
    exact ⟨ok, newL g.sub (reps_rg i j) (K.go g)⟩
  rcases two_of hn h1 with ⟨a, ya, rfl, rfl, o1⟩ | ⟨a, b, ya, yb, rfl, rfl, o1, o2⟩
  · clear hn h1
    have h1 := o1
    have na := star_cons (env := X.env) (es := []) (ok_nostar h1)
    refine wE_of (pe_listRg (x.calm hcm) q1 q2 (prg_1 w1 w2 (wE_ok ya) na) rfl) ?_
    have h2 : RR.and (ev Φ γ false a) (fun d => lrgD [d]) = some r := h'
    obtain ⟨ra, e1, e2⟩ := and_some h2
    refine andR ((ih M X x γ π gx a ya h1).1 ra e1) e2 tk s E (fun _ _ _ => K) fun d v Hs1 H1 hd g1 r1 => ?_
    unfold lrgD at hd
    split at hd
    next i e =>
      cases e
      split at hd
      next hb =>
        cases r1
        cases hd
        obtain ⟨b1, b2⟩ := hb
        unfold okRg at b1
        exact ⟨i, rfl, end_ ⟨by omega, by omega, by omega, by omega, by omega⟩ g1 (by rw [Int.sub_zero])⟩
      next => cases hd
    next e => cases e
    next => cases hd
  · clear hn h1
    have h1 := o1
    have h2 := o2
    have na := star_cons (env := X.env) (es := [yb]) (ok_nostar h1)
    have nb' := star_cons (env := X.env) (es := []) (ok_nostar h2)
    refine wE_of (pe_listRg (x.calm hcm) q1 q2 (prg_2 w1 w2 (wE_ok ya) (wE_ok yb) na nb' (by rw [nb']; rfl)) rfl) ?_
    have h3 : RR.and (ev Φ γ false a) (fun d => RR.and (ev Φ γ false b) fun d2 => lrgD [d, d2]) = some r := h'
    obtain ⟨ra, e1, e2⟩ := and_some h3
    refine andR ((ih M X x γ π gx a ya h1).1 ra e1) e2 tk s E (fun _ _ _ => K) fun d v Hs1 H1 hd g1 r1 => ?_
    obtain ⟨rb, e3, e4⟩ := and_some hd
    refine andR ((ih M X x γ π gx b yb h2).1 rb e3) e4 tk g1.sub (E.mono g1.sh) (fun _ _ _ => K.go g1) fun d2 v2 Hs2 H2 hd2 g2 r2 => ?_
    unfold lrgD at hd2
    split at hd2
    next e => cases e
    next i j e =>
      cases e
      split at hd2
      next hb =>
        cases r1
        cases r2
        cases hd2
        obtain ⟨b1, b2, b3⟩ := hb
        unfold okRg at b1 b2
        exact ⟨i, j, rfl, rfl, end_ ⟨by omega, by omega, by omega, by omega, by omega⟩ (g1.trans g2) rfl⟩
      next => cases hd2
    next => cases hd2
end
end Ev
end

section
set_option Elab.async false
set_option linter.all false
set_option maxRecDepth 100000
set_option maxHeartbeats 4000000
set_option autoImplicit false
namespace Ev
open PySem PySem.Spec PyProof.Rows L2 Pd
/-! ### methods, class methods -/
section
variable {X : Cx} {pins : List (Addr × Obj)} {σ : L2.St} {H : Hp} {s : Shared}
theorem cw_anyM {q g : Addr} {self : Value} {es : List Expr} {kws : List Keyword} {pos : Pos} {Q' : Value → Shared → Prop} {R : List V → List V → Hp → Prop} (I : Inv X ((q, PySem.W.methodObj (.ref g) self) :: pins) σ H s) (hf : PySem.W.fnIn X.K g = true) (ns : ∀ y ∈ es, isStar y = false) (hall : (backToKw pos (keywordEach kws X.env)).all (·.1.isSome) = true)
    (hany : (backToKw pos (keywordEach kws X.env)).any (·.1.isNone) = false) (h : wA0 X es σ H fun vs H1 => wK0 X kws σ H1 fun zs H2 => R vs zs H2)
    (k : ∀ us ws vs zs s' H2, Inv X ((q, PySem.W.methodObj (.ref g) self) :: pins) σ H2 s' → Vals vs us → Vals zs ws → R vs zs H2 → wpAny (model X.prog X.w) X.A (call (.ref q) us (((backToKw pos (keywordEach kws X.env)).filterMap (·.1)).zip ws)) Q' X.xe s') :
    wpAny (model X.prog X.w) X.A (callWith pos (.ref q) [] (backTo pos (starEach es X.env)) (backToKw pos (keywordEach kws X.env))) Q' X.xe s := by
  have ap := fun (e : Expr) (es : List Expr) (ns : ∀ y ∈ e :: es, isStar y = false) => star_any (pos := pos) (env := X.env) fun y (hy : y ∈ es) => ns y (List.mem_cons_of_mem _ hy)
  have mp : ∀ {H2 s'}, Inv X ((q, PySem.W.methodObj (.ref g) self) :: pins) σ H2 s' → PySem.W.MethP X.K q g self s'.heap := fun I => ⟨ClX.pin_at I, I.kIn⟩
  cases es with
  | nil =>
    cases kws with
    | nil =>
      have z := k [] [] [] [] s H I .nil .nil h
      exact PySem.W.callWith_M0 (first := []) (mp I) hf z
    | cons kw kws =>
      refine PySem.W.callWith_of (first := []) (P := PySem.W.MethP X.K q g self) ?_ (PySem.W.keeps_M hf) (evalArgs_kw2_nil hall ?_)
      · rw [hany]; rfl
      · refine thn (h pos _ s I) fun ws s2 ⟨zs, H2, I2, rz, q2⟩ => ⟨mp I2, ?_⟩
        exact k [] ws [] zs s2 H2 I2 .nil rz q2
  | cons e es =>
    have he := star_cons (env := X.env) (es := es) (ns e (List.mem_cons_self ..))
    have hp := ap e es ns
    cases kws with
    | nil =>
      refine PySem.W.callWith_of (first := []) (P := PySem.W.MethP X.K q g self) ?_ (PySem.W.keeps_M hf) ?_
      · rw [star_any (es := e :: es) (fun y hy => ns y hy)]; rfl
      · rw [he]
        refine Calls.evalArgs_plain ?_
        show wpAny _ _ (spliced (backTo pos ((false, eval e X.env) :: starEach es X.env))) _ _ _
        rw [← he]
        refine thn (h pos _ s I) fun us s1 ⟨vs, H1, I1, r, q1⟩ => ⟨mp I1, ?_⟩
        exact k us [] vs [] s1 H1 I1 r .nil q1
    | cons kw kws =>
      refine PySem.W.callWith_of (first := []) (P := PySem.W.MethP X.K q g self) ?_ (PySem.W.keeps_M hf) (evalArgs_kw2 hall ?_ he)
      · rw [hany, star_any (es := e :: es) (fun y hy => ns y hy)]; rfl
      · refine thn (h pos _ s I) fun us s1 ⟨vs, H1, I1, r, q1⟩ => ?_
        refine thn (q1 pos _ s1 I1) fun ws s2 ⟨zs, H2, I2, rz, q2⟩ => ⟨mp I2, ?_⟩
        exact k us ws vs zs s2 H2 I2 r rz q2
theorem run_anyM {W : WX} {k m : Nat} {q f : Addr} {C : Addr} {fd : FuncData} {ps ks : List Str} {sp : Sp} {pl : List PA} {Q : VK} {us ws : List Value} {vs zs : List V} (tk : Takes X W) (F : FnOk X.prog X.w X.K X.mg X.base (L2.CX X.prog X.w) k f fd ps sp) (hr : Room k X.A) (B : BD X.K fd ps (m + 1) ks pl)
    (I : Inv X ((q, PySem.W.methodObj (.ref f) (.ref C)) :: pins) σ H s) (r : Vals vs us) (rz : Vals zs ws) (l1 : vs.length = m) (l2 : zs.length = ks.length) (h : sp (pl.map (paV (.ref C :: vs) zs)) H Q (WE W σ)) : wpAny (model X.prog X.w) X.A (call (.ref q) us (ks.zip ws)) (EP X pins σ Q) X.xe s := by
  obtain ⟨g, gV, kb, hg⟩ := B.ex
  have rr : Vals (V.ref C :: vs) (Value.ref C :: us) := .cons rfl r
  have r2 := kb.rel rr rz
  rw [hg (V.ref C :: vs) zs (congrArg Nat.succ l1) l2] at r2
  have e1 : (Value.ref C :: us).length = m + 1 := rr.length.symm.trans (congrArg Nat.succ l1)
  have z : wpAny (model X.prog X.w) X.A (call (.ref q) us (ks.zip ws)) (EP X ((q, PySem.W.methodObj (.ref f) (.ref C)) :: pins) σ Q) X.xe s := by
    refine wpAny_call (PySem.W.method_call (ClX.pin_at I) (codeAny_mono (F.run X.A X.stack s H ⟨.ref C :: us, ks.zip ws⟩ (g (.ref C :: us) ws) _ Q (WE W σ) hr I.env0 (kb.to s (.ref C :: us) ws I.kIn e1 (rz.length.symm.trans l2)) r2 h) fun r s' hq => ?_))
    cases r with
    | error e => exact passAt tk σ _ H s e s' I hq
    | ok fl =>
      cases fl with
      | ret u => exact I.after hq
      | next => exact False.elim hq
      | brk => exact False.elim hq
      | cont => exact False.elim hq
  exact thn z fun _ _ y => ClX.unpinE y
end
section
variable {Φ : Phi} {S : Sta} {k n : Nat} {M : Md} {X : Cx} {γ : List S2} {π : Pt} {p : Pos} {r : RR}
theorem form_ok {xs : List Expr} {kws : List Keyword} {env : Env} (hz : xs.length + kws.length + 1 < 30) (ns : ∀ y ∈ xs, isStar y = false) (n1 : (backToKw p (keywordEach kws env)).all (·.1.isSome) = true) : methodCallForm (xs.length + kws.length) (backTo p (starEach xs env)) (backToKw p (keywordEach kws env)) = true := by
  have a1 : (backTo p (starEach xs env)).all (!·.1) = true := by
    rw [List.all_eq_not_any_not]
    have z := star_any (pos := p) (env := env) ns
    simpa using z
  unfold methodCallForm
  rw [a1, n1]
  simp only [Bool.true_and]
  apply decide_eq_true
  split <;> omega
theorem s_mth (ih : IHt Φ S k n) (x : XO Φ S k M X) (gx : XG X π γ) (hcm : M.calm = true) {o : IE} {m p0 : Nat} {nm : Str} {as kvs : List IE} {eo : Expr} {xs : List Expr} {kws : List Keyword} {ap : Pos} (hm : S.mname m = some nm) (hc : isCall0 eo = false) (hl : (ap.endLine == p.line) = true) (h1 : okE S n M o eo = true) (hp : okPl S p0 none xs kws = true)
    (hk : okKw (okE S n M) xs as kvs kws = true) (h : ev Φ γ false (.mth o m p0 as kvs) = some r) : PG X (γ.map (S2.sl π)) (.Call (.Attribute eo nm ap) xs kws p) r := fun W tk σ Hs H Q s E K => by
  have h' : RR.and (ev Φ γ false o) (fun x => match x with
    | .obj C fs => if Φ.meth C m = some (Φ.pf p0) ∧ (fs.lookup (Φ.mn m)).isNone = true then evL Φ γ as fun ds => evL Φ γ kvs fun es => Φ.call (Φ.pf p0) (.obj C fs :: (Φ.arr p0).map (paD ds es)) else none
    | _ => none) = some r := h
  obtain ⟨ra, e1, e2⟩ := and_some h'
  obtain ⟨f', ks, q1, _, q3⟩ := plan_ok hp
  obtain ⟨k0, k1⟩ := ba hk
  obtain ⟨k1, k2⟩ := ba k1
  have ns : ∀ y ∈ xs, isStar y = false := fun y hy => by
    obtain ⟨i, hi⟩ := all2_mem k1 y hy
    exact ok_nostar hi
  obtain ⟨n1, n2, n3⟩ := names_of (l := backToKw p (keywordEach kws X.env)) ((kw_names kws).trans q3)
  have hlk : ks.length = kws.length := by
    have z := congrArg List.length q3
    simpa using z.symm
  refine fun pins t I => ?_
  refine PySem.W.methodCall_KW (thn ((wE_ok eo).run pins t σ H _ I (andR (Q0 := Q) (R := fun v H1 => ∃ C fs a dx us Hs1, v = V.ref a ∧ H1 a = some (.ins C dx us) ∧ RepF X.K Hs1 us fs ∧ Gr Hs H Hs1 H1 ∧ Rep X.K Hs1 v (.obj C fs) ∧ (if Φ.meth C m = some (Φ.pf p0) ∧ (fs.lookup (Φ.mn m)).isNone = true then evL Φ γ as fun ds => evL Φ γ kvs fun es => Φ.call (Φ.pf p0) (.obj C fs :: (Φ.arr p0).map (paD ds es)) else none) = some r) ((ih M X x γ π gx o eo h1).1 ra e1) e2 tk s E (fun C fs z => K) fun y v Hs1 H1 hd g1 r1 => ?_)) ?_) (ht_of hc (form_ok (of_decide_eq_true k0) ns n1) hl)
  · split at hd
    · cases r1 with
      | obj a1 a2 => exact ⟨_, _, _, _, _, Hs1, rfl, g1.sub _ _ a1, a2, g1, .obj a1 a2, hd⟩
    · cases hd
  · rintro u s1 ⟨v, H1, I1, rv, C, fs, a, dx, us, Hs1, rfl, ha, rf, g1, ro, hE⟩
    obtain rfl : u = Value.ref a := rv
    split at hE
    next hM =>
      obtain ⟨em, cl, f, fd, ps, F, MT, bd⟩ := x.g.me C m nm _ hm hM.1
      have ei : Φ.pf p0 = f' := x.g.pf p0 f' _ ks q1
      rw [ei] at F bd hE
      have B := bd p0 _ ks q1
      have hn : fs.lookup nm = none := by
        rw [← em]
        exact Option.isNone_iff_eq_none.mp hM.2
      refine getmeth_ok I1 ha cl MT (rf.none_of hn) ?_
      refine cw_any (first := [Value.ref a]) (R := fun vs zs H2 => vs.length = xs.length ∧ zs.length = ks.length ∧ spC X.K (Φ.call f') (.ref a :: (Φ.arr p0).map (paV vs zs)) H2 Q (WE W σ)) I1 MT.kp ns n1 n2 ?_ fun us' ws vs zs s' H2 I2 r1 r2 ⟨l1, l2, q⟩ => ?_
      · refine args0 ih x gx tk k1 hE g1.sub (E.mono g1.sh) (fun _ _ _ => K.go g1) fun ds vs Hs2 H2 hd g2 r1 l1 => ?_
        refine argsK0 ih x gx tk k2 hd g2.sub ((E.mono g1.sh).mono g2.sh) (fun _ _ _ => (K.go g1).go g2) fun es zs Hs3 H3 hd2 g3 r2 l2 => ?_
        have r1' := r1.mono g3.sh
        refine ⟨r1'.length.trans l1, r2.length.trans (l2.trans hlk.symm), Hs3, _, r, g3.sub, .cons ((ro.mono g2.sh).mono g3.sh) (Reps.arr r1' r2 fun q hq => ?_), hd2, ((K.go g1).go g2).go g3⟩
        have z := B.ok (PA.sh q) (List.mem_cons_of_mem _ (List.mem_map_of_mem hq))
        rw [(r1'.length.trans l1), (r2.length.trans (l2.trans hlk.symm))]
        cases q with
        | pos j => exact Nat.lt_of_succ_lt_succ z
        | kw j => exact z
        | dfl d => exact z
      · rw [n3]
        have ea : (PA.pos 0 :: (Φ.arr p0).map PA.sh).map (paV (.ref a :: vs) zs) = .ref a :: (Φ.arr p0).map (paV vs zs) := by
          rw [List.map_cons, sh_arr]; rfl
        exact run_any (us := Value.ref a :: us') (vs := V.ref a :: vs) tk F (x.hr hcm) B I2 (.cons rfl r1) r2 (congrArg Nat.succ l1) l2 (by rw [ea]; exact q)
    next => cases hE
end
end Ev
end

section
set_option Elab.async false
set_option linter.all false
set_option maxRecDepth 100000
set_option maxHeartbeats 4000000
set_option autoImplicit false
namespace Ev
open PySem PySem.Spec PyProof.Rows L2 Pd
/-- isinstance(e, c), e the error with a dict that the suite holds -/
def rIsX (K : PySem.W.Frag) (D a dd : Addr) : List V → Hp → VK → Prop := fun xs H Q => ∃ (c : V) (cv : Value) (us : List (Str × V)) (b : Bool), xs = [.ref a, c] ∧ H dd = some (.xd us) ∧ (∀ u, RelV c u → u = cv) ∧ PySem.W.kitOne K (.ref D) cv = some b ∧ Q (.bl b) H
theorem call_isX {X : Cx} {a D dd : Addr} {oe : Obj} {pn : List (Addr × Obj)} (C : ExcC X.K D) (hz : Zc (.ref D) (some dd) oe) (hf : ∃ vs, oe.data = .fields vs) : CallR (X.suite a ((a, oe) :: pn)) (.builtin "isinstance") (rIsX X.K D a dd) := by
  intro pins s σ H xs us Q I r h
  obtain ⟨c, cv, ws, b, rfl, hx, hcv, e, q⟩ := h
  cases r with
  | cons rx rr =>
    cases rr with
    | cons rt rr =>
      cases rr
      cases rx
      have ec := hcv _ rt
      subst ec
      obtain ⟨hget, _⟩ := I.pin (a, oe) (List.mem_append.mpr (.inl List.mem_cons_self))
      obtain ⟨vs, hv⟩ := hf
      have hx' : ObjOk X.prog X.w H s.heap dd (.xd ws) := I.hok dd _ hx
      obtain ⟨mA, hns, hr⟩ := hx'
      obtain ⟨od, ho, hl⟩ := lookIn_ns hns
      have J : PySem.W.InstAt s.heap a oe D (some od) := ⟨hget, hz.1, by unfold PySem.W.notCls; rw [hv] <;> rfl, by rw [hz.2]; exact ho⟩
      exact PySem.W.kia_one (kit_ev C) I.kIn ⟨_, _, J⟩ e (fun z => nomatch z) fun tk => ⟨.bl b, H, I.kept (t' := tk) fun _ _ z => z, rfl, q⟩
section
variable {Φ : Phi} {S : Sta} {k n : Nat} {M : Md} {X : Cx} {γ : List S2} {π : Pt} {p : Pos} {r : RR}
theorem s_cm (ih : IHt Φ S k n) (x : XO Φ S k M X) (gx : XG X π γ) (hcm : M.calm = true) {c m p0 : Nat} {nm y : Str} {as kvs : List IE} {xs : List Expr} {kws : List Keyword} {ap py : Pos} (hm : S.mname m = some nm) (hf : S.cname c = some y) (hg : (glB M y && plainN y) = true) (hl : (ap.endLine == p.line) = true) (hp : okPl S p0 none xs kws = true)
    (hk : okKw (okE S n M) xs as kvs kws = true) (h : ev Φ γ false (.cm c m p0 as kvs) = some r) : PG X (γ.map (S2.sl π)) (.Call (.Attribute (.Name y py) nm ap) xs kws p) r := fun W tk σ Hs H Q s E K => by
  have h' : (if Φ.cmeth c m = some (Φ.pf p0) then evL Φ γ as fun ds => evL Φ γ kvs fun es => Φ.call (Φ.pf p0) (.adr (Φ.ga c) :: (Φ.arr p0).map (paD ds es)) else none) = some r := h
  obtain ⟨f', ks, q1, _, q3⟩ := plan_ok hp
  obtain ⟨k0, k1⟩ := ba hk
  obtain ⟨k1, k2⟩ := ba k1
  have ns : ∀ y ∈ xs, isStar y = false := fun y hy => by
    obtain ⟨i, hi⟩ := all2_mem k1 y hy
    exact ok_nostar hi
  obtain ⟨n1, n2, n3⟩ := names_of (l := backToKw p (keywordEach kws X.env)) ((kw_names kws).trans q3)
  have hlk : ks.length = kws.length := by
    have z := congrArg List.length q3
    simpa using z.symm
  obtain ⟨g1, g2, _⟩ := glB_ok x hg
  have pdn : PD X (γ.map (S2.sl π)) (.Name y py) (.adr (Φ.ga c)) := pd_glob (v := .ref (Φ.ga c)) g1 (x.g.kl c y hf) rfl (fun _ => .adr _) g2
  split at h'
  next hM =>
    obtain ⟨mc, pp, f, fd, ps, F, cr, cmt, bd⟩ := x.g.cme c m y nm _ hf hm hM
    have ei : Φ.pf p0 = f' := x.g.pf p0 f' _ ks q1
    rw [ei] at F bd h'
    have B := bd p0 _ ks q1
    refine fun pins t I => ?_
    refine PySem.W.methodCall_KW (thn ((wE_ok (.Name y py)).run pins t σ H _ I (pdn σ Hs H (fun v H1 => v = .ref (Φ.ga c) ∧ ∃ Hs1, Gr Hs H Hs1 H1) s E fun v Hs1 H1 g r => ?_)) ?_) (ht_of rfl (form_ok (of_decide_eq_true k0) ns n1) hl)
    · cases r
      exact ⟨rfl, Hs1, g⟩
    · rintro u s1 ⟨v, H1, I1, rv, rfl, Hs1, gr1⟩
      obtain rfl : u = Value.ref (Φ.ga c) := rv
      refine ClX.getmethcm_ok I1 cr cmt fun s2 I2 => ?_
      refine cw_anyM (R := fun vs zs H2 => vs.length = xs.length ∧ zs.length = ks.length ∧ spC X.K (Φ.call f') (.ref (Φ.ga c) :: (Φ.arr p0).map (paV vs zs)) H2 Q (WE W σ)) I2 cmt.fi ns n1 n2 ?_ fun us' ws vs zs s' H2 I3 r1 r2 ⟨l1, l2, q⟩ => ?_
      · refine args0 ih x gx tk k1 h' gr1.sub (E.mono gr1.sh) (fun _ _ _ => K.go gr1) fun ds vs Hs2 H2 hd g2 r1 l1 => ?_
        refine argsK0 ih x gx tk k2 hd g2.sub ((E.mono gr1.sh).mono g2.sh) (fun _ _ _ => (K.go gr1).go g2) fun es zs Hs3 H3 hd2 g3 r2 l2 => ?_
        have r1' := r1.mono g3.sh
        refine ⟨r1'.length.trans l1, r2.length.trans (l2.trans hlk.symm), Hs3, _, r, g3.sub, .cons (.adr _) (Reps.arr r1' r2 fun q hq => ?_), hd2, ((K.go gr1).go g2).go g3⟩
        have z := B.ok (PA.sh q) (List.mem_cons_of_mem _ (List.mem_map_of_mem hq))
        rw [(r1'.length.trans l1), (r2.length.trans (l2.trans hlk.symm))]
        cases q with
        | pos j => exact Nat.lt_of_succ_lt_succ z
        | kw j => exact z
        | dfl d => exact z
      · rw [n3]
        have ea : (PA.pos 0 :: (Φ.arr p0).map PA.sh).map (paV (.ref (Φ.ga c) :: vs) zs) = .ref (Φ.ga c) :: (Φ.arr p0).map (paV vs zs) := by
          rw [List.map_cons, sh_arr]; rfl
        exact run_anyM tk F (x.hr hcm) B I3 r1 r2 l1 l2 (by rw [ea]; exact q)
  next => cases h'
theorem s_lmk (ih : IHt Φ S k n) (x : XO Φ S k M X) (gx : XG X π γ) (hcm : M.calm = true) {i : Nat} {nm : Str} {as : List IE} {e : Expr} {es : List Expr} {p2 : Pos} (hn : isN M i nm = true) (h1 : all2 (okE S n M) as (e :: es) = true) (h : ev Φ γ false (.lmk i as) = some r) : PG X (γ.map (S2.sl π)) (.Call (.Name nm p2) (e :: es) [] p) r := fun W tk σ Hs H Q s E K => by
  have h' : (match γ[i]? with
    | some (.sh (.adr C)) => (match Φ.ctor C with
      | some f => evL Φ γ as fun ds => Φ.call f ds
      | none => none)
    | _ => none) = some r := h
  split at h'
  next C hγ =>
    split at h'
    next f hc =>
      obtain ⟨fa, fd, ps, j, F, hj, mk, msh, bd⟩ := x.g.ctor C f hc
      obtain ⟨a1, a2, a3, a4⟩ := visB_ok x hn
      have pdn : PD X (γ.map (S2.sl π)) (.Name nm p2) (.adr C) := pd_v (d := .adr C) i (map_at hγ) a1 a2 a3 a4
      have ns : ∀ y ∈ e :: es, isStar y = false := fun y hy => by
        obtain ⟨i, hi⟩ := all2_mem h1 y hy
        exact ok_nostar hi
      have he := star_cons (env := X.env) (es := es) (ns e (List.mem_cons_self ..))
      have hpl := star_any (pos := p) (env := X.env) fun y (hy : y ∈ es) => ns y (List.mem_cons_of_mem _ hy)
      intro pins st I
      refine wpAny_Call_Name_kw (thn ((wE_ok (.Name nm p2)).run pins st σ H _ I (pdn σ Hs H (fun v H1 => v = .ref C ∧ ∃ Hs1, Gr Hs H Hs1 H1) s E fun v Hs1 H1 g r => ?_)) ?_)
      · cases r
        exact ⟨rfl, Hs1, g⟩
      rintro u s1 ⟨v, H1, I1, rv, rfl, Hs1, g1⟩
      obtain rfl : u = Value.ref C := rv
      refine PySem.W.callWith_K (h₀ := X.base) I1.ok.mod.kin mk.kp (thn ((wA_ok (e :: es)).run p pins s1 σ H1 _ I1 (argsR (R := fun vs H2 => ∃ Hs2 ds, Gr Hs1 H1 Hs2 H2 ∧ Reps X.K Hs2 vs ds ∧ Φ.call f ds = some r) ih x gx tk h1 h' g1.sub (E.mono g1.sh) (fun _ _ _ => K.go g1) fun ds vs Hs2 H2 hd g2 r2 => ⟨Hs2, ds, g2, r2, hd⟩)) fun us s2 ⟨vs, H2, I2, r2, Hs2, ds, g2, r', hd⟩ => ⟨I2.kIn, ?_⟩) he hpl
      refine make_at tk mk F ((x.hr hcm).mono hj) bd I2 r2 fun pp dx np ndx nex => ?_
      have kk := (K.go g1).go g2
      refine ⟨Hs2, H2, pp, dx, vs, ds, r, rfl, rfl, np, ndx, nex, g2.sub, r', hd, ?_⟩
      rcases msh _ _ hd with ⟨fs, rfl⟩ | ⟨CE, fs, rfl⟩
      · refine ⟨rfl, fun Hs3 H3 dx' us' g3 h1 h2 r3 => ⟨rfl, ?_⟩⟩
        obtain ⟨g4, r4⟩ := made_gr np g3 h1 h2 r3
        exact kk _ _ _ g4 r4
      · exact fun dd us' Hs3 H3 g3 h1 r3 => kk dd us' Hs3 H3 g3 h1 r3
    next => cases h'
  next => cases h'
theorem s_ins (ih : IHt Φ S k n) (x : XO Φ S k M X) (gx : XG X π γ) {a : IE} {ea : Expr} {t : Nat} {z : Str} {p2 p3 : Pos} (hg : free S M "isinstance" = true) (hf : S.cname t = some z) (hz : (glB M z && plainN z) = true) (h1 : okE S n M a ea = true) (h : ev Φ γ false (.ins a t) = some r) :
    PG X (γ.map (S2.sl π)) (.Call (.Name "isinstance" p2) [ea, .Name z p3] [] p) r := fun W tk σ Hs H Q s E K => by
  have h' : RR.and (ev Φ γ false a) (fun x => match x with
    | .obj C _ => (Φ.isO C t).bind bv
    | _ => none) = some r := h
  obtain ⟨ra, e1, e2⟩ := and_some h'
  obtain ⟨q1, q2, q3, q4⟩ := free_ok x hg
  obtain ⟨w1, w2, _⟩ := glB_ok x hz
  have n1 : starEach [ea, .Name z p3] X.env = (false, eval ea X.env) :: starEach [.Name z p3] X.env := star_cons (ok_nostar h1)
  have pdn : PD X (γ.map (S2.sl π)) (.Name z p3) (.adr (Φ.ga t)) := pd_glob (v := .ref (Φ.ga t)) w1 (x.g.kl t z hf) rfl (fun _ => .adr _) w2
  refine wE_of (pe_callB (id := "isinstance") (r := fun vs H Q => ∃ r, CallR X (.builtin "isinstance") r ∧ r vs H Q) callAny q1 q2 (by decide +kernel) (wA_ok _) q4 q3 n1 rfl) ?_
  refine wA_of (L2.pa_cons (wE_ok ea) (wA_ok [.Name z p3]) n1) ?_
  refine andR (Q0 := Q) ((ih M X x γ π gx a ea h1).1 ra e1) e2 tk s E (fun _ _ _ => K) fun y v Hs1 H1 hd g1 r1 => ?_
  refine wA_of (L2.pa_cons (wE_ok (.Name z p3)) L2.pa_nil rfl) (pdn σ Hs1 H1 _ g1.sub (E.mono g1.sh) fun v2 Hs2 H2 g2 r2 => ?_)
  cases r2
  split at hd
  · next C fs =>
    cases q : Φ.isO C t with
    | none => rw [q] at hd; cases hd
    | some b =>
      rw [q] at hd
      cases hd
      obtain ⟨rfl, rfl, ic⟩ := x.g.is C t z b hf q
      cases r1 with
      | obj a1 a2 => exact ⟨_, C8.call_isC ic, _, _, _, rfl, g2.sub _ _ (g2.sh _ _ a1), ((K.go g1).go g2).val g2.sub (.bl _)⟩
  · cases hd
theorem ex_at (gx : XG X π γ) {i : Nat} {C : Addr} {fs : List (Str × D)} (hγ : γ[i]? = some (.ex C fs)) : ∃ (X0 : Cx) (oe : Obj) (pn : List (Addr × Obj)), X = X0.suite π.a ((π.a, oe) :: pn) ∧ Zc (.ref C) (some π.dd) oe ∧ ∃ vs, oe.data = .fields vs := gx i C fs hγ
theorem s_exa (x : XO Φ S k M X) (gx : XG X π γ) {i : Nat} {nm f : Str} {p2 : Pos} (hn : isN M i nm = true) (h : ev Φ γ false (.exa i f) = some r) : PG X (γ.map (S2.sl π)) (.Attribute (.Name nm p2) f p) r := by
  have h' : (match γ[i]? with
    | some (.ex C fs) => if Φ.xfl C f then (fs.lookup f).map RR.val else none
    | _ => none) = some r := h
  split at h'
  next C fs hγ =>
    split at h'
    next hx =>
      cases q : fs.lookup f with
      | none => rw [q] at h'; cases h'
      | some d =>
        rw [q] at h'
        cases h'
        obtain ⟨a1, a2, a3, a4⟩ := visB_ok x hn
        obtain ⟨X0, oe, pn, rfl, hz, hf⟩ := gx i C fs hγ
        obtain ⟨T, hno⟩ := x.g.xf C f hx
        exact PG.of_pd (pd_xf T hno hz hf (pd_v (d := .exc π.a π.dd fs) i (map_at hγ) a1 a2 a3 a4) q (attr_base rfl))
    next => cases h'
  next => cases h'
theorem exi_go (x : XO Φ S k M X) (gx : XG X π γ) {i : Nat} {y z : Str} {C : Addr} {fs : List (Str × D)} {c : V} {cv : Value} {d : D} {b : Bool} {p2 p3 p4 : Pos} (hg : free S M "isinstance" = true) (hn : isN M i y = true) (hγ : γ[i]? = some (.ex C fs)) (hE : ExcC X.K C) (hk : PySem.W.kitOne X.K (.ref C) cv = some b) (pdz : PD X (γ.map (S2.sl π)) (.Name z p3) d) (hc : ∀ Hs v, Rep X.K Hs v d → ∀ u, RelV v u → u = cv) :
    PG X (γ.map (S2.sl π)) (.Call (.Name "isinstance" p2) [.Name y p4, .Name z p3] [] p) (.val (.bl b)) := fun W tk σ Hs H Q s E K => by
  obtain ⟨q1, q2, q3, q4⟩ := free_ok x hg
  obtain ⟨a1, a2, a3, a4⟩ := visB_ok x hn
  obtain ⟨X0, oe, pn, rfl, hz, hf⟩ := gx i C fs hγ
  refine wE_of (pe_callB (id := "isinstance") (call_isX hE hz hf) q1 q2 (by decide +kernel) (wA_ok _) q4 q3 rfl rfl) ?_
  refine wA_of (L2.pa_cons (wE_ok (.Name y p4)) (wA_ok [.Name z p3]) rfl) ?_
  refine (pd_v (d := .exc π.a π.dd fs) i (map_at hγ) a1 a2 a3 a4) σ Hs H _ s E fun v Hs1 H1 g1 r1 => ?_
  refine wA_of (L2.pa_cons (wE_ok (.Name z p3)) L2.pa_nil rfl) (pdz σ Hs1 H1 _ g1.sub (E.mono g1.sh) fun v2 Hs2 H2 g2 r2 => ?_)
  cases r1 with
  | exc h1 rf => exact ⟨_, cv, _, b, rfl, g2.sub _ _ (g2.sh _ _ h1), hc _ _ r2, hk, ((K.go g1).go g2).val g2.sub (.bl _)⟩
theorem s_exi (x : XO Φ S k M X) (gx : XG X π γ) {i t : Nat} {y z : Str} {p2 p3 p4 : Pos} (hg : free S M "isinstance" = true) (hn : isN M i y = true) (hf : S.ename t = some z) (hz : (glB M z && plainN z) = true) (h : ev Φ γ false (.exi i t) = some r) : PG X (γ.map (S2.sl π)) (.Call (.Name "isinstance" p2) [.Name y p4, .Name z p3] [] p) r := by
  have h' : (match γ[i]? with
    | some (.ex C _) => (Φ.isX C t).bind bv
    | _ => none) = some r := h
  split at h'
  next C fs hγ =>
    cases q : Φ.isX C t with
    | none => rw [q] at h'; cases h'
    | some b =>
      rw [q] at h'
      cases h'
      obtain ⟨_, hk, hE⟩ := x.g.xh C t z b hf q
      have hm := x.g.xn t z hf
      obtain ⟨w1, w2, _⟩ := glB_ok x hz
      exact exi_go x gx (c := .ref (Φ.ga t)) hg hn hγ hE hk (pd_glob (v := .ref (Φ.ga t)) w1 hm rfl (fun _ => .adr _) w2) fun Hs v rr u ru => by
        cases rr
        exact ru
  next => cases h'
theorem s_exb (x : XO Φ S k M X) (gx : XG X π γ) {i : Nat} {t : String} {y z : Str} {p2 p3 p4 : Pos} (hg : free S M "isinstance" = true) (hn : isN M i y = true) (hz : free S M z = true) (hb : bootBuiltins z = some (.type t)) (h : ev Φ γ false (.exb i t) = some r) : PG X (γ.map (S2.sl π)) (.Call (.Name "isinstance" p2) [.Name y p4, .Name z p3] [] p) r := by
  have h' : (match γ[i]? with
    | some (.ex C _) => (Φ.isB C t).bind bv
    | _ => none) = some r := h
  split at h'
  next C fs hγ =>
    cases q : Φ.isB C t with
    | none => rw [q] at h'; cases h'
    | some b =>
      rw [q] at h'
      cases h'
      obtain ⟨hk, hE⟩ := x.g.xb C t b q
      obtain ⟨w1, w2, w3, w4⟩ := free_ok x hz
      exact exi_go x gx (c := .non) hg hn hγ hE hk (pd_ty w2 hb w1 w4 w3) fun Hs v rr u ru => by
        cases rr
        exact ru
  next => cases h'
theorem s_lstI (ih : IHt Φ S k n) (x : XO Φ S k M X) (gx : XG X π γ) (hcm : M.calm = true) {a : IE} {ea : Expr} {p2 : Pos} (hg : free S M "list" = true) (h1 : okE S n M a ea = true) (h : ev Φ γ false (.bi .list [.itr a]) = some r) : PG X (γ.map (S2.sl π)) (.Call (.Name "list" p2) [ea] [] p) r := fun W tk σ Hs H Q s E K => by
  have h' : RR.and (ev Φ γ false (.itr a)) (fun d => biD .list [d]) = some r := h
  obtain ⟨ra, e1, e2⟩ := and_some h'
  obtain ⟨q1, q2, q3, q4⟩ := free_ok x hg
  have na := star_cons (env := X.env) (es := []) (ok_nostar h1)
  refine wE_of (pe_callTy (T := "list") (r := fun vs H Q => ∃ r, CallR X (.type "list") r ∧ r vs H Q) callAny q1 q2 (by decide +kernel) (wA_ok _) q4 q3 na rfl) ?_
  refine wA_of (L2.pa_cons (wE_ok ea) L2.pa_nil na) ?_
  rcases itr_parts e1 with ⟨C, fs, f, ds, g1, g2, g3, rfl⟩ | ⟨C, fs, g1, rfl⟩
  · have e3 : some (RR.new ds) = some r := e2
    cases e3
    have O := x.g.it C f g2
    refine ((ih M X x γ π gx a ea h1).1 _ g1).pd σ Hs H _ s E fun v Hs1 H1 gr1 r1 => ?_
    cases r1 with
    | obj a1 a2 =>
      obtain ⟨u, hu, ru⟩ := a2.get g3
      cases ru with
      | tup t1 r1 =>
        exact ⟨_, call_listOwnT O ((x.hr hcm).mono x.k3), _, _, _, _, _, rfl, gr1.sub _ _ a1, hu, sqT_mono gr1.sub t1, newL gr1.sub r1 (K.go gr1)⟩
  · cases e2
    exact (ih M X x γ π gx a ea h1).1 _ g1 W tk σ Hs H _ s E K
theorem s_lrv (ih : IHt Φ S k n) (x : XO Φ S k M X) (gx : XG X π γ) (hcm : M.calm = true) {a : IE} {ea : Expr} {p1 p2 p3 : Pos} (hg : free S M "list" = true) (hz : free S M "reversed" = true) (h1 : okE S n M a ea = true) (h : ev Φ γ false (.bi .lrv [a]) = some r) : PG X (γ.map (S2.sl π)) (.Call (.Name "list" p1) [.Call (.Name "reversed" p2) [ea] [] p3] [] p) r := fun W tk σ Hs H Q s E K => by
  have h' : RR.and (ev Φ γ false a) (fun d => biD .lrv [d]) = some r := h
  obtain ⟨ra, e1, e2⟩ := and_some h'
  obtain ⟨q1, q2, q3, q4⟩ := free_ok x hg
  obtain ⟨w1, w2, w3, w4⟩ := free_ok x hz
  have na := star_cons (env := X.env) (es := []) (ok_nostar h1)
  refine wE_of (pe_lstRev (x.calm hcm) q1 q2 w1 w2 (wE_ok ea) na rfl) ?_
  refine andR ((ih M X x γ π gx a ea h1).1 ra e1) e2 tk s E (fun _ _ _ => K) fun y v Hs1 H1 hd g1 r1 => ?_
  cases y with
  | lst ds =>
    have hd : some (RR.new ds.reverse) = some r := hd
    cases hd
    cases r1 with
    | lst a1 a2 => exact ⟨_, _, rfl, .inl (.inl (g1.sub _ _ a1)), newL g1.sub (reps_rev a2) (K.go g1)⟩
  | _ => cases hd
end
end Ev
end

section
set_option Elab.async false
set_option linter.all false
set_option maxRecDepth 100000
set_option maxHeartbeats 4000000
set_option autoImplicit false
namespace Ev
open PySem PySem.Spec PyProof.Rows L2 Pd
section
variable {Φ : Phi} {S : Sta} {k n : Nat} {M : Md} {X : Cx} {γ : List S2} {π : Pt}
theorem map_set (γ : List S2) (i : Nat) (s : S2) : (γ.set i s).map (S2.sl π) = (γ.map (S2.sl π)).set i (s.sl π) := by rw [List.map_set]
theorem hd_sl (s : S2) : (S2.hd s).sl π = (s.sl π).hd := by cases s <;> rfl
theorem wip_sl (γ : List S2) : ∀ vs : List Nat, (wip γ vs).map (S2.sl π) = wipeS (γ.map (S2.sl π)) vs
  | [] => rfl
  | v :: vs => by
    unfold wip wipeS
    rw [map_set, wip_sl γ vs]
    rfl
theorem blk_sl (γ : List S2) (tg : List Nat) : (blk γ tg).map (S2.sl π) = blkS (γ.map (S2.sl π)) tg := by
  unfold blk blkS
  rw [wip_sl, List.map_map, List.map_map]
  congr 1
  apply List.map_congr_left
  intro s _
  exact hd_sl s
theorem loc_ok {nm : Str} (x : XO Φ S k M X) (h : (match M.sc.names.lookup nm with
    | some .local => true
    | _ => false) = true) : X.env.scope.names.lookup nm = some .local := by
  rw [x.sc]
  split at h
  · assumption
  · cases h
theorem put_ok (hcm : M.calm = true) (x : XO Φ S k M X) {tg : List Nat} {t : Expr} {d : D} {γ2 : List S2} (ho : okG M tg t = true) (hp : put tg d γ = some γ2) : PDG X (γ.map (S2.sl π)) t d (γ2.map (S2.sl π)) tg := by
  unfold okG at ho
  split at ho
  · next i nm p =>
    obtain ⟨h1, h2⟩ := ba ho
    have h1 := of_decide_eq_true h1
    have h2 := loc_ok x h2
    have e : some (γ.set i (.sh d)) = some γ2 := hp
    cases e
    rw [map_set]
    exact pg_n i x.nd (by rw [x.N]; exact h1) (.inl h2) (.inr h2)
  · next i j nm p1 nm2 p2 kk p3 =>
    obtain ⟨h1, h2⟩ := ba ho
    obtain ⟨h3, h4⟩ := ba h1
    obtain ⟨h5, h6⟩ := ba h2
    have h3 := of_decide_eq_true h3
    have h4 := loc_ok x h4
    have h5 := of_decide_eq_true h5
    have h6 := loc_ok x h6
    have non : ∀ d, (∀ u v, d ≠ .tup [u, v]) → put [i, j] d γ = none := fun d hd => by
      unfold put
      split
      · rename_i q; cases q
      · rename_i q; exact absurd rfl (hd _ _)
      · rfl
    by_cases hd : ∃ u v, d = .tup [u, v]
    · obtain ⟨u, v, rfl⟩ := hd
      have e : some ((γ.set i (.sh u)).set j (.sh v)) = some γ2 := hp
      cases e
      rw [map_set, map_set]
      exact pg_tup2 (pg_n i x.nd (by rw [x.N]; exact h3) (.inl h4) (.inr h4)) (pg_n j x.nd (by rw [x.N]; exact h5) (.inl h6) (.inr h6)) (x.calm hcm)
    · rw [non d fun u v e => hd ⟨u, v, e⟩] at hp
      cases hp
  · cases ho
theorem locS_ok {nm : Str} (x : XO Φ S k M X) (h : locB M nm = true) : L2.Loc X.env.scope nm := by
  unfold locB at h
  unfold L2.Loc
  rw [x.sc]
  split at h
  · exact .inl (by assumption)
  · exact .inr (by assumption)
  · cases h
theorem put_okS (hcm : M.calm = true) (x : XO Φ S k M X) (hfn : ∀ n, X.fn n = true) {tg : List Nat} {t : Expr} {d : D} {γ2 : List S2} (ho : okGs M tg t = true) (hp : put tg d γ = some γ2) : PDG X (γ.map (S2.sl π)) t d (γ2.map (S2.sl π)) tg := by
  unfold okGs at ho
  split at ho
  · next i nm p =>
    obtain ⟨h1, h2⟩ := ba ho
    have h1 := of_decide_eq_true h1
    have h2 := locS_ok x h2
    have e : some (γ.set i (.sh d)) = some γ2 := hp
    cases e
    rw [map_set]
    exact pg_n i x.nd (by rw [x.N]; exact h1) h2 (.inl (hfn _))
  · next i j nm p1 nm2 p2 kk p3 =>
    obtain ⟨h1, h2⟩ := ba ho
    obtain ⟨h3, h4⟩ := ba h1
    obtain ⟨h5, h6⟩ := ba h2
    have h3 := of_decide_eq_true h3
    have h4 := locS_ok x h4
    have h5 := of_decide_eq_true h5
    have h6 := locS_ok x h6
    have non : ∀ d, (∀ u v, d ≠ .tup [u, v]) → put [i, j] d γ = none := fun d hd => by
      unfold put
      split
      · rename_i q; cases q
      · rename_i q; exact absurd rfl (hd _ _)
      · rfl
    by_cases hd : ∃ u v, d = .tup [u, v]
    · obtain ⟨u, v, rfl⟩ := hd
      have e : some ((γ.set i (.sh u)).set j (.sh v)) = some γ2 := hp
      cases e
      rw [map_set, map_set]
      exact pg_tup2 (pg_n i x.nd (by rw [x.N]; exact h3) h4 (.inl (hfn _))) (pg_n j x.nd (by rw [x.N]; exact h5) h6 (.inl (hfn _))) (x.calm hcm)
    · rw [non d fun u v e => hd ⟨u, v, e⟩] at hp
      cases hp
  · cases ho
theorem okO_ok (x : XO Φ S k M X) {scope : Scope} {own : List (Str × Nat)} (h : okO M.N own M.sc scope = true) : BlkOk X.N X.env.scope scope own := by
  obtain ⟨h1, h⟩ := ba h
  obtain ⟨h2, h⟩ := ba h
  obtain ⟨h3, h⟩ := ba h
  obtain ⟨h4, h5⟩ := ba h
  rw [x.N, x.sc]
  refine ⟨of_decide_eq_true h1, fun y hy => of_decide_eq_true (List.all_eq_true.mp h2 y hy), fun q hq => of_decide_eq_true (List.all_eq_true.mp h3 q hq), fun y hy e => ?_, fun y hy e => ?_⟩
  · have z := List.all_eq_true.mp h4 y hy
    rcases Bool.or_eq_true_iff.mp z with z | z
    · rw [decide_eq_true e] at z; cases z
    · rcases Bool.or_eq_true_iff.mp z with z | z
      · exact .inl (of_decide_eq_true z)
      · exact .inr (of_decide_eq_true z)
  · have z := List.all_eq_true.mp h5 y hy
    rcases Bool.or_eq_true_iff.mp z with z | z
    · have : (decide (y.2 = NameKind.local) || decide (y.2 = NameKind.cell)) = true := by
        rcases e with e | e
        · rw [decide_eq_true e]; rfl
        · rw [decide_eq_true e, Bool.or_true]
      rw [this] at z; cases z
    · rcases Bool.or_eq_true_iff.mp z with z | z
      · exact .inl (List.contains_iff_mem.mp z)
      · refine .inr fun q => ?_
        rw [List.contains_iff_mem.mpr q] at z
        cases z
theorem lcGo_ok {F : D → Option (Option D)} : ∀ {items l : List D}, lcGo F items = some l → l = items.filterMap (fun d => match F d with
    | some o => o
    | none => none) ∧ ∀ d ∈ items, ∃ o, F d = some o
  | [], l, h => by cases h; exact ⟨rfl, fun d hd => by cases hd⟩
  | d :: r, l, h => by
    unfold lcGo at h
    cases q : F d with
    | none => rw [q] at h; cases h
    | some o =>
      rw [q] at h
      dsimp only at h
      cases q2 : lcGo F r with
      | none => rw [q2] at h; cases h
      | some l2 =>
        rw [q2] at h
        obtain ⟨e1, e2⟩ := lcGo_ok q2
        refine ⟨?_, fun d' hd => ?_⟩
        · rw [List.filterMap_cons, q]
          cases h
          cases o with
          | none => exact e1
          | some y => exact congrArg (y :: ·) e1
        · rcases List.mem_cons.mp hd with rfl | hd
          · exact ⟨o, q⟩
          · exact e2 d' hd
theorem zip_snd : ∀ {as : List Str} {bs : List Nat}, bs.length = as.length → (as.zip bs).map (·.2) = bs
  | [], [], _ => rfl
  | a :: as, b :: bs, h => congrArg (b :: ·) (zip_snd (Nat.succ.inj h))
  | [], _ :: _, h => by cases h
  | _ :: _, [], h => by cases h
theorem XO.blk (x : XO Φ S k M X) (scope : Scope) (s : Shared) (H : Hp) (C : Addr) (cl : List (Str × Addr)) (fp : List Addr) : XO Φ S k { M with sc := relS scope M.sc } (KX X scope s H C cl fp) where
  sc := by rw [← x.sc]; rfl
  N := x.N
  nd := x.nd
  hr := x.hr
  un := x.un
  k3 := x.k3
  calm := x.calm
  pa := fun _ => PassesOwn.never
  g := x.g
def noX (γ : List S2) : Prop := ∀ (i : Nat) C fs, γ[i]? ≠ some (S2.ex C fs)
theorem noX_of (hc : X.calm = true) (gx : XG X π γ) : noX γ := fun i C fs h => by
  obtain ⟨X0, oe, pn, e, _⟩ := gx i C fs h
  subst e
  cases hc
theorem noX_set {s : S2} {j : Nat} (h : noX γ) (hs : ∀ C fs, s ≠ S2.ex C fs) : noX (γ.set j s) := fun i C fs e => by
  by_cases q : j = i
  · subst q
    exact hs C fs (set_self_of e)
  · rw [List.getElem?_set_ne q] at e
    exact h i C fs e
theorem noX_wip (h : noX γ) : ∀ vs, noX (wip γ vs)
  | [] => h
  | v :: vs => noX_set (noX_wip h vs) fun _ _ z => by cases z
theorem noX_blk {tg : List Nat} (h : noX γ) : noX (Ev.blk γ tg) := noX_wip (fun i C fs e => by
  rw [List.getElem?_map] at e
  cases q : γ[i]? with
  | none => rw [q] at e; cases e
  | some s =>
    rw [q] at e
    cases s with
    | ex C' fs' => exact h i C' fs' q
    | _ => cases e) tg
theorem noX_put {tg : List Nat} {d : D} {γ2 : List S2} (h : noX γ) (hp : put tg d γ = some γ2) : ∀ X' : Cx, XG X' π γ2 := fun X' i C fs e => by
  exfalso
  unfold put at hp
  split at hp
  · cases hp
    exact noX_set h (fun _ _ z => by cases z) i C fs e
  · cases hp
    exact noX_set (noX_set h fun _ _ z => by cases z) (fun _ _ z => by cases z) i C fs e
  · cases hp
theorem lc_parts (ih : IHt Φ S k n) (x : XO Φ S k M X) (gx : XG X π γ) (hcm : M.calm = true) {elt : IE} {tg : List Nat} {kk : IK} {its cond : List IE} {y t it : Expr} {ifs : List Expr} {scope : Scope} {r : RR} (h1 : okG { M with sc := relS scope M.sc } tg t = true) (h2 : okO M.N ((tgN t).zip tg) M.sc scope = true) (h3 : tg.length = (tgN t).length) (h7 : (decide (kk ≠ .en) || decide (tg.length = 2)) = true)
    (h4 : okIt (okE S n M) S M kk its it = true) (h5 : (match cond, ifs with
      | [], [] => true
      | [c], [z] => okE S n { M with sc := relS scope M.sc } c z
      | _, _ => false) = true) (h6 : okE S n { M with sc := relS scope M.sc } elt y = true) (h : ev Φ γ false (.lc elt tg kk its cond) = some r) :
    ∃ (items : List D) (f : D → Option D), r = .new (items.filterMap f) ∧ PDIt X (γ.map (S2.sl π)) t it (items.map id) ∧ Turns X (γ.map (S2.sl π)) scope ((tgN t).zip tg) t y ifs id items f ∧ items.length ≤ 50000 ∧ BlkOk X.N X.env.scope scope ((tgN t).zip tg) ∧ ifs.length ≤ 1 ∧ ∀ x, foldedSetIterable it X.env x = pure x := by
  have h' : (match (evD Φ γ its).bind (itms kk) with
    | none => none
    | some items => if items.length ≤ 50000 then (lcGo (fun d => match put tg d (blk γ tg) with
      | none => none
      | some γ2 => match evC Φ γ2 cond with
        | some true => (RR.d? (ev Φ γ2 false elt)).map some
        | some false => some none
        | none => none) items).map RR.new else none) = some r := h
  cases qi : (evD Φ γ its).bind (itms kk) with
  | none => rw [qi] at h'; cases h'
  | some items =>
    rw [qi] at h'
    dsimp only at h'
    split at h'
    next hz =>
      cases ql : lcGo (fun d => match put tg d (blk γ tg) with
        | none => none
        | some γ2 => match evC Φ γ2 cond with
          | some true => (RR.d? (ev Φ γ2 false elt)).map some
          | some false => some none
          | none => none) items with
      | none => rw [ql] at h'; cases h'
      | some l =>
        rw [ql] at h'
        cases h'
        obtain ⟨e1, e2⟩ := lcGo_ok ql
        have hten : kk = .en → ∃ elts j tp, t = .Tuple elts j tp := fun z => by
          subst z
          rcases Bool.or_eq_true_iff.mp h7 with z | z
          · exact absurd rfl (of_decide_eq_true z)
          · have z := of_decide_eq_true z
            unfold okG at h1
            split at h1
            · cases z
            · exact ⟨_, _, _, rfl⟩
            · cases h1
        obtain ⟨hit, hset⟩ := it_ok (π := π) (tg := t) ih x gx h4 qi hten
        have hown := zip_snd h3
        rw [e1]
        refine ⟨items, _, rfl, hit.is (by rw [List.map_id]), fun d hd => ?_, hz, okO_ok x h2, ?_, hset⟩
        · obtain ⟨o, ho⟩ := e2 d hd
          dsimp only
          rw [ho]
          dsimp only at ho ⊢
          cases qp : put tg d (blk γ tg) with
          | none => rw [qp] at ho; cases ho
          | some γ2 =>
            rw [qp] at ho
            dsimp only at ho
            cases qc : evC Φ γ2 cond with
            | none => rw [qc] at ho; cases ho
            | some q =>
              rw [qc] at ho
              have g2 : ∀ X', XG X' π γ2 := noX_put (noX_blk (noX_of (x.calm hcm) gx)) qp
              have pdg : ∀ X', XO Φ S k { M with sc := relS scope M.sc } X' → PDG X' (blkS (γ.map (S2.sl π)) tg) t d (γ2.map (S2.sl π)) tg := fun X' x' => by
                have z := put_ok (π := π) (M := { M with sc := relS scope M.sc }) hcm x' h1 qp
                rw [blk_sl] at z
                exact z
              have pts : ∀ X', XO Φ S k { M with sc := relS scope M.sc } X' → PDTs X' (γ2.map (S2.sl π)) ifs q := fun X' x' => by
                split at h5
                · cases qc; exact rfl
                · next cc z =>
                  have qc' : bl? (ev Φ γ2 true cc) = some q := qc
                  exact ((ih _ X' x' γ2 π (g2 X') cc z h5).2 _ (bl?_ok qc') q rfl).1
                · cases h5
              cases q with
              | false =>
                cases ho
                exact ⟨γ2.map (S2.sl π), tg, false, fun j hj => by rw [hown]; exact hj, fun _ => rfl, .non, fun z => (by cases z), fun s2 H2 C2 cl fp => ⟨by rw [hown]; exact pdg _ (x.blk scope s2 H2 C2 cl fp), pts _ (x.blk scope s2 H2 C2 cl fp), fun z => (by cases z)⟩⟩
              | true =>
                cases qv : RR.d? (ev Φ γ2 false elt) with
                | none => rw [qv] at ho; cases ho
                | some dv =>
                  rw [qv] at ho
                  cases ho
                  exact ⟨γ2.map (S2.sl π), tg, true, fun j hj => by rw [hown]; exact hj, fun z => (by cases z), dv, fun _ => rfl, fun s2 H2 C2 cl fp => ⟨by rw [hown]; exact pdg _ (x.blk scope s2 H2 C2 cl fp), pts _ (x.blk scope s2 H2 C2 cl fp),
                    fun _ => d_of qv ((ih _ _ (x.blk scope s2 H2 C2 cl fp) γ2 π (g2 _) elt y h6).1)⟩⟩
        · split at h5
          · exact Nat.zero_le _
          · exact Nat.le_refl _
          · cases h5
    next => cases h'
theorem s_lc (ih : IHt Φ S k n) (x : XO Φ S k M X) (gx : XG X π γ) (hcm : M.calm = true) {elt : IE} {tg : List Nat} {kk : IK} {its cond : List IE} {y t it : Expr} {ifs : List Expr} {scope : Scope} {p : Pos} {r : RR} (h1 : okG { M with sc := relS scope M.sc } tg t = true) (h2 : okO M.N ((tgN t).zip tg) M.sc scope = true) (h3 : tg.length = (tgN t).length) (h7 : (decide (kk ≠ .en) || decide (tg.length = 2)) = true)
    (h4 : okIt (okE S n M) S M kk its it = true) (h5 : (match cond, ifs with
      | [], [] => true
      | [c], [z] => okE S n { M with sc := relS scope M.sc } c z
      | _, _ => false) = true) (h6 : okE S n { M with sc := relS scope M.sc } elt y = true) (h : ev Φ γ false (.lc elt tg kk its cond) = some r) : PG X (γ.map (S2.sl π)) (.ListComp y [⟨t, it, ifs, 0⟩] scope p) r := by
  obtain ⟨items, f, rfl, a, b, c, d, e, g⟩ := lc_parts ih x gx hcm h1 h2 h3 h7 h4 h5 h6 h
  exact PG.of_pn (pn_lcT (own := (tgN t).zip tg) (emb := id) items f a b x.nd d c e (x.calm hcm) g)
theorem noX_put2 {tg : List Nat} {d : D} {γ2 : List S2} (h : noX γ) (hp : put tg d γ = some γ2) : noX γ2 := fun i C fs e => by
  unfold put at hp
  split at hp
  · cases hp
    exact noX_set h (fun _ _ z => by cases z) i C fs e
  · cases hp
    exact noX_set (noX_set h fun _ _ z => by cases z) (fun _ _ z => by cases z) i C fs e
  · cases hp
theorem lcGo2_ok {F : D → Option (List D)} : ∀ {items l : List D}, lcGo2 F items = some l → l = items.flatMap (fun d => (F d).getD []) ∧ ∀ d ∈ items, ∃ o, F d = some o
  | [], l, h => by cases h; exact ⟨rfl, fun d hd => by cases hd⟩
  | d :: r, l, h => by
    unfold lcGo2 at h
    cases q : F d with
    | none => rw [q] at h; cases h
    | some o =>
      rw [q] at h
      dsimp only at h
      cases q2 : lcGo2 F r with
      | none => rw [q2] at h; cases h
      | some l2 =>
        rw [q2] at h
        obtain ⟨e1, e2⟩ := lcGo2_ok q2
        cases h
        refine ⟨?_, fun d' hd => ?_⟩
        · rw [List.flatMap_cons, q, ← e1]; rfl
        · rcases List.mem_cons.mp hd with rfl | hd
          · exact ⟨o, q⟩
          · exact e2 d' hd
theorem filterMap_all {F : D → Option (Option D)} {f : D → D} : ∀ {items : List D}, (∀ d ∈ items, F d = some (some (f d))) → (items.filterMap fun d => match F d with
    | some o => o
    | none => none) = items.map f
  | [], _ => rfl
  | d :: r, h => by
    rw [List.filterMap_cons, h d (List.mem_cons_self ..), List.map_cons, filterMap_all fun b hb => h b (List.mem_cons_of_mem _ hb)]
theorem s_lc2 (ih : IHt Φ S k n) (x : XO Φ S k M X) (gx : XG X π γ) (hcm : M.calm = true) {elt : IE} {t1 t2 : List Nat} {k1 k2 : IK} {its1 its2 : List IE} {y g1 i1 g2 i2 : Expr} {scope : Scope} {p : Pos} {r : RR} (h1 : okG { M with sc := relS scope M.sc } t1 g1 = true) (h2 : okG { M with sc := relS scope M.sc } t2 g2 = true)
    (h3 : okO M.N ((tgN g1 ++ tgN g2).zip (t1 ++ t2)) M.sc scope = true) (h4 : t1.length = (tgN g1).length) (h5 : t2.length = (tgN g2).length) (e1 : k1 ≠ .en) (e2 : k2 ≠ .en) (h6 : okIt (okE S n M) S M k1 its1 i1 = true) (h7 : okIt (okE S n { M with sc := relS scope M.sc }) S { M with sc := relS scope M.sc } k2 its2 i2 = true)
    (h8 : okE S n { M with sc := relS scope M.sc } elt y = true) (h : ev Φ γ false (.lc2 elt t1 k1 its1 t2 k2 its2) = some r) : PG X (γ.map (S2.sl π)) (.ListComp y [⟨g1, i1, [], 0⟩, ⟨g2, i2, [], 0⟩] scope p) r := by
  have h' : (match (evD Φ γ its1).bind (itms k1) with
    | none => none
    | some items => if items.length ≤ 300 then (lcGo2 (fun d => match put t1 d (Ev.blk γ (t1 ++ t2)) with
      | none => none
      | some γ2 => match (evD Φ γ2 its2).bind (itms k2) with
        | none => none
        | some items2 => if items2.length ≤ 300 then lcGo (fun d2 => match put t2 d2 (Ev.blk γ2 t2) with
          | none => none
          | some γ3 => (RR.d? (ev Φ γ3 false elt)).map some) items2 else none) items).map RR.new else none) = some r := h
  cases qi : (evD Φ γ its1).bind (itms k1) with
  | none => rw [qi] at h'; cases h'
  | some items =>
    rw [qi] at h'
    dsimp only at h'
    split at h'
    next hz =>
      generalize hF : (fun d => match put t1 d (Ev.blk γ (t1 ++ t2)) with
        | none => none
        | some γ2 => match (evD Φ γ2 its2).bind (itms k2) with
          | none => none
          | some items2 => if items2.length ≤ 300 then lcGo (fun d2 => match put t2 d2 (Ev.blk γ2 t2) with
            | none => none
            | some γ3 => (RR.d? (ev Φ γ3 false elt)).map some) items2 else none) = F at h'
      cases ql : lcGo2 F items with
      | none => rw [ql] at h'; cases h'
      | some l =>
        rw [ql] at h'
        cases h'
        obtain ⟨w1, w2⟩ := lcGo2_ok ql
        rw [w1]
        obtain ⟨hit, hset⟩ := it_ok (π := π) (tg := g1) ih x gx h6 qi (fun z => absurd z e1)
        have hown : ((tgN g1 ++ tgN g2).zip (t1 ++ t2)).map (·.2) = t1 ++ t2 := zip_snd (by rw [List.length_append, List.length_append, h4, h5])
        refine PG.of_pn (pn_lc2 (own := (tgN g1 ++ tgN g2).zip (t1 ++ t2)) (vs1 := t2) hit ?_ x.nd (okO_ok x h3) (fun i hi => by rw [hown]; exact List.mem_append_right _ hi) hz (x.calm hcm) hset fun env => noset_it (nb (ba h7).1))
        intro d hd
        obtain ⟨o, ho⟩ := w2 d hd
        have ho' := ho
        rw [← hF] at ho'
        dsimp only at ho'
        cases qp : put t1 d (Ev.blk γ (t1 ++ t2)) with
        | none => rw [qp] at ho'; cases ho'
        | some γ2 =>
          rw [qp] at ho'
          dsimp only at ho'
          cases q2 : (evD Φ γ2 its2).bind (itms k2) with
          | none => rw [q2] at ho'; cases ho'
          | some items2 =>
            rw [q2] at ho'
            dsimp only at ho'
            split at ho'
            next hz2 =>
              have n2 : noX γ2 := noX_put2 (noX_blk (noX_of (x.calm hcm) gx)) qp
              have g2' : ∀ X', XG X' π γ2 := noX_put (noX_blk (noX_of (x.calm hcm) gx)) qp
              obtain ⟨w3, w4⟩ := lcGo_ok ho'
              have key : ∀ b, b ∈ items2 → ∃ γ3 dv, put t2 b (Ev.blk γ2 t2) = some γ3 ∧ RR.d? (ev Φ γ3 false elt) = some dv := fun b hb => by
                obtain ⟨ob, hob⟩ := w4 b hb
                cases qq : put t2 b (Ev.blk γ2 t2) with
                | none => rw [qq] at hob; cases hob
                | some γ3 =>
                  rw [qq] at hob
                  cases qv : RR.d? (ev Φ γ3 false elt) with
                  | none => simp only [qv] at hob; cases hob
                  | some dv => exact ⟨γ3, dv, rfl, qv⟩
              refine ⟨γ2.map (S2.sl π), t1, items2, fun b => ((put t2 b (Ev.blk γ2 t2)).bind fun γ3 => RR.d? (ev Φ γ3 false elt)).getD .non, fun j hj => by rw [hown]; exact List.mem_append_left _ hj, ?_, hz2, fun s2 H2 C2 cl fp => ⟨?_, ?_⟩, fun b hb => ?_⟩
              · show (F d).getD [] = _
                rw [ho]
                show o = _
                rw [w3]
                refine filterMap_all fun b hb => ?_
                obtain ⟨γ3, dv, k1, k2⟩ := key b hb
                simp only [k1, k2, Option.bind_some, Option.map_some, Option.getD_some]
              · rw [hown]
                have z := put_ok (π := π) (M := { M with sc := relS scope M.sc }) hcm (x.blk scope s2 H2 C2 cl fp) h1 qp
                rw [blk_sl] at z
                exact z
              · exact (it_ok (π := π) (tg := g2) ih (x.blk scope s2 H2 C2 cl fp) (g2' _) h7 q2 (fun z => absurd z e2)).1
              · obtain ⟨γ3, dv, k1, k2⟩ := key b hb
                refine ⟨γ3.map (S2.sl π), t2, fun j hj => hj, fun s2 H2 C2 cl fp => ⟨?_, ?_⟩⟩
                · have z := put_ok (π := π) (M := { M with sc := relS scope M.sc }) hcm (x.blk scope s2 H2 C2 cl fp) h2 k1
                  rw [blk_sl] at z
                  exact z
                · simp only [k1, k2, Option.bind_some, Option.getD_some]
                  exact d_of k2 ((ih _ _ (x.blk scope s2 H2 C2 cl fp) γ3 π (noX_put (noX_blk n2) k1 _) elt y h8).1)
            next => cases ho'
    next => cases h'
theorem stepA (ih : IHt Φ S k n) (x : XO Φ S k M X) (gx : XG X π γ) {ir : IE} {e : Expr} (ok : okA (okE S n) S M ir e = true) : (∀ r, ev Φ γ false ir = some r → PG X (γ.map (S2.sl π)) e r) ∧ ∀ r, ev Φ γ true ir = some r → PGW X (γ.map (S2.sl π)) e r := by
  unfold okA at ok
  split at ok
  · -- cst
    next d c j p => 
    have hp : ∀ r, ev Φ γ false (.cst d) = some r → PG X (γ.map (S2.sl π)) (.Constant c j p) r := fun r h => by
      have h' : some (RR.val d) = some r := h
      cases h'
      exact PG.of_pd (okC_ok ok)
    exact ⟨hp, tst_ok _ rfl hp⟩
  · next i nm p => exact ⟨fun r h => s_loc x ok h, tst_ok _ rfl fun r h => s_loc x ok h⟩
  · next i nm p =>
    obtain ⟨h1, h2⟩ := ba ok
    exact ⟨fun r h => s_glo x (of_decide_eq_true h1) h2 h, tst_ok _ rfl fun r h => s_glo x (of_decide_eq_true h1) h2 h⟩
  · next i nm p =>
    obtain ⟨h1, h2⟩ := ba ok
    exact ⟨fun r h => s_kls x (of_decide_eq_true h1) h2 h, tst_ok _ rfl fun r h => s_kls x (of_decide_eq_true h1) h2 h⟩
  · next op a b y op' z p =>
    obtain ⟨h1, h2⟩ := ba ok
    obtain ⟨h2, h3⟩ := ba h2
    have h1 := of_decide_eq_true h1
    subst h1
    exact ⟨fun r h => s_bin ih x gx h2 h3 h, tst_ok _ rfl fun r h => s_bin ih x gx h2 h3 h⟩
  · exact ⟨fun r h => s_neg ih x gx ok h, tst_ok _ rfl fun r h => s_neg ih x gx ok h⟩
  · exact ⟨fun r h => s_not ih x gx ok h, fun r h => s_notT ih x gx ok h⟩
  · next a b y z p =>
    obtain ⟨h1, h2⟩ := ba ok
    exact ⟨fun r h => and_go (ih M X x γ π gx a _ h1).1 (fun rb hb => ((ih M X x γ π gx b _ h2).1 rb hb).one) h, fun r h => and_goT (ih M X x γ π gx a _ h1).2 (fun q hb => pw_and1 ((ih M X x γ π gx b _ h2).2 _ hb q rfl).1) h⟩
  · next a b y z z2 rr p =>
    obtain ⟨h1, h2⟩ := ba ok
    exact ⟨fun r h => and_go (ih M X x γ π gx a _ h1).1 (ih M X x γ π gx b _ h2).1 h, fun r h => and_goT (ih M X x γ π gx a _ h1).2 (fun q hb => ((ih M X x γ π gx b _ h2).2 _ hb q rfl).2 rfl) h⟩
  · next a b y z p =>
    obtain ⟨h1, h2⟩ := ba ok
    exact ⟨fun r h => or_go (ih M X x γ π gx a _ h1).1 (fun rb hb => ((ih M X x γ π gx b _ h2).1 rb hb).one) h, fun r h => or_goT (ih M X x γ π gx a _ h1).2 (fun q hb => pw_or1 ((ih M X x γ π gx b _ h2).2 _ hb q rfl).1) h⟩
  · next a b y z z2 rr p =>
    obtain ⟨h1, h2⟩ := ba ok
    exact ⟨fun r h => or_go (ih M X x γ π gx a _ h1).1 (ih M X x γ π gx b _ h2).1 h, fun r h => or_goT (ih M X x γ π gx a _ h1).2 (fun q hb => ((ih M X x γ π gx b _ h2).2 _ hb q rfl).2 rfl) h⟩
  · next c a b y z z2 p =>
    obtain ⟨h1, h2⟩ := ba ok
    obtain ⟨h2, h3⟩ := ba h2
    exact ⟨fun r h => s_ife ih x gx h1 h2 h3 h, fun r h => by cases h⟩
  · next op a b y op' z p =>
    obtain ⟨h1, h2⟩ := ba ok
    obtain ⟨h2, h3⟩ := ba h2
    obtain ⟨h3, h4⟩ := ba h3
    have h1 := of_decide_eq_true h1
    subst h1
    exact ⟨fun r h => s_cmp ih x gx (nb h2) h3 h4 h, fun r h => s_cmpT ih x gx (nb h2) h3 h4 h⟩
  · next o1 o2 a b c y q1 q2 z z2 p =>
    obtain ⟨h1, h2⟩ := ba ok
    obtain ⟨h2, h3⟩ := ba h2
    obtain ⟨h3, h4⟩ := ba h3
    obtain ⟨h4, h5⟩ := ba h4
    obtain ⟨h5, h6⟩ := ba h5
    have h1 := of_decide_eq_true h1
    have h2 := of_decide_eq_true h2
    subst h1 h2
    exact ⟨fun r h => s_chn ih x gx (nb h3) h4 h5 h6 h, fun r h => s_chnT ih x gx (nb h3) h4 h5 h6 h⟩
  · obtain ⟨h1, h2⟩ := ba ok
    exact ⟨fun r h => (s_isc x ih gx h1 h2 h).1, fun r h => (s_isc x ih gx h1 h2 (show ev Φ γ false _ = _ from h)).2⟩
  · exact ⟨fun r h => (s_isn x ih gx ok h).1, fun r h => (s_isn x ih gx ok (show ev Φ γ false _ = _ from h)).2⟩
  · next f as nm p1 xs p2 =>
    obtain ⟨hcm, ok⟩ := ba ok
    obtain ⟨h1, h2⟩ := ba ok
    obtain ⟨h2, h3⟩ := ba h2
    obtain ⟨h3, h4⟩ := ba h3
    obtain ⟨h4, h5⟩ := ba h4
    have hg : (glB M nm && plainN nm) = true := by rw [h2, h3]; rfl
    cases xs with
    | nil => cases h4
    | cons e es => exact ⟨fun r h => s_fn ih x gx hcm (of_decide_eq_true h1) hg h5 h, tst_ok _ rfl fun r h => s_fn ih x gx hcm (of_decide_eq_true h1) hg h5 h⟩
  · next a y p1 z p2 w p3 p4 =>
    obtain ⟨hcm, ok⟩ := ba ok
    obtain ⟨k1, k2⟩ := ba ok
    obtain ⟨k3, k4⟩ := ba k2
    obtain ⟨k5, k6⟩ := ba k4
    obtain ⟨k7, k8⟩ := ba k6
    have e1 := of_decide_eq_true k1
    have e2 := of_decide_eq_true k5
    subst e1 e2
    exact ⟨fun r h => s_trg ih x gx hcm k3 k7 k8 h, tst_ok _ rfl fun r h => s_trg ih x gx hcm k3 k7 k8 h⟩
  · next a y p1 z p2 w p3 p4 =>
    obtain ⟨hcm, ok⟩ := ba ok
    obtain ⟨k1, k2⟩ := ba ok
    obtain ⟨k3, k4⟩ := ba k2
    obtain ⟨k5, k6⟩ := ba k4
    obtain ⟨k7, k8⟩ := ba k6
    have e1 := of_decide_eq_true k1
    have e2 := of_decide_eq_true k5
    subst e1 e2
    exact ⟨fun r h => s_lset ih x gx hcm k3 k7 k8 h, tst_ok _ rfl fun r h => s_lset ih x gx hcm k3 k7 k8 h⟩
  · next bb as nm p1 xs p2 _ _ =>
    obtain ⟨k0, w1⟩ := ba ok
    obtain ⟨k1, w2⟩ := ba w1
    obtain ⟨k2, w3⟩ := ba w2
    obtain ⟨k3, w4⟩ := ba w3
    obtain ⟨k4, w5⟩ := ba w4
    obtain ⟨k5, k6⟩ := ba w5
    cases xs with
    | nil => cases k5
    | cons e es => exact ⟨fun r h => s_bi ih x gx k0 (of_decide_eq_true k3) k4 k6 (of_decide_eq_true k1) (of_decide_eq_true k2) h, tst_ok _ rfl fun r h => s_bi ih x gx k0 (of_decide_eq_true k3) k4 k6 (of_decide_eq_true k1) (of_decide_eq_true k2) h⟩
  · next a t nm p1 y z p2 p3 =>
    obtain ⟨h1, h2⟩ := ba ok
    obtain ⟨h2, h3⟩ := ba h2
    obtain ⟨h3, h4⟩ := ba h3
    obtain ⟨h4, h5⟩ := ba h4
    have h1 := of_decide_eq_true h1
    subst h1
    exact ⟨fun r h => s_inb ih x gx h2 h3 (of_decide_eq_true h4) h5 h, bl_ok _ rfl fun r h => s_inb ih x gx h2 h3 (of_decide_eq_true h4) h5 h⟩
  · next o f y g p =>
    obtain ⟨h1, h2⟩ := ba ok
    obtain ⟨h2, h3⟩ := ba h2
    have h1 := of_decide_eq_true h1
    subst h1
    exact ⟨fun r h => s_att ih x gx (nb h2) h3 h, tst_ok _ rfl fun r h => s_att ih x gx (nb h2) h3 h⟩
  · obtain ⟨h1, h2⟩ := ba ok
    obtain ⟨h2, h3⟩ := ba h2
    exact ⟨fun r h => s_sub ih x gx h1 h2 h3 h, tst_ok _ rfl fun r h => s_sub ih x gx h1 h2 h3 h⟩
  · exact ⟨fun r h => s_lst ih x gx ok h, tst_ok _ rfl fun r h => s_lst ih x gx ok h⟩
  · exact ⟨fun r h => s_tup ih x gx ok h, tst_ok _ rfl fun r h => s_tup ih x gx ok h⟩
  · obtain ⟨h1, h2⟩ := ba ok
    obtain ⟨h2, h3⟩ := ba h2
    exact ⟨fun r h => s_slc ih x gx h1 h2 h3 h, tst_ok _ rfl fun r h => s_slc ih x gx h1 h2 h3 h⟩
  · exact ⟨fun r h => s_rev ih x gx ok h, tst_ok _ rfl fun r h => s_rev ih x gx ok h⟩
  · obtain ⟨hcm, ok⟩ := ba ok
    obtain ⟨h1, h2⟩ := ba ok
    obtain ⟨h2, h3⟩ := ba h2
    obtain ⟨h3, h4⟩ := ba h3
    obtain ⟨h4, h5⟩ := ba h4
    obtain ⟨h5, h6⟩ := ba h5
    obtain ⟨h6, h7⟩ := ba h6
    exact ⟨fun r h => s_lc ih x gx hcm h1 h2 (of_decide_eq_true h3) h4 h5 h6 h7 h, tst_ok _ rfl fun r h => s_lc ih x gx hcm h1 h2 (of_decide_eq_true h3) h4 h5 h6 h7 h⟩
  · cases ok
theorem stepY (ih : IHt Φ S k n) (x : XO Φ S k M X) (gx : XG X π γ) {ir : IE} {e : Expr} (ok : okY (okE S n) S M ir e = true) : (∀ r, ev Φ γ false ir = some r → PG X (γ.map (S2.sl π)) e r) ∧ ∀ r, ev Φ γ true ir = some r → PGW X (γ.map (S2.sl π)) e r := by
  unfold okY at ok
  split at ok
  · next f p as kvs nm p1 xs kws p2 =>
    obtain ⟨hcm, ok⟩ := ba ok
    obtain ⟨h1, h2⟩ := ba ok
    obtain ⟨h2, h3⟩ := ba h2
    obtain ⟨h3, h4⟩ := ba h3
    obtain ⟨h4, h5⟩ := ba h4
    have hg : (glB M nm && plainN nm) = true := by rw [h2, h3]; rfl
    exact ⟨fun r h => s_fnk ih x gx hcm (of_decide_eq_true h1) hg h4 h5 h, tst_ok _ rfl fun r h => s_fnk ih x gx hcm (of_decide_eq_true h1) hg h4 h5 h⟩
  · next f p as kvs nm p1 xs kws p2 =>
    obtain ⟨hcm, ok⟩ := ba ok
    obtain ⟨h1, h2⟩ := ba ok
    obtain ⟨h2, h3⟩ := ba h2
    obtain ⟨h3, h4⟩ := ba h3
    obtain ⟨h4, h5⟩ := ba h4
    have hg : (glB M nm && plainN nm) = true := by rw [h2, h3]; rfl
    exact ⟨fun r h => s_mk ih x gx hcm (of_decide_eq_true h1) hg h4 h5 h, tst_ok _ rfl fun r h => s_mk ih x gx hcm (of_decide_eq_true h1) hg h4 h5 h⟩
  · next c g nm p1 h p2 =>
    obtain ⟨h1, h2⟩ := ba ok
    obtain ⟨h2, h3⟩ := ba h2
    obtain ⟨h3, h4⟩ := ba h3
    have hg : (glB M nm && plainN nm) = true := by rw [h2, h3]; rfl
    have e4 := of_decide_eq_true h4
    subst e4
    exact ⟨fun r h => s_con x (of_decide_eq_true h1) hg h, tst_ok _ rfl fun r h => s_con x (of_decide_eq_true h1) hg h⟩
  · next a b nm p1 y z p2 =>
    obtain ⟨h1, h2⟩ := ba ok
    obtain ⟨h2, h3⟩ := ba h2
    obtain ⟨h3, h4⟩ := ba h3
    obtain ⟨h4, h5⟩ := ba h4
    have e2 := of_decide_eq_true h2
    subst e2
    have ha : all2 (okE S n M) [a, b] [y, z] = true := by
      show (okE S n M a y && (okE S n M b z && true)) = true
      rw [h4, h5]; rfl
    exact ⟨fun r h => s_gcd ih x gx h1 h3 ha h, tst_ok _ rfl fun r h => s_gcd ih x gx h1 h3 ha h⟩
  · next b o a y nm ap z q =>
    obtain ⟨h1, h2⟩ := ba ok
    obtain ⟨h2, h3⟩ := ba h2
    obtain ⟨h3, h4⟩ := ba h3
    obtain ⟨h4, h5⟩ := ba h4
    obtain ⟨h5, h6⟩ := ba h5
    obtain ⟨h6, h7⟩ := ba h6
    have h1 := of_decide_eq_true h1
    have go : ∀ r, ev Φ γ false (.bm b o [a]) = some r → PG X (γ.map (S2.sl π)) (.Call (.Attribute y nm ap) [z] [] q) r := fun r h => by
      cases b with
      | upper => exact absurd rfl h1
      | count => exact s_bm ih x gx (.inl rfl) (of_decide_eq_true h2) (nb h3) (nb h4) h5 h6 h7 h
      | index => exact s_bm ih x gx (.inr rfl) (of_decide_eq_true h2) (nb h3) (nb h4) h5 h6 h7 h
      | join => exact s_bmS ih x gx (.inl rfl) (of_decide_eq_true h2) (nb h3) (nb h4) h5 h6 h7 h
      | find => exact s_bmS ih x gx (.inr rfl) (of_decide_eq_true h2) (nb h3) (nb h4) h5 h6 h7 h
    exact ⟨go, tst_ok _ rfl go⟩
  · next o m p as kvs y nm ap xs kws q =>
    obtain ⟨hcm, ok⟩ := ba ok
    obtain ⟨h1, h2⟩ := ba ok
    obtain ⟨h2, h3⟩ := ba h2
    obtain ⟨h3, h4⟩ := ba h3
    obtain ⟨h4, h5⟩ := ba h4
    obtain ⟨h5, h6⟩ := ba h5
    have go : ∀ r, ev Φ γ false (.mth o m p as kvs) = some r → PG X (γ.map (S2.sl π)) (.Call (.Attribute y nm ap) xs kws q) r := fun r h => s_mth ih x gx hcm (of_decide_eq_true h1) (nb h2) h3 h4 h5 h6 h
    exact ⟨go, tst_ok _ rfl go⟩
  · next c m p as kvs y py nm ap xs kws q =>
    obtain ⟨hcm, ok⟩ := ba ok
    obtain ⟨h1, h2⟩ := ba ok
    obtain ⟨h2, h3⟩ := ba h2
    obtain ⟨h3, h4⟩ := ba h3
    obtain ⟨h4, h5⟩ := ba h4
    obtain ⟨h5, h6⟩ := ba h5
    obtain ⟨h6, h7⟩ := ba h6
    have hg : (glB M y && plainN y) = true := by rw [h3, h4]; rfl
    have go : ∀ r, ev Φ γ false (.cm c m p as kvs) = some r → PG X (γ.map (S2.sl π)) (.Call (.Attribute (.Name y py) nm ap) xs kws q) r := fun r h => s_cm ih x gx hcm (of_decide_eq_true h1) (of_decide_eq_true h2) hg h5 h6 h7 h
    exact ⟨go, tst_ok _ rfl go⟩
  · next i as nm p1 xs p2 =>
    obtain ⟨hcm, ok⟩ := ba ok
    obtain ⟨h1, h2⟩ := ba ok
    obtain ⟨h2, h3⟩ := ba h2
    cases xs with
    | nil => cases h2
    | cons e es => exact ⟨fun r h => s_lmk ih x gx hcm h1 h3 h, tst_ok _ rfl fun r h => s_lmk ih x gx hcm h1 h3 h⟩
  · next a t nm p1 y z p2 p3 =>
    obtain ⟨h1, h2⟩ := ba ok
    obtain ⟨h2, h3⟩ := ba h2
    obtain ⟨h3, h4⟩ := ba h3
    obtain ⟨h4, h5⟩ := ba h4
    obtain ⟨h5, h6⟩ := ba h5
    have h1 := of_decide_eq_true h1
    subst h1
    have hg : (glB M z && plainN z) = true := by rw [h4, h5]; rfl
    exact ⟨fun r h => s_ins ih x gx h2 (of_decide_eq_true h3) hg h6 h, bl_ok _ rfl fun r h => s_ins ih x gx h2 (of_decide_eq_true h3) hg h6 h⟩
  · next i f nm p1 g p2 =>
    obtain ⟨h1, h2⟩ := ba ok
    have h2 := of_decide_eq_true h2
    subst h2
    exact ⟨fun r h => s_exa x gx h1 h, tst_ok _ rfl fun r h => s_exa x gx h1 h⟩
  · next i t nm p1 y p4 z p2 p3 =>
    obtain ⟨h1, h2⟩ := ba ok
    obtain ⟨h2, h3⟩ := ba h2
    obtain ⟨h3, h4⟩ := ba h3
    obtain ⟨h4, h5⟩ := ba h4
    have h1 := of_decide_eq_true h1
    subst h1
    exact ⟨fun r h => s_exi x gx h2 h3 (of_decide_eq_true h4) h5 h, bl_ok _ rfl fun r h => s_exi x gx h2 h3 (of_decide_eq_true h4) h5 h⟩
  · next i t nm p1 y p4 z p2 p3 =>
    obtain ⟨h1, h2⟩ := ba ok
    obtain ⟨h2, h3⟩ := ba h2
    obtain ⟨h3, h4⟩ := ba h3
    have h1 := of_decide_eq_true h1
    subst h1
    obtain ⟨h4, h5⟩ := ba h4
    exact ⟨fun r h => s_exb x gx h2 h3 h4 (of_decide_eq_true h5) h, bl_ok _ rfl fun r h => s_exb x gx h2 h3 h4 (of_decide_eq_true h5) h⟩
  · next a nm p1 y p2 =>
    obtain ⟨hcm, ok⟩ := ba ok
    obtain ⟨h1, h2⟩ := ba ok
    obtain ⟨h2, h3⟩ := ba h2
    have h1 := of_decide_eq_true h1
    subst h1
    exact ⟨fun r h => s_lstI ih x gx hcm h2 h3 h, tst_ok _ rfl fun r h => s_lstI ih x gx hcm h2 h3 h⟩
  · next a nm p1 y p2 z p3 p4 =>
    obtain ⟨hcm, ok⟩ := ba ok
    obtain ⟨h1, w2⟩ := ba ok
    obtain ⟨h2, w3⟩ := ba w2
    obtain ⟨h3, w4⟩ := ba w3
    obtain ⟨h4, h5⟩ := ba w4
    have e1 := of_decide_eq_true h1
    have e3 := of_decide_eq_true h3
    subst e1 e3
    exact ⟨fun r h => s_lrv ih x gx hcm h2 h4 h5 h, tst_ok _ rfl fun r h => s_lrv ih x gx hcm h2 h4 h5 h⟩
  · next as nm p1 nm2 p2 xs p3 p4 =>
    obtain ⟨h1, w2⟩ := ba ok
    obtain ⟨h2, w3⟩ := ba w2
    obtain ⟨h3, w4⟩ := ba w3
    obtain ⟨h4, w5⟩ := ba w4
    obtain ⟨h5, w6⟩ := ba w5
    obtain ⟨h6, h7⟩ := ba w6
    have e2 := of_decide_eq_true h2
    have e4 := of_decide_eq_true h4
    subst e2 e4
    exact ⟨fun r h => s_lrg ih x gx h1 h3 h5 h6 h7 h, tst_ok _ rfl fun r h => s_lrg ih x gx h1 h3 h5 h6 h7 h⟩
  · next elt t1 k1 its1 t2 k2 its2 y g1 i1 g2 i2 scope p =>
    obtain ⟨h1, ok⟩ := ba ok
    obtain ⟨h2, ok⟩ := ba ok
    obtain ⟨h3, ok⟩ := ba ok
    obtain ⟨h4, ok⟩ := ba ok
    obtain ⟨h5, ok⟩ := ba ok
    obtain ⟨h6, ok⟩ := ba ok
    obtain ⟨h7, ok⟩ := ba ok
    obtain ⟨h8, h9⟩ := ba h7
    obtain ⟨h10, ok⟩ := ba ok
    obtain ⟨h11, h12⟩ := ba ok
    have go : ∀ r, ev Φ γ false (.lc2 elt t1 k1 its1 t2 k2 its2) = some r → PG X (γ.map (S2.sl π)) (.ListComp y [⟨g1, i1, [], 0⟩, ⟨g2, i2, [], 0⟩] scope p) r := fun r h => s_lc2 ih x gx h1 h2 h3 h4 (of_decide_eq_true h5) (of_decide_eq_true h6) (of_decide_eq_true h8) (of_decide_eq_true h9) h10 h11 h12 h
    exact ⟨go, tst_ok _ rfl go⟩
  · cases ok
theorem snd_step (ih : IHt Φ S k n) : IHt Φ S k (n + 1) := by
  intro M X x γ π gx ir e ok
  rcases Bool.or_eq_true_iff.mp (show (okA (okE S n) S M ir e || okY (okE S n) S M ir e) = true from ok) with ok | ok
  · exact stepA ih x gx ok
  · exact stepY ih x gx ok
theorem snd : ∀ n, IHt Φ S k n
  | 0 => fun _ _ _ _ _ _ _ _ ok => by cases ok
  | n + 1 => snd_step (snd n)
end
end Ev
end

section
set_option Elab.async false
set_option linter.all false
set_option maxRecDepth 100000
set_option maxHeartbeats 4000000
set_option autoImplicit false
namespace Ev
open PySem PySem.Spec PyProof.Rows L2 Pd
/-! ### no list hangs on it -/
section
variable {K : PySem.W.Frag} {H H' : Hp}
def Keeps (H H' : Hp) : Prop := ∀ a u, H a = some u → (∀ vs, u ≠ .lst vs) → H' a = some u
theorem rd_keep {a : Addr} {u : HO} (e : Keeps H H') (hu : ∀ vs, u ≠ .lst vs) (h : Rd H a u) : Rd H' a u := by
  rcases h with h | ⟨o, h⟩
  · exact .inl (e a _ h hu)
  · exact .inr ⟨o, e a _ h fun vs z => by cases z⟩
theorem sqT_keep {a : Addr} {xs : List V} (e : Keeps H H') (h : SqT K H a xs) : SqT K H' a xs := by
  rcases h with h | h
  · exact .inl (rd_keep e (fun vs z => by cases z) h)
  · exact .inr h
mutual
theorem Rep.na (e : Keeps H H') : ∀ {v : V} {d : D}, Ev.na d = true → Rep K H v d → Rep K H' v d
  | _, _, _, .non => .non
  | _, _, _, .bl b => .bl b
  | _, _, _, .int i => .int i
  | _, _, _, .str x => .str x
  | _, _, _, .ty n => .ty n
  | _, _, _, .adr a => .adr a
  | _, _, n, .tup h r => .tup (sqT_keep e h) (Reps.na e (by unfold Ev.na at n; exact n) r)
  | _, _, n, .obj h r => .obj (e _ _ h fun vs z => by cases z) (RepF.na e (by unfold Ev.na at n; exact n) r)
  | _, _, n, .lst _ _ => by unfold Ev.na at n; cases n
  | _, _, n, .rol _ _ => by unfold Ev.na at n; cases n
  | _, _, n, .exc _ _ => by unfold Ev.na at n; cases n
  | _, _, n, .dK _ _ => by unfold Ev.na at n; cases n
  | _, _, n, .dT _ _ => by unfold Ev.na at n; cases n
  | _, _, n, .ev0 _ => by unfold Ev.na at n; cases n
  | _, _, n, .ev1 _ _ _ => by unfold Ev.na at n; cases n
theorem Reps.na (e : Keeps H H') : ∀ {v : List V} {d : List D}, Ev.nas d = true → Reps K H v d → Reps K H' v d
  | _, _, _, .nil => .nil
  | _, _, n, .cons r t => by
    unfold Ev.nas at n
    exact .cons (Rep.na e (ba n).1 r) (Reps.na e (ba n).2 t)
theorem RepF.na (e : Keeps H H') : ∀ {v : List (Str × V)} {d : List (Str × D)}, Ev.naf d = true → RepF K H v d → RepF K H' v d
  | _, _, _, .nil => .nil
  | _, _, n, .cons r t => by
    unfold Ev.naf at n
    exact .cons (Rep.na e (ba n).1 r) (RepF.na e (ba n).2 t)
end
end
/-! ### an expression from a body's state -/
def TGr (X : Cx) (γ : List Sl) (t : TE) (r : RR) : Prop := ∀ (W : WX), Takes X W → ∀ (σ : L2.St) (Hs H : Hp) (Q : VK), Same Hs H → SE X.K Hs σ γ →
  KR X.K r Q (fun C dd H' => W (.ref C) (some dd) σ H') Hs H → t σ H Q
section
variable {Φ : Phi} {S : Sta} {k n : Nat} {M : Md} {X : Cx} {γ γ1 : List S2} {π : Pt} {Hs0 H0 Hr Hs H : Hp} {σ : L2.St} {r : RR} {ir : IE} {t : TE}
open Classical in
/-- the shared heap and one's own lists -/
noncomputable def viewH (γ : List Sl) (σ : L2.St) (Hs H : Hp) : Hp := fun a => if (∃ (i : Nat) (ds : List D), γ[i]? = some (Sl.ow ds) ∧ σ[i]? = some (some (V.ref a))) then H a else Hs a
open Classical in
noncomputable def unviewH (γ : List Sl) (σ : L2.St) (Hs : Hp) : Hp := fun a => if (∃ (i : Nat) (ds : List D), γ[i]? = some (Sl.ow ds) ∧ σ[i]? = some (some (V.ref a))) then none else Hs a
theorem own_at {g : List Sl} (tS : ST X.K Hs0 H0 Hr Hs H σ g) {a : Addr} (h : ∃ (i : Nat) (ds : List D), g[i]? = some (Sl.ow ds) ∧ σ[i]? = some (some (V.ref a))) : Hs a = none ∧ ∃ vs, H a = some (.lst vs) := by
  obtain ⟨i, ds, h1, h2⟩ := h
  obtain ⟨l, o, e1, e2, e3, _, vs, rfl, _⟩ := tS.own i _ h1 rfl
  rw [h2] at e1
  cases e1
  exact ⟨e3, vs, e2⟩
theorem view_same {g : List Sl} (tS : ST X.K Hs0 H0 Hr Hs H σ g) : Same Hs (viewH g σ Hs H) ∧ Same (viewH g σ Hs H) H := by
  refine ⟨fun a u e => ?_, fun a u e => ?_⟩
  · unfold viewH
    split
    next h => rw [(own_at tS h).1] at e; cases e
    next => exact e
  · unfold viewH at e
    split at e
    · exact e
    · exact tS.sub a u e
theorem view_SE (tS : ST X.K Hs0 H0 Hr Hs H σ (γ.map (S2.sl π))) : SE X.K (viewH (γ.map (S2.sl π)) σ Hs H) σ ((γ.map S2.vwL).map (S2.sl π)) := by
  obtain ⟨s1, s2⟩ := view_same tS
  refine ⟨by rw [tS.len]; simp, fun i d q => ?_⟩
  rw [List.getElem?_map, List.getElem?_map] at q
  cases e : γ[i]? with
  | none => rw [e] at q; cases q
  | some s =>
    rw [e] at q
    have q : S2.sl π s.vwL = Sl.sh d := Option.some.inj q
    cases s with
    | no => cases q
    | sh d' =>
      cases q
      obtain ⟨v, h1, h2⟩ := tS.shd i _ (map_at e)
      exact ⟨v, h1, h2.mono s1⟩
    | ex C fs =>
      cases q
      obtain ⟨v, h1, h2⟩ := tS.shd i _ (map_at (π := π) e)
      exact ⟨v, h1, h2.mono s1⟩
    | ob C fs => cases q
    | ow ds =>
      cases q
      obtain ⟨l, o, e1, e2, e3, _, vs, rfl, rr⟩ := tS.own i _ (map_at (π := π) e) rfl
      refine ⟨_, e1, .lst ?_ (rr.mono s1)⟩
      unfold viewH
      rw [if_pos ⟨i, ds, map_at (π := π) e, e1⟩]
      exact e2
theorem unview {g : List Sl} (tS : ST X.K Hs0 H0 Hr Hs H σ g) {Hs' H' : Hp} (gr : Gr (viewH g σ Hs H) H Hs' H') : Gr Hs H (unviewH g σ Hs') H' ∧ Keeps Hs' (unviewH g σ Hs') := by
  obtain ⟨s1, s2⟩ := view_same tS
  have own : ∀ a, (∃ (i : Nat) (ds : List D), g[i]? = some (Sl.ow ds) ∧ σ[i]? = some (some (V.ref a))) → ∃ vs, Hs' a = some (.lst vs) := fun a h => by
    obtain ⟨h1, vs, h2⟩ := own_at tS h
    refine ⟨vs, gr.sh a _ ?_⟩
    unfold viewH
    rw [if_pos h]
    exact h2
  refine ⟨⟨fun a u e => ?_, gr.ext, fun a u e => ?_, fun a h1 h2 => ?_⟩, fun a u e hu => ?_⟩
  · unfold unviewH
    split
    next h => rw [(own_at tS h).1] at e; cases e
    next => exact gr.sh a u (s1 a u e)
  · unfold unviewH at e
    split at e
    · cases e
    · exact gr.sub a u e
  · unfold unviewH
    split
    · rfl
    next h =>
      refine gr.loc a h1 ?_
      unfold viewH
      rw [if_neg h]
      exact h2
  · unfold unviewH
    split
    next h =>
      obtain ⟨vs, q⟩ := own a h
      rw [q] at e
      cases e
      exact absurd rfl (hu vs)
    next => exact e
theorem KR.view {g : List Sl} {Q : VK} {W : Addr → Addr → Hp → Prop} (tS : ST X.K Hs0 H0 Hr Hs H σ g) (hn : r.na = true) (kk : KR X.K r Q W Hs H) : KR X.K r Q W (viewH g σ Hs H) H := by
  cases r with
  | val d =>
    intro v Hs' H' gr rr
    obtain ⟨g2, kp⟩ := unview tS gr
    exact kk v _ H' g2 (Rep.na kp hn rr)
  | new ds =>
    intro l vs Hs' H' gr h1 h2 h3 rr
    obtain ⟨g2, kp⟩ := unview tS gr
    refine kk l vs _ H' g2 h1 ?_ h3 (Reps.na kp hn rr)
    unfold unviewH
    split
    · rfl
    · exact h2
  | exc C fs =>
    intro dd us Hs' H' gr h1 h2
    obtain ⟨g2, kp⟩ := unview tS gr
    exact kk dd us _ H' g2 (kp _ _ h1 fun vs z => by cases z) (RepF.na kp hn h2)
theorem XG.map {f : S2 → S2} (hf : ∀ s C fs, f s = .ex C fs → s = .ex C fs) (gx : XG X π γ) : XG X π (γ.map f) := fun i C fs h => by
  rw [List.getElem?_map] at h
  cases e : γ[i]? with
  | none => rw [e] at h; cases h
  | some s =>
    rw [e] at h
    have h := hf s C fs (Option.some.inj h)
    subst h
    exact gx i C fs e
theorem XG.set {s : S2} {j : Nat} (gx : XG X π γ) (hs : ∀ C fs, s ≠ .ex C fs) : XG X π (γ.set j s) := fun i C fs e => by
  by_cases q : j = i
  · subst q
    exact absurd (set_self_of e) (hs C fs)
  · rw [List.getElem?_set_ne q] at e
    exact gx i C fs e
theorem XG.frz : ∀ {us : List Nat} {γ : List S2}, XG X π γ → XG X π (Ev.frz γ us)
  | [], _, gx => gx
  | u :: us, γ, gx => by
    unfold Ev.frz
    split
    · exact XG.frz (gx.set fun _ _ z => by cases z)
    · exact XG.frz gx
/-- given away -/
theorem frz_ST : ∀ {us : List Nat} {γ : List S2} {Hs : Hp}, ST X.K Hs0 H0 Hr Hs H σ (γ.map (S2.sl π)) → ∃ Hs', Same Hs Hs' ∧ ST X.K Hs0 H0 Hr Hs' H σ ((Ev.frz γ us).map (S2.sl π))
  | [], _, Hs, tS => ⟨Hs, Same.refl _, tS⟩
  | u :: us, γ, Hs, tS => by
    unfold Ev.frz
    split
    next ds e =>
      obtain ⟨Hs1, s1, t1⟩ := tS.freeze (map_at (π := π) e) rfl
      rw [show (γ.map (S2.sl π)).set u (Sl.vw (S2.sl π (.ow ds))) = (γ.set u (.sh (.lst ds))).map (S2.sl π) by rw [map_set]; rfl] at t1
      obtain ⟨Hs2, s2, t2⟩ := frz_ST (us := us) t1
      exact ⟨Hs2, s1.trans s2, t2⟩
    next => exact frz_ST tS
theorem vwO_sl (s : S2) : (S2.vwO s).sl π = (s.sl π).vw := by cases s <;> rfl
theorem evP_ok {v : Vw} {W : WX} {Q : VK} (hT : ∀ γ' r, XG X π γ' → ev Φ γ' false ir = some r → TGr X (γ'.map (S2.sl π)) t r) (gx : XG X π γ) (hv : evP Φ γ v ir = some (γ1, r)) (tS : ST X.K Hs0 H0 Hr Hs H σ (γ.map (S2.sl π))) (tk : Takes X W)
    (kk : ∀ Hs1, ST X.K Hs0 H0 Hr Hs1 H σ (γ1.map (S2.sl π)) → KR X.K r Q (fun C dd H' => W (.ref C) (some dd) σ H') Hs1 H) : t σ H Q := by
  cases v with
  | pl =>
    have hv : (ev Φ γ false ir).map (fun r => (γ, r)) = some (γ1, r) := hv
    cases e : ev Φ γ false ir with
    | none => rw [e] at hv; cases hv
    | some r' =>
      rw [e] at hv
      cases hv
      exact hT γ r gx e W tk σ Hs H Q tS.sub tS.se (kk Hs tS)
  | vw =>
    have hv : (ev Φ (γ.map S2.vwL) false ir).bind (fun r => if r.na then some (γ, r) else none) = some (γ1, r) := hv
    cases e : ev Φ (γ.map S2.vwL) false ir with
    | none => rw [e] at hv; cases hv
    | some r' =>
      rw [e] at hv
      have hv : (if r'.na then some (γ, r') else none) = some (γ1, r) := hv
      split at hv
      next hn =>
        cases hv
        exact hT _ r (gx.map fun s C fs h => by cases s <;> first | exact h | cases h) e W tk σ _ H Q (view_same tS).2 (view_SE tS) (KR.view tS hn (kk Hs tS))
      next => cases hv
  | vo =>
    have hv : (ev Φ (γ.map S2.vwO) false ir).bind (fun r => if r.sc then some (γ, r) else none) = some (γ1, r) := hv
    cases e : ev Φ (γ.map S2.vwO) false ir with
    | none => rw [e] at hv; cases hv
    | some r' =>
      rw [e] at hv
      have hv : (if r'.sc then some (γ, r') else none) = some (γ1, r) := hv
      split at hv
      next hn =>
        cases hv
        have se := tS.view
        rw [List.map_map, show (Sl.vw ∘ S2.sl π) = (S2.sl π ∘ S2.vwO) from funext fun s => (vwO_sl s).symm, ← List.map_map] at se
        refine hT _ r (gx.map fun s C fs h => by cases s <;> first | exact h | cases h) e W tk σ H H Q (Same.refl _) se ?_
        cases r with
        | val d => exact fun v Hs' H' gr rr => kk Hs tS v Hs H' ⟨Same.refl _, gr.ext, tS.sub.trans gr.ext, fun _ _ h => h⟩ (rr.sc hn)
        | new ds => cases hn
        | exc C fs => cases hn
      next => cases hv
  | fz us =>
    have hv : (ev Φ (frz γ us) false ir).map (fun r => (frz γ us, r)) = some (γ1, r) := hv
    cases e : ev Φ (frz γ us) false ir with
    | none => rw [e] at hv; cases hv
    | some r' =>
      rw [e] at hv
      cases hv
      obtain ⟨Hs1, s1, t1⟩ := frz_ST (us := us) tS
      exact hT _ r gx.frz e W tk σ Hs1 H Q t1.sub t1.se (kk Hs1 t1)
/-- a test from a body's state -/
theorem evT_ok {c : IE} {ec : Expr} {b : Bool} {Q : Bool → Hp → Prop} (x : XO Φ S k M X) (gx : XG X π γ) (ok : okE S n M c ec = true) (h : ev Φ (γ.map S2.vwO) true c = some (.val (.bl b))) (tS : ST X.K Hs0 H0 Hr Hs H σ (γ.map (S2.sl π)))
    (kk : ∀ H', ST X.K Hs0 H0 Hr Hs H' σ (γ.map (S2.sl π)) → Q b H') : wT X ec σ H Q := by
  have se := tS.view
  rw [List.map_map, show (Sl.vw ∘ S2.sl π) = (S2.sl π ∘ S2.vwO) from funext fun s => (vwO_sl s).symm, ← List.map_map] at se
  have gx2 : XG X π (γ.map S2.vwO) := gx.map fun s C fs h => by cases s <;> first | exact h | cases h
  exact ((snd n M X x _ π gx2 c ec ok).2 _ h b rfl).1 σ H H Q (Same.refl _) se fun Hs' H' gr => kk H' (tS.scal gr)
end
end Ev
end

section
set_option Elab.async false
set_option linter.all false
set_option maxRecDepth 100000
set_option maxHeartbeats 4000000
set_option autoImplicit false
namespace Ev
open PySem PySem.Spec PyProof.Rows L2 Pd
/-! ### statements: the checks -/
def isL (M : Md) (i : Nat) (x : Str) : Bool := decide (M.N[i]? = some x) && (match M.sc.names.lookup x with
  | some .local => true
  | _ => false)
def isLc (M : Md) (i : Nat) (x : Str) : Bool := decide (M.N[i]? = some x) && locB M x
def isTup : Expr → Bool
  | .Tuple _ _ _ => true
  | .List _ _ => true
  | _ => false
def okS (S : Sta) : Nat → Md → IS → Stmt → Bool
  | 0, _, _, _ => false
  | n + 1, M, ir, st => match ir, st with
    | .asg v i (.lc elt tg k its cond), .Assign [.Name x px] (.ListComp y [⟨t, it, ifs, 0⟩] scope p) q => (isL M i x && (decide (M.sc.kind = .function) && ((px.line == p.line) && (!(scope.names.any fun (n, k) => n == x && (k == .local || k == .cell)) &&
      okE S (n + 1) M (.lc elt tg k its cond) (.ListComp y [⟨t, it, ifs, 0⟩] scope p))))) || (isLc M i x && (decide (M.sc.names.lookup x = some .cell) && okE S (n + 1) M (.lc elt tg k its cond) (.ListComp y [⟨t, it, ifs, 0⟩] scope p)))
    | .asg v i e, .Assign [.Name x px] y q => isLc M i x && (!isComp y && okE S n M e y)
    | .asgs v tg e, .Assign [t] y q => M.calm && (okGs M tg t && (isTup t && (!isTup y && (!isComp y && okE S n M e y))))
    | .seti v i ix e, .Assign [.Subscript (.Name x px) b pb] y q => isN M i x && (plainIx b && (okE S n M ix b && okE S n M e y))
    | .app v i e, .Expr (.Call (.Attribute (.Name x px) m ap) [y] [] p) q => isN M i x && (decide (m = ("append" : Str)) && (decide (p = q) && ((ap.endLine == p.line) && okE S n M e y)))
    | .fld v f e, .Assign [.Attribute (.Name x px) g pa] y q => isN M 0 x && (decide (f = g) && (!isComp y && okE S n M e y))
    | .ret v e, .Return (some y) q => okE S n M e y
    | .reto i, .Return (some (.Name x px)) q => isN M i x
    | .retN, .Return none q => true
    | .ite c a b, .If y s t q => okE S n M c y && (all2 (okS S n M) a s && all2 (okS S n M) b t)
    | .for us tg k its body, .For t it s [] q => M.calm && (okGs M tg t && (okIt (okE S n M) S M k its it && ((decide (k ≠ .en) || decide (tg.length = 2)) && all2 (okS S n M) body s)))
    | .raise v C e, .Raise (some (.Call (.Name x px) [y] [] p)) none q => M.calm && (decide (S.ename C = some x) && (glB M x && (plainN x && okE S n M e y)))
    | .exp v e, .Expr y q => !isComp y && okE S n M e y
    | .try body C i suite, .Try b [.ExceptHandler (some (.Name x px)) (some nm) (b0 :: su) _] [] [] _ => M.calm && (decide (S.ename C = some x) && (glB M x && (plainN x && (isL M i nm && (all2 (okS S n M) body b && all2 (okS S n { M with calm := false }) suite (b0 :: su))))))
    | .pass, .Pass _ => true
    | .brk, .Break _ => true
    | .cont, .Continue _ => true
    | _, _ => false
/-! ### what is wanted of a statement -/
def RO (π : Pt) (o : Out) : Rs where
  nx := fun g => ∃ γ, o = .nx γ ∧ g = γ.map (S2.sl π)
  rt := fun d => o = .rt d
  rn := fun ds => o = .rn ds
  bk := fun g => ∃ γ, o = .bk γ ∧ g = γ.map (S2.sl π)
  ct := fun g => ∃ γ, o = .ct γ ∧ g = γ.map (S2.sl π)
  xs := fun C fs g => ∃ γ, o = .xc C fs γ ∧ g = γ.map (S2.sl π)
section
variable {Φ : Phi} {S : Sta} {k n : Nat} {M : Md} {X : Cx} {γ γ1 : List S2} {π : Pt} {e : IE} {y : Expr} {p q : Pos} {o : Out} {v : Vw}
theorem swaps_no {y : Expr} (h : isComp y = false) {t : Option Expr} {l : Nat} {env : Env} : swapsWith y t l env = pure false := by
  cases y <;> first | rfl | cases h
theorem swaps_sub {y : Expr} {a b : Expr} {pb : Pos} {l : Nat} {env : Env} : swapsWith y (some (.Subscript a b pb)) l env = pure false := by
  cases y <;> rfl
theorem isL_ok (x : XO Φ S k M X) {i : Nat} {nm : Str} (h : isL M i nm = true) : X.N[i]? = some nm ∧ X.env.scope.names.lookup nm = some .local := by
  obtain ⟨h1, h2⟩ := ba h
  exact ⟨by rw [x.N]; exact of_decide_eq_true h1, loc_ok x h2⟩
def HR (M : Md) (X : Cx) : Prop := (∀ n, X.fn n = true) ∧ (M.calm = true → X.stack = X.env :: X.outer ∧ X.env.frame = some X.env.locals)
theorem isLc_ok (x : XO Φ S k M X) {i : Nat} {nm : Str} (h : isLc M i nm = true) : X.N[i]? = some nm ∧ L2.Loc X.env.scope nm := by
  obtain ⟨h1, h2⟩ := ba h
  exact ⟨by rw [x.N]; exact of_decide_eq_true h1, locS_ok x h2⟩
theorem frz_own {i : Nat} {ds : List D} : ∀ {us : List Nat} {γ : List S2}, (frz γ us)[i]? = some (.ow ds) → γ[i]? = some (.ow ds)
  | [], _, h => h
  | u :: us, γ, h => by
    unfold frz at h
    split at h
    next ds' e =>
      have z := frz_own h
      by_cases q : u = i
      · subst q
        have y := set_self_of z
        cases y
      · rwa [List.getElem?_set_ne q] at z
    next => exact frz_own h
theorem evP_cases {r : RR} (hv : evP Φ γ v e = some (γ1, r)) : γ1 = γ ∨ ∃ us, γ1 = frz γ us := by
  cases v with
  | pl =>
    have hv : (ev Φ γ false e).map (fun r => (γ, r)) = some (γ1, r) := hv
    cases q : ev Φ γ false e <;> rw [q] at hv <;> cases hv
    exact .inl rfl
  | vw =>
    have hv : (ev Φ (γ.map S2.vwL) false e).bind (fun r => if r.na then some (γ, r) else none) = some (γ1, r) := hv
    cases q : ev Φ (γ.map S2.vwL) false e with
    | none => rw [q] at hv; cases hv
    | some r' =>
      rw [q] at hv
      have hv : (if r'.na then some (γ, r') else none) = some (γ1, r) := hv
      split at hv <;> cases hv
      exact .inl rfl
  | vo =>
    have hv : (ev Φ (γ.map S2.vwO) false e).bind (fun r => if r.sc then some (γ, r) else none) = some (γ1, r) := hv
    cases q : ev Φ (γ.map S2.vwO) false e with
    | none => rw [q] at hv; cases hv
    | some r' =>
      rw [q] at hv
      have hv : (if r'.sc then some (γ, r') else none) = some (γ1, r) := hv
      split at hv <;> cases hv
      exact .inl rfl
  | fz us =>
    have hv : (ev Φ (frz γ us) false e).map (fun r => (frz γ us, r)) = some (γ1, r) := hv
    cases q : ev Φ (frz γ us) false e <;> rw [q] at hv <;> cases hv
    exact .inr ⟨us, rfl⟩
theorem own_evP {r : RR} {i : Nat} {ds : List D} (hv : evP Φ γ v e = some (γ1, r)) (h : γ1[i]? = some (.ow ds)) : γ[i]? = some (.ow ds) := by
  rcases evP_cases hv with rfl | ⟨us, rfl⟩
  · exact h
  · exact frz_own h
theorem gx_evP {r : RR} (gx : XG X π γ) (hv : evP Φ γ v e = some (γ1, r)) : XG X π γ1 := by
  rcases evP_cases hv with rfl | ⟨us, rfl⟩
  · exact gx
  · exact gx.frz
/-- e's reading, for evP_ok -/
theorem hT_of (x : XO Φ S k M X) (ok : okE S n M e y = true) : ∀ γ' r, XG X π γ' → ev Φ γ' false e = some r → TGr X (γ'.map (S2.sl π)) (wE X y) r := fun γ' r gx h => (snd n M X x γ' π gx e y ok).1 r h
/-- the shape of the proofs: an expression, then what follows -/
theorem go {t : TE} {R : Rs} {Hs0 H0 Hr : Hp} {E : Ends} (F : Fit X Hs0 H0 Hr R E) {σ : L2.St} {Hs H : Hp} (tS : ST X.K Hs0 H0 Hr Hs H σ (γ.map (S2.sl π))) {Q : VK} {r : RR}
    (hT : ∀ γ' r, XG X π γ' → ev Φ γ' false e = some r → TGr X (γ'.map (S2.sl π)) t r) (gx : XG X π γ) (hv : evP Φ γ v e = some (γ1, r)) (hx : ∀ C fs, r = .exc C fs → R.xs C fs (γ1.map (S2.sl π)))
    (kv : ∀ d v Hs' H', r = .val d → ST X.K Hs0 H0 Hr Hs' H' σ (γ1.map (S2.sl π)) → Rep X.K Hs' v d → Q v H')
    (kn : ∀ ds Hs1 l vs Hs' H', r = .new ds → ST X.K Hs0 H0 Hr Hs1 H σ (γ1.map (S2.sl π)) → Gr Hs1 H Hs' H' → H l = none → Hs' l = none → H' l = some (.lst vs) → Reps X.K Hs' vs ds → Q (.ref l) H') : t σ H Q := by
  cases r with
  | val d => exact evP_ok hT gx hv tS takes0 fun Hs1 t1 => fun v Hs' H' gr rr => kv d v Hs' H' rfl (t1.go gr) rr
  | new ds => exact evP_ok hT gx hv tS takes0 fun Hs1 t1 => fun l vs Hs' H' gr h1 h2 h3 rr => kn ds Hs1 l vs Hs' H' rfl t1 gr h1 h2 h3 rr
  | exc C fs =>
    rcases F.xs with no | ⟨W, tk, hW⟩
    · exact absurd (hx C fs rfl) (no _ _ _)
    · exact evP_ok hT gx hv tS tk fun Hs1 t1 => fun dd us Hs' H' gr h1 h2 => hW C fs dd us _ σ Hs' H' (t1.go gr) h1 h2 (hx C fs rfl)
/-- a slot set by an assignment's reading -/
theorem asg_go {t : TE} {i : Nat} {Hs0 H0 Hr : Hp} {E : Ends} {r : RR} (F : Fit X Hs0 H0 Hr (RO π o) E) {σ : L2.St} {Hs H : Hp} (tS : ST X.K Hs0 H0 Hr Hs H σ (γ.map (S2.sl π)))
    (hT : ∀ γ' r, XG X π γ' → ev Φ γ' false e = some r → TGr X (γ'.map (S2.sl π)) t r) (gx : XG X π γ) (hv : evP Φ γ v e = some (γ1, r)) (ho : setS i γ1 r = some o) : t σ H fun w H1 => E.nx (σ.set i (some w)) H1 := by
  refine go F tS hT gx hv (fun C fs e => ?_) (fun d w Hs' H' e t1 rr => ?_) fun ds Hs1 l vs Hs' H' e t1 gr h1 h2 h3 rr => ?_
  · subst e
    cases ho
    exact ⟨_, rfl, rfl⟩
  · subst e
    cases ho
    exact F.nx _ _ Hs' H' (t1.set rr) ⟨_, rfl, by rw [map_set]; rfl⟩
  · subst e
    cases ho
    exact F.nx _ _ Hs' H' (t1.setO gr h1 h2 h3 (repO_l rr)) ⟨_, rfl, by rw [map_set]; rfl⟩
theorem q_asgC (x : XO Φ S k M X) (hr : HR M X) (gx : XG X π γ) {i : Nat} {nm : Str} (h1 : isLc M i nm = true) (h2 : swapsWith y (some (.Name nm p)) q.line X.env = pure false) (h3 : okE S n M e y = true) (h : evS Φ (.asg v i e) γ = some o) : S1 X (.Assign [.Name nm p] y q) (γ.map (S2.sl π)) (RO π o) := fun Hs0 H0 Hr E F σ Hs H tS => by
  obtain ⟨q1, q2⟩ := isLc_ok x h1
  have h' : (match evP Φ γ v e with
    | some (γ1, r) => setS i γ1 r
    | none => none) = some o := by rw [evS] at h; exact h
  cases hv : evP Φ γ v e with
  | none => rw [hv] at h'; cases h'
  | some w =>
    obtain ⟨γ1, r⟩ := w
    rw [hv] at h'
    exact wS_of (ps_set x.nd q1 q2 (wE_ok y) h2 (.inl (hr.1 _))) (asg_go F tS (hT_of x h3) gx hv h')
theorem q_asg (x : XO Φ S k M X) (hr : HR M X) (gx : XG X π γ) {i : Nat} {nm : Str} (h1 : isLc M i nm = true) (h2 : isComp y = false) (h3 : okE S n M e y = true) (h : evS Φ (.asg v i e) γ = some o) : S1 X (.Assign [.Name nm p] y q) (γ.map (S2.sl π)) (RO π o) := fun Hs0 H0 Hr E F σ Hs H tS => by
  obtain ⟨q1, q2⟩ := isLc_ok x h1
  have h' : (match evP Φ γ v e with
    | some (γ1, r) => setS i γ1 r
    | none => none) = some o := by rw [evS] at h; exact h
  cases hv : evP Φ γ v e with
  | none => rw [hv] at h'; cases h'
  | some w =>
    obtain ⟨γ1, r⟩ := w
    rw [hv] at h'
    exact wS_of (ps_set x.nd q1 q2 (wE_ok y) (swaps_no h2) (.inl (hr.1 _))) (asg_go F tS (hT_of x h3) gx hv h')
theorem q_ret (x : XO Φ S k M X) (gx : XG X π γ) (h3 : okE S n M e y = true) (h : evS Φ (.ret v e) γ = some o) : S1 X (.Return (some y) q) (γ.map (S2.sl π)) (RO π o) := fun Hs0 H0 Hr E F σ Hs H tS => by
  have h' : (match evP Φ γ v e with
    | some (_, .val d) => some (.rt d)
    | some (_, .new ds) => some (.rn ds)
    | some (γ1, .exc C fs) => some (.xc C fs γ1)
    | none => none) = some o := by rw [evS] at h; exact h
  cases hv : evP Φ γ v e with
  | none => rw [hv] at h'; cases h'
  | some w =>
    obtain ⟨γ1, r⟩ := w
    rw [hv] at h'
    refine wS_of (ps_ret (wE_ok y)) (go F tS (hT_of x h3) gx hv (fun C fs e => ?_) (fun d w Hs' H' e t1 rr => ?_) fun ds Hs1 l vs Hs' H' e t1 gr h1 h2 h3 rr => ?_)
    · subst e; cases h'; exact ⟨_, rfl, rfl⟩
    · subst e; cases h'
      exact F.rt d w Hs' H' t1.gr rr rfl
    · subst e; cases h'
      exact F.rn ds l vs Hs' H' (t1.gr.trans gr) (t1.gr.ext.free h1) h2 h3 rr rfl
theorem q_exp (x : XO Φ S k M X) (gx : XG X π γ) (h2 : isComp y = false) (h3 : okE S n M e y = true) (h : evS Φ (.exp v e) γ = some o) : S1 X (.Expr y q) (γ.map (S2.sl π)) (RO π o) := fun Hs0 H0 Hr E F σ Hs H tS => by
  have h' : (match evP Φ γ v e with
    | some (γ1, .exc C fs) => some (.xc C fs γ1)
    | some (γ1, _) => some (.nx γ1)
    | none => none) = some o := by rw [evS] at h; exact h
  cases hv : evP Φ γ v e with
  | none => rw [hv] at h'; cases h'
  | some w =>
    obtain ⟨γ1, r⟩ := w
    rw [hv] at h'
    refine wS_of (ps_expr (wE_ok y) (swaps_no h2)) (go F tS (hT_of x h3) gx hv (fun C fs e => ?_) (fun d w Hs' H' e t1 rr => ?_) fun ds Hs1 l vs Hs' H' e t1 gr h1 h2 h3 rr => ?_)
    · subst e; cases h'; exact ⟨_, rfl, rfl⟩
    · subst e; cases h'
      exact F.nx _ _ Hs' H' t1 ⟨_, rfl, rfl⟩
    · subst e; cases h'
      exact F.nx _ _ Hs' H' (t1.go gr) ⟨_, rfl, rfl⟩
theorem q_reto (x : XO Φ S k M X) {i : Nat} {nm : Str} (hn : isN M i nm = true) (h : evS Φ (.reto i) γ = some o) : S1 X (.Return (some (.Name nm p)) q) (γ.map (S2.sl π)) (RO π o) := by
  obtain ⟨q1, q2, q3, q4⟩ := visB_ok x hn
  have h' : (match γ[i]? with
    | some (.ow ds) => some (Out.rn ds)
    | _ => none) = some o := by rw [evS] at h; exact h
  split at h'
  next ds e =>
    cases h'
    exact s1_retO i (map_at e) rfl q1 q2 q3 q4
  next => cases h'
theorem q_app (x : XO Φ S k M X) (gx : XG X π γ) {i : Nat} {nm : Str} {ap : Pos} (hn : isN M i nm = true) (hl : (ap.endLine == q.line) = true) (h3 : okE S n M e y = true) (h : evS Φ (.app v i e) γ = some o) :
    S1 X (.Expr (.Call (.Attribute (.Name nm p) "append" ap) [y] [] q) q) (γ.map (S2.sl π)) (RO π o) := fun Hs0 H0 Hr E F σ Hs H tS => by
  obtain ⟨q1, q2, q3, q4⟩ := visB_ok x hn
  have h' : (match evP Φ γ v e with
    | some (γ1, r) => (match RR.d? (some r), γ1[i]? with
      | some d, some (.ow ds) => if ds.length < 100000 then some (Out.nx (γ1.set i (.ow (ds ++ [d])))) else none
      | _, _ => none)
    | _ => none) = some o := by rw [evS] at h; exact h
  cases hv : evP Φ γ v e with
  | none => rw [hv] at h'; cases h'
  | some w =>
    obtain ⟨γ1, r⟩ := w
    rw [hv] at h'
    dsimp only at h'
    have hst : starEach [y] X.env = (false, eval y X.env) :: starEach [] X.env := star_cons (ok_nostar h3)
    have hfew : ((backTo q (starEach [y] X.env)).all (fun x => !x.1) && (backToKw q (keywordEach [] X.env)).all (fun x => x.1.isSome) && decide (([y] : List Expr).length + ([] : List Keyword).length + (if ([] : List Keyword).isEmpty then 0 else 1) < 30)) = true := by
      rw [hst]; rfl
    refine wS_of (ps_expr (pe_bm PySem.F.plainAttrs_list PySem.F.slot_list_append PySem.F.type_list_append mt_append (pe_var q1 q2 q3 q4) (L2.pa_cons (wE_ok y) L2.pa_nil hst) rfl hfew hl hst rfl) rfl) ?_
    -- the list's address stands in its slot all along
    have hi : ∃ ds, γ1[i]? = some (.ow ds) := by
      split at h'
      next d ds e1 e2 => exact ⟨ds, e2⟩
      next => cases h'
    obtain ⟨ds, e2⟩ := hi
    have e0 := own_evP hv e2
    obtain ⟨l, ob, a, b, c, dd, vs, rfl, rr0⟩ := tS.own i _ (map_at e0) rfl
    have fin : ∀ d w Hs' H', RR.d? (some r) = some d → ST X.K Hs0 H0 Hr Hs' H' σ (γ1.map (S2.sl π)) → Rep X.K Hs' w d → ∃ (l2 : Addr) (xs : List V) (w2 : V), (V.ref l = V.ref l2) ∧ [w] = [w2] ∧ H' l2 = some (.lst xs) ∧ xs.length < sizeLine ∧ E.nx σ (upd H' l2 (.lst (xs ++ [w2]))) := fun d w Hs' H' hd t1 rw' => by
      obtain ⟨l', ob', a', b', c', dd', vs', rfl, rr'⟩ := t1.own i _ (map_at e2) rfl
      rw [a] at a'
      cases a'
      rw [hd, e2] at h'
      dsimp only at h'
      split at h'
      next hz =>
        cases h'
        refine ⟨l, vs', w, rfl, rfl, b', sz_lt (by rw [rr'.length]; exact hz), ?_⟩
        exact F.nx _ _ Hs' _ (t1.upd (map_at e2) rfl a (repO_l (rr'.append (.cons rw' .nil)))) ⟨_, rfl, by rw [map_set]; rfl⟩
      next => cases h'
    refine ⟨.ref l, a, .inl ⟨rfl, _, SqL.of b⟩, ?_⟩
    refine go F tS (hT_of x h3) gx hv (fun C fs e => ?_) (fun d w Hs' H' e t1 rr => ?_) fun ds Hs1 l2 vs Hs' H' e t1 gr h1 h2 h3 rr => ?_
    · subst e; cases h'
    · subst e
      exact fin d w Hs' H' rfl t1 rr
    · subst e
      obtain ⟨g', r'⟩ := share t1.sub gr h1 h2 h3 rr
      exact fin _ _ _ H' rfl (t1.go g') r'
/-- x[j] = e -/
theorem q_seti (x : XO Φ S k M X) (gx : XG X π γ) {i : Nat} {nm : Str} {ix : IE} {b : Expr} {pb : Pos} (hn : isN M i nm = true) (hp : plainIx b = true) (hb : okE S n M ix b = true) (h3 : okE S n M e y = true) (h : evS Φ (.seti v i ix e) γ = some o) :
    S1 X (.Assign [.Subscript (.Name nm p) b pb] y q) (γ.map (S2.sl π)) (RO π o) := fun Hs0 H0 Hr E F σ Hs H tS => by
  obtain ⟨q1, q2, q3, q4⟩ := visB_ok x hn
  have h' : (match evP Φ γ v e with
    | some (γ1, r) => (match RR.d? (some r), RR.d? (ev Φ (γ1.map S2.vwO) false ix), γ1[i]? with
      | some d, some (.int j), some (.ow ds) => (ixN ds.length j).map fun n => Out.nx (γ1.set i (.ow (ds.set n d)))
      | _, _, _ => none)
    | _ => none) = some o := by rw [evS] at h; exact h
  cases hv : evP Φ γ v e with
  | none => rw [hv] at h'; cases h'
  | some w =>
    obtain ⟨γ1, r⟩ := w
    rw [hv] at h'
    dsimp only at h'
    have gx1 : XG X π γ1 := gx_evP gx hv
    have ha : ∀ v, assign (.Subscript (.Name nm p) b pb) X.env v = (do
      let ov ← holding [v] (eval (.Name nm p) X.env)
      let iv ← holding [v, ov] (eval b X.env)
      standAt pb
      holding [v, ov, iv] (setItem ov iv v)
      release [v, ov, iv] []) := by
      intro v
      cases b <;> first | rfl | cases hp
    refine wS_of (ps_asg (wE_ok y) (pg_sub (pe_var q1 q2 q3 q4) (wE_ok b) set_list ha) (show swapsWithSole [.Subscript (.Name nm p) b pb] y q.line X.env = pure false from (by cases y <;> rfl)) (show swappedStores [.Subscript (.Name nm p) b pb] y X.env = pure none from (by cases y <;> rfl)) rfl) ?_
    have fin : ∀ d w Hs' H', RR.d? (some r) = some d → ST X.K Hs0 H0 Hr Hs' H' σ (γ1.map (S2.sl π)) → Rep X.K Hs' w d → ∃ l : V, σ[i]? = some (some l) ∧ wE X b σ H' fun u H2 => ∃ (l2 : Addr) (xs : List V) (ii : Int) (j : Nat), l = .ref l2 ∧ u = .int ii ∧ H2 l2 = some (.lst xs) ∧ ixN xs.length ii = some j ∧ E.nx σ (upd H2 l2 (.lst (xs.set j w))) := fun d w Hs' H' hd t1 rw' => by
      rw [hd] at h'
      cases qi : RR.d? (ev Φ (γ1.map S2.vwO) false ix) with
      | none => rw [qi] at h'; cases h'
      | some di =>
        rw [qi] at h'
        cases qo : γ1[i]? with
        | none => rw [qo] at h'; cases di <;> cases h'
        | some so =>
          rw [qo] at h'
          split at h'
          next d2 j ds z1 z2 z3 =>
            cases z1
            cases z2
            cases z3
            obtain ⟨l', ob', a', b', c', dd', vs', rfl, rr'⟩ := t1.own i _ (map_at qo) rfl
            refine ⟨_, a', ?_⟩
            have se := t1.view
            rw [List.map_map, show (Sl.vw ∘ S2.sl π) = (S2.sl π ∘ S2.vwO) from funext fun s => (vwO_sl s).symm, ← List.map_map] at se
            have gx2 : XG X π (γ1.map S2.vwO) := gx1.map fun s C fs h => by cases s <;> first | exact h | cases h
            have pdx : PD X ((γ1.map S2.vwO).map (S2.sl π)) b (.int j) := d_of qi fun ra hra => (snd n M X x _ π gx2 ix b hb).1 ra hra
            refine pdx σ H' H' _ (Same.refl _) se fun u Hs2 H2 g2 r2 => ?_
            cases r2
            have t2 := t1.scal g2
            obtain ⟨l3, ob3, a3, b3, c3, dd3, vs3, rfl, rr3⟩ := t2.own i _ (map_at qo) rfl
            rw [a'] at a3
            cases a3
            cases qn : ixN ds.length j with
            | none => rw [qn] at h'; cases h'
            | some nn =>
              rw [qn] at h'
              cases h'
              refine ⟨l', vs3, j, nn, rfl, rfl, b3, by rw [rr3.length]; exact qn, ?_⟩
              exact F.nx _ _ Hs' _ (t2.upd (map_at qo) rfl a' (repO_l (rr3.set rw' nn))) ⟨_, rfl, by rw [map_set]; rfl⟩
          next => cases h'
    refine go F tS (hT_of x h3) gx hv (fun C fs e => ?_) (fun d w Hs' H' e t1 rr => ?_) fun ds Hs1 l2 vs Hs' H' e t1 gr h1 h2 h3 rr => ?_
    · subst e; cases h'
    · subst e
      exact fin d w Hs' H' rfl t1 rr
    · subst e
      obtain ⟨g', r'⟩ := share t1.sub gr h1 h2 h3 rr
      exact fin _ _ _ H' rfl (t1.go g') r'
theorem q_fld (x : XO Φ S k M X) (gx : XG X π γ) {nm : Str} {f : Str} {pa : Pos} (hn : isN M 0 nm = true) (hc : isComp y = false) (h3 : okE S n M e y = true) (h : evS Φ (.fld v f e) γ = some o) :
    S1 X (.Assign [.Attribute (.Name nm p) f pa] y q) (γ.map (S2.sl π)) (RO π o) := fun Hs0 H0 Hr E F σ Hs H tS => by
  obtain ⟨q1, q2, q3, q4⟩ := visB_ok x hn
  have h' : (match evP Φ γ v e with
    | some (γ1, r) => (match r, RR.d? (some r), (γ1[0]? : Option S2) with
      | .exc C fs, _, _ => some (Out.xc C fs γ1)
      | _, some d, some (.ob C fs) => if fs.length < 1000 ∧ Φ.fld C f = true then some (Out.nx (γ1.set 0 (.ob C (putFD f d fs)))) else none
      | _, _, _ => none)
    | _ => none) = some o := by rw [evS] at h; exact h
  cases hv : evP Φ γ v e with
  | none => rw [hv] at h'; cases h'
  | some w =>
    obtain ⟨γ1, r⟩ := w
    rw [hv] at h'
    dsimp only at h'
    refine wS_of (ps_fld (pe_var q1 q2 q3 q4) (wE_ok y) (swaps_no hc)) ?_
    have fin : ∀ d w Hs' H', RR.d? (some r) = some d → ST X.K Hs0 H0 Hr Hs' H' σ (γ1.map (S2.sl π)) → Rep X.K Hs' w d → ∃ v0 : V, σ[0]? = some (some v0) ∧ ∃ (a C dx : Addr) (fs : List (Str × V)), v0 = .ref a ∧ H' a = some (.ins C dx fs) ∧ Cls X.K C ∧ NoAttr X.K C f ∧ fs.length < 1000 ∧ E.nx σ (upd H' a (.ins C dx (putF f w fs))) := fun d w Hs' H' hd t1 rw' => by
      have h2 : (match RR.d? (some r), (γ1[0]? : Option S2) with
        | some d, some (.ob C fs) => if fs.length < 1000 ∧ Φ.fld C f = true then some (Out.nx (γ1.set 0 (.ob C (putFD f d fs)))) else none
        | _, _ => none) = some o := by
        cases r with
        | exc C fs => cases hd
        | val d' => rw [← h']; cases γ1[0]? with
          | none => rfl
          | some s => cases s <;> rfl
        | new d' => rw [← h']; cases γ1[0]? with
          | none => rfl
          | some s => cases s <;> rfl
      rw [hd] at h2
      cases qo : γ1[0]? with
      | none => rw [qo] at h2; cases h2
      | some so =>
        rw [qo] at h2
        cases so with
        | ob C fs =>
          have h2 : (if fs.length < 1000 ∧ Φ.fld C f = true then some (Out.nx (γ1.set 0 (.ob C (putFD f d fs)))) else none) = some o := h2
          split at h2
          next hz =>
            cases h2
            obtain ⟨l', ob', a', b', c', dd', hpl, dx, vs', rfl, rr'⟩ := t1.own 0 _ (map_at qo) rfl
            obtain ⟨c1, c2⟩ := x.g.at_ C f hz.2
            refine ⟨_, a', l', C, dx, vs', rfl, b', c1, c2, by rw [rr'.length]; exact hz.1, ?_⟩
            have r0 : RepO X.K Hs' l' (.ins C dx (putF f w vs')) (Sl.ob π.p C (putFD f d fs)) := ⟨hpl, dx, _, rfl, rr'.put rw'⟩
            exact F.nx _ _ Hs' _ (t1.upd (map_at qo) rfl a' r0) ⟨_, rfl, by rw [map_set]; rfl⟩
          next => cases h2
        | _ => cases h2
    refine go F tS (hT_of x h3) gx hv (fun C fs e => ?_) (fun d w Hs' H' e t1 rr => ?_) fun ds Hs1 l2 vs Hs' H' e t1 gr h1 h2 h3 rr => ?_
    · subst e; cases h'; exact ⟨_, rfl, rfl⟩
    · subst e
      exact fin d w Hs' H' rfl t1 rr
    · subst e
      obtain ⟨g', r'⟩ := share t1.sub gr h1 h2 h3 rr
      exact fin _ _ _ H' rfl (t1.go g') r'
end
end Ev
end

section
set_option Elab.async false
set_option linter.all false
set_option maxRecDepth 100000
set_option maxHeartbeats 4000000
set_option autoImplicit false
namespace Ev
open PySem PySem.Spec PyProof.Rows L2 Pd
/-! ### caught errors stay in their slots -/
def okSs (S : Sta) (n : Nat) (M : Md) (is : List IS) (sts : List Stmt) : Bool := all2 (okS S n M) is sts
def XS (γ γ' : List S2) : Prop := ∀ (i : Nat) C fs, γ'[i]? = some (S2.ex C fs) → γ[i]? = some (S2.ex C fs)
def XSo (γ : List S2) : Out → Prop
  | .nx γ' => XS γ γ'
  | .bk γ' => XS γ γ'
  | .ct γ' => XS γ γ'
  | .xc _ _ γ' => XS γ γ'
  | _ => True
theorem XS.refl (γ : List S2) : XS γ γ := fun _ _ _ h => h
theorem XS.trans {a b c : List S2} (h : XS a b) (h2 : XS b c) : XS a c := fun i C fs q => h i C fs (h2 i C fs q)
theorem XSo.trans {a b : List S2} (h : XS a b) : ∀ {o : Out}, XSo b o → XSo a o
  | .nx _, q => h.trans q
  | .bk _, q => h.trans q
  | .ct _, q => h.trans q
  | .xc _ _ _, q => h.trans q
  | .rt _, _ => trivial
  | .rn _, _ => trivial
theorem XS.set {γ γ' : List S2} (h : XS γ γ') {j : Nat} {s : S2} (hs : ∀ C fs, s ≠ .ex C fs) : XS γ (γ'.set j s) := fun i C fs e => by
  by_cases q : j = i
  · subst q
    exact absurd (set_self_of e) (hs C fs)
  · rw [List.getElem?_set_ne q] at e
    exact h i C fs e
theorem XS.frz {γ : List S2} : ∀ {us : List Nat} {γ' : List S2}, XS γ γ' → XS γ (Ev.frz γ' us)
  | [], _, h => h
  | u :: us, γ', h => by
    unfold Ev.frz
    split
    · exact XS.frz (h.set fun _ _ z => by cases z)
    · exact XS.frz h
theorem XS.put {γ γ' γ2 : List S2} {tg : List Nat} {d : D} (h : XS γ γ') (hp : put tg d γ' = some γ2) : XS γ γ2 := by
  unfold Ev.put at hp
  split at hp
  · cases hp; exact h.set fun _ _ z => by cases z
  · cases hp; exact (h.set fun _ _ z => by cases z).set fun _ _ z => by cases z
  · cases hp
theorem XS.gx {X : Cx} {π : Pt} {γ γ' : List S2} (h : XS γ γ') (g : XG X π γ) : XG X π γ' := fun i C fs e => g i C fs (h i C fs e)
section
variable {Φ : Phi} {S : Sta} {k n : Nat} {M : Md}
theorem XS.evP {γ γ1 : List S2} {v : Vw} {e : IE} {r : RR} (hv : evP Φ γ v e = some (γ1, r)) : XS γ γ1 := by
  rcases evP_cases hv with rfl | ⟨us, rfl⟩
  · exact XS.refl _
  · exact (XS.refl _).frz
def HX (Φ : Phi) (S : Sta) (n : Nat) : Prop := ∀ (M : Md) (ir : IS) (st : Stmt) (γ : List S2) (o : Out), okS S n M ir st = true → evS Φ ir γ = some o → XSo γ o
theorem xs_block (ih : HX Φ S n) : ∀ {is : List IS} {sts : List Stmt} {γ : List S2} {o : Out}, okSs S n M is sts = true → evSs Φ is γ = some o → XSo γ o
  | [], [], γ, o, _, h => by
    have h : some (Out.nx γ) = some o := by rw [evSs] at h; exact h
    cases h
    exact XS.refl _
  | i :: is, st :: sts, γ, o, ok, h => by
    obtain ⟨o1, o2⟩ := ba ok
    have h : Out.then (evS Φ i γ) (fun γ1 => evSs Φ is γ1) = some o := by rw [evSs] at h; exact h
    cases q : evS Φ i γ with
    | none => rw [q] at h; cases h
    | some o' =>
      rw [q] at h
      have z := ih M i st γ o' o1 q
      cases o' with
      | nx γ' => exact XSo.trans z (xs_block ih o2 h)
      | _ => cases h; exact z
  | [], _ :: _, _, _, ok, _ => by cases ok
  | _ :: _, [], _, _, ok, _ => by cases ok
theorem xs_for {put' : D → List S2 → Option (List S2)} {f : List S2 → Option Out} (hp : ∀ d γ γ2, put' d γ = some γ2 → XS γ γ2) (hf : ∀ γ o, f γ = some o → XSo γ o) : ∀ {items : List D} {γ : List S2} {o : Out}, forGo put' f items γ = some o → XSo γ o
  | [], γ, o, h => by cases h; exact XS.refl _
  | d :: r, γ, o, h => by
    have h : (match put' d γ with
      | none => none
      | some γ1 => match f γ1 with
        | some (.nx γ2) => forGo put' f r γ2
        | some (.ct γ2) => forGo put' f r γ2
        | some (.bk γ2) => some (.nx γ2)
        | o => o) = some o := h
    cases qp : put' d γ with
    | none => rw [qp] at h; cases h
    | some γ1 =>
      rw [qp] at h
      have z := hp d γ γ1 qp
      dsimp only at h
      cases qf : f γ1 with
      | none => rw [qf] at h; cases h
      | some o1 =>
        rw [qf] at h
        have z1 := hf γ1 o1 qf
        cases o1 with
        | nx γ2 => exact XSo.trans (z.trans z1) (xs_for hp hf h)
        | ct γ2 => exact XSo.trans (z.trans z1) (xs_for hp hf h)
        | bk γ2 => cases h; exact z.trans z1
        | rt d => cases h; trivial
        | rn d => cases h; trivial
        | xc C fs γ2 => cases h; exact z.trans z1
theorem xs_step (ih : HX Φ S n) : HX Φ S (n + 1) := by
  intro M ir st γ o ok h
  have asg : ∀ {v i e}, evS Φ (.asg v i e) γ = some o → XSo γ o := fun {v i e} h => by
    have h' : (match Ev.evP Φ γ v e with
      | some (γ1, r) => setS i γ1 r
      | none => none) = some o := by rw [evS] at h; exact h
    cases hv : Ev.evP Φ γ v e with
    | none => rw [hv] at h'; cases h'
    | some w =>
      obtain ⟨γ1, r⟩ := w
      rw [hv] at h'
      have z := XS.evP hv
      cases r with
      | val d => cases h'; exact z.set fun _ _ z => by cases z
      | new d => cases h'; exact z.set fun _ _ z => by cases z
      | exc C fs => cases h'; exact z
  unfold okS at ok
  split at ok
  · exact asg h
  · exact asg h
  · next v tg e t y q =>
    have h' : (match Ev.evP Φ γ v e with
      | some (γ1, .val d) => (Ev.put tg d γ1).map .nx
      | some (γ1, .exc C fs) => some (.xc C fs γ1)
      | _ => none) = some o := by rw [evS] at h; exact h
    cases hv : Ev.evP Φ γ v e with
    | none => rw [hv] at h'; cases h'
    | some w =>
      obtain ⟨γ1, r⟩ := w
      rw [hv] at h'
      have z := XS.evP hv
      cases r with
      | val d =>
        have h' : (Ev.put tg d γ1).map Out.nx = some o := h'
        cases qp : Ev.put tg d γ1 with
        | none => rw [qp] at h'; cases h'
        | some γ2 => rw [qp] at h'; cases h'; exact z.put qp
      | new d => cases h'
      | exc C fs => cases h'; exact z
  · next v i ix e _ _ _ _ _ _ =>
    have h' : (match Ev.evP Φ γ v e with
      | some (γ1, r) => (match RR.d? (some r), RR.d? (ev Φ (γ1.map S2.vwO) false ix), γ1[i]? with
        | some d, some (.int j), some (.ow ds) => (ixN ds.length j).map fun n => Out.nx (γ1.set i (.ow (ds.set n d)))
        | _, _, _ => none)
      | _ => none) = some o := by rw [evS] at h; exact h
    cases hv : Ev.evP Φ γ v e with
    | none => rw [hv] at h'; cases h'
    | some w =>
      obtain ⟨γ1, r⟩ := w
      rw [hv] at h'
      have z := XS.evP hv
      dsimp only at h'
      split at h'
      next d j ds _ _ _ =>
        cases qn : ixN ds.length j with
        | none => rw [qn] at h'; cases h'
        | some nn => rw [qn] at h'; cases h'; exact z.set fun _ _ z => by cases z
      next => cases h'
  · next v i e _ _ _ _ _ _ _ =>
    have h' : (match Ev.evP Φ γ v e with
      | some (γ1, r) => (match RR.d? (some r), γ1[i]? with
        | some d, some (.ow ds) => if ds.length < 100000 then some (Out.nx (γ1.set i (.ow (ds ++ [d])))) else none
        | _, _ => none)
      | _ => none) = some o := by rw [evS] at h; exact h
    cases hv : Ev.evP Φ γ v e with
    | none => rw [hv] at h'; cases h'
    | some w =>
      obtain ⟨γ1, r⟩ := w
      rw [hv] at h'
      have z := XS.evP hv
      dsimp only at h'
      split at h'
      · split at h'
        · cases h'; exact z.set fun _ _ z => by cases z
        · cases h'
      · cases h'
  · next v f e _ _ _ _ _ _ =>
    have h' : (match Ev.evP Φ γ v e with
      | some (γ1, r) => (match r, RR.d? (some r), (γ1[0]? : Option S2) with
        | .exc C fs, _, _ => some (Out.xc C fs γ1)
        | _, some d, some (.ob C fs) => if fs.length < 1000 ∧ Φ.fld C f = true then some (Out.nx (γ1.set 0 (.ob C (putFD f d fs)))) else none
        | _, _, _ => none)
      | _ => none) = some o := by rw [evS] at h; exact h
    cases hv : Ev.evP Φ γ v e with
    | none => rw [hv] at h'; cases h'
    | some w =>
      obtain ⟨γ1, r⟩ := w
      rw [hv] at h'
      have z := XS.evP hv
      dsimp only at h'
      split at h'
      · cases h'; exact z
      · split at h'
        · cases h'; exact z.set fun _ _ z => by cases z
        · cases h'
      · cases h'
  · next v e _ _ =>
    have h' : (match Ev.evP Φ γ v e with
      | some (_, .val d) => some (.rt d)
      | some (_, .new ds) => some (.rn ds)
      | some (γ1, .exc C fs) => some (.xc C fs γ1)
      | none => none) = some o := by rw [evS] at h; exact h
    cases hv : Ev.evP Φ γ v e with
    | none => rw [hv] at h'; cases h'
    | some w =>
      obtain ⟨γ1, r⟩ := w
      rw [hv] at h'
      have z := XS.evP hv
      cases r with
      | val d => cases h'; trivial
      | new d => cases h'; trivial
      | exc C fs => cases h'; exact z
  · next i _ _ _ =>
    have h' : (match γ[i]? with
      | some (.ow ds) => some (Out.rn ds)
      | _ => none) = some o := by rw [evS] at h; exact h
    split at h' <;> cases h'
    trivial
  · have h' : some (Out.rt .non) = some o := by rw [evS] at h; exact h
    cases h'
    trivial
  · next c a b y s t q =>
    obtain ⟨h1, h2⟩ := ba ok
    obtain ⟨h2, h3⟩ := ba h2
    have h' : (match ev Φ (γ.map S2.vwO) true c with
      | some (.val (.bl true)) => evSs Φ a γ
      | some (.val (.bl false)) => evSs Φ b γ
      | _ => none) = some o := by rw [evS] at h; exact h
    split at h'
    · exact xs_block ih h2 h'
    · exact xs_block ih h3 h'
    · cases h'
  · next us tg kk its body t it s q =>
    obtain ⟨_, h2⟩ := ba ok
    obtain ⟨_, h2⟩ := ba h2
    obtain ⟨_, h2⟩ := ba h2
    obtain ⟨_, h4⟩ := ba h2
    have h' : (match (evD Φ (Ev.frz γ us) its).bind (itms kk) with
      | some items => forGo (Ev.put tg) (fun γ1 => evSs Φ body γ1) items (Ev.frz γ us)
      | none => none) = some o := by rw [evS] at h; exact h
    split at h'
    · exact XSo.trans (XS.refl γ).frz (xs_for (fun d γ γ2 hp => (XS.refl γ).put hp) (fun γ o ho => xs_block ih h4 ho) h')
    · cases h'
  · next v C e x _ y _ _ =>
    have h' : (match Ev.evP Φ γ v e with
      | some (γ1, .val d) => (Φ.efld C).map fun f => Out.xc (Φ.ga C) [(f, d)] γ1
      | _ => none) = some o := by rw [evS] at h; exact h
    cases hv : Ev.evP Φ γ v e with
    | none => rw [hv] at h'; cases h'
    | some w =>
      obtain ⟨γ1, r⟩ := w
      rw [hv] at h'
      have z := XS.evP hv
      cases r with
      | val d =>
        have h' : (Φ.efld C).map (fun f => Out.xc (Φ.ga C) [(f, d)] γ1) = some o := h'
        cases qf : Φ.efld C with
        | none => rw [qf] at h'; cases h'
        | some f => rw [qf] at h'; cases h'; exact z
      | _ => cases h'
  · next v e _ _ =>
    have h' : (match Ev.evP Φ γ v e with
      | some (γ1, .exc C fs) => some (.xc C fs γ1)
      | some (γ1, _) => some (.nx γ1)
      | none => none) = some o := by rw [evS] at h; exact h
    cases hv : Ev.evP Φ γ v e with
    | none => rw [hv] at h'; cases h'
    | some w =>
      obtain ⟨γ1, r⟩ := w
      rw [hv] at h'
      have z := XS.evP hv
      cases r with
      | val d => cases h'; exact z
      | new d => cases h'; exact z
      | exc C fs => cases h'; exact z
  · next body C i suite _ x _ nm b0 su _ _ =>
    obtain ⟨_, h2⟩ := ba ok
    obtain ⟨_, h2⟩ := ba h2
    obtain ⟨_, h2⟩ := ba h2
    obtain ⟨_, h2⟩ := ba h2
    obtain ⟨_, h2⟩ := ba h2
    obtain ⟨h5, h6⟩ := ba h2
    have h' : (match evSs Φ body γ with
      | some (.xc A fs γ1) => (match Φ.isX A C with
        | some true => (match evSs Φ suite (γ1.set i (.ex A fs)) with
          | some (.nx γ2) => some (.nx (γ2.set i .no))
          | some (.rt d) => some (.rt d)
          | some (.rn ds) => some (.rn ds)
          | _ => none)
        | _ => none)
      | o => o) = some o := by rw [evS] at h; exact h
    cases qb : evSs Φ body γ with
    | none => rw [qb] at h'; cases h'
    | some ob =>
      rw [qb] at h'
      have z := xs_block ih h5 qb
      cases ob with
      | xc A fs γ1 =>
        dsimp only at h'
        split at h'
        · cases qs : evSs Φ suite (γ1.set i (.ex A fs)) with
          | none => rw [qs] at h'; cases h'
          | some os =>
            rw [qs] at h'
            have y := xs_block ih h6 qs
            cases os with
            | nx γ2 =>
              cases h'
              intro j C' fs' e
              by_cases q : i = j
              · subst q
                cases set_self_of e
              · rw [List.getElem?_set_ne q] at e
                have e2 := y j C' fs' e
                rw [List.getElem?_set_ne q] at e2
                exact z j C' fs' e2
            | rt d => cases h'; trivial
            | rn d => cases h'; trivial
            | _ => cases h'
        · cases h'
      | _ => cases h'; exact z
  · have h' : some (Out.nx γ) = some o := by rw [evS] at h; exact h
    cases h'; exact XS.refl _
  · have h' : some (Out.bk γ) = some o := by rw [evS] at h; exact h
    cases h'; exact XS.refl _
  · have h' : some (Out.ct γ) = some o := by rw [evS] at h; exact h
    cases h'; exact XS.refl _
  · cases ok
theorem xs_all : ∀ n, HX Φ S n
  | 0 => fun _ _ _ _ _ ok => by cases ok
  | n + 1 => xs_step (xs_all n)
end
end Ev
end

section
set_option Elab.async false
set_option linter.all false
set_option maxRecDepth 100000
set_option maxHeartbeats 4000000
set_option autoImplicit false
namespace Ev
open PySem PySem.Spec PyProof.Rows L2 Pd
section
variable {Φ : Phi} {S : Sta} {k n : Nat} {M : Md} {X : Cx} {γ γ1 : List S2} {π : Pt} {e : IE} {y : Expr} {p q : Pos} {o : Out} {v : Vw}
theorem sw_cell {elt : Expr} {gs : List Comprehension} {scope : Scope} {pos py : Pos} {y : Str} {l : Nat} {env : Env} (hy : env.scope.names.lookup y = some .cell) : swapsWith (.ListComp elt gs scope pos) (some (.Name y py)) l env = pure false := by
  have e : env.kindOf y = some .cell := hy
  show (pure (env.blockKind == .function && env.kindOf y == some .local && py.line == pos.line && !(scope.names.any fun (n, k) => n == y && (k == .local || k == .cell))) : Sem Bool) = pure false
  rw [e]
  rw [show ((some NameKind.cell == some NameKind.local) = false) from rfl, Bool.and_false, Bool.false_and, Bool.false_and]
theorem q_asgs (x : XO Φ S k M X) (hr : HR M X) (gx : XG X π γ) {tg : List Nat} {t : Expr} (hcm : M.calm = true) (h1 : okGs M tg t = true) (ht : isTup t = true) (hy : isTup y = false) (h2 : isComp y = false) (h3 : okE S n M e y = true) (h : evS Φ (.asgs v tg e) γ = some o) : S1 X (.Assign [t] y q) (γ.map (S2.sl π)) (RO π o) := fun Hs0 H0 Hr E F σ Hs H tS => by
  have h' : (match evP Φ γ v e with
    | some (γ1, .val d) => (put tg d γ1).map .nx
    | some (γ1, .exc C fs) => some (.xc C fs γ1)
    | _ => none) = some o := by rw [evS] at h; exact h
  cases hv : evP Φ γ v e with
  | none => rw [hv] at h'; cases h'
  | some w =>
    obtain ⟨γ1, r⟩ := w
    rw [hv] at h'
    have a1 : swapsWithSole [t] y q.line X.env = pure false := by cases y <;> first | rfl | cases h2
    have a2 : swappedStores [t] y X.env = pure none := by
      cases t <;> first | (cases y <;> first | rfl | cases hy) | cases ht
    have a3 : (assignEach [t] X.env).map (·.2) = [assign t X.env] := by
      cases t <;> first | rfl | cases ht
    refine wS_of (ps_asg (wE_ok y) (wG_ok t) a1 a2 a3) (go F tS (hT_of x h3) gx hv (fun C fs e => ?_) (fun d w Hs' H' e t1 rr => ?_) fun ds Hs1 l vs Hs' H' e t1 gr h1 h2 h3 rr => ?_)
    · subst e; cases h'; exact ⟨_, rfl, rfl⟩
    · subst e
      have h' : (put tg d γ1).map Out.nx = some o := h'
      cases qp : put tg d γ1 with
      | none => rw [qp] at h'; cases h'
      | some γ2 =>
        rw [qp] at h'
        cases h'
        exact put_okS (π := π) hcm x hr.1 h1 qp Hs0 H0 Hr Hs' H' σ w _ t1 rr fun σ' Hs2 H2 t2 _ _ _ => F.nx _ _ Hs2 H2 t2 ⟨_, rfl, rfl⟩
    · subst e; cases h'
theorem q_raise (x : XO Φ S k M X) (gx : XG X π γ) {C : Nat} {nm : Str} {pn : Pos} (hcm : M.calm = true) (he : S.ename C = some nm) (hg : (glB M nm && plainN nm) = true) (h3 : okE S n M e y = true) (hr : HR M X) (h : evS Φ (.raise v C e) γ = some o) :
    S1 X (.Raise (some (.Call (.Name nm pn) [y] [] p)) none q) (γ.map (S2.sl π)) (RO π o) := fun Hs0 H0 Hr E F σ Hs H tS => by
  obtain ⟨g1, g2, _⟩ := glB_ok x hg
  have h' : (match evP Φ γ v e with
    | some (γ1, .val d) => (Φ.efld C).map fun f => Out.xc (Φ.ga C) [(f, d)] γ1
    | _ => none) = some o := by rw [evS] at h; exact h
  cases hv : evP Φ γ v e with
  | none => rw [hv] at h'; cases h'
  | some w =>
    obtain ⟨γ1, r⟩ := w
    rw [hv] at h'
    cases r with
    | new ds => cases h'
    | exc C' fs => cases h'
    | val d =>
      cases qf : Φ.efld C with
      | none => have h' : (Φ.efld C).map (fun f => Out.xc (Φ.ga C) [(f, d)] γ1) = some o := h'; rw [qf] at h'; cases h'
      | some f =>
        have h' : (Φ.efld C).map (fun f => Out.xc (Φ.ga C) [(f, d)] γ1) = some o := h'
        rw [qf] at h'
        cases h'
        have T := x.g.er C nm f he qf
        obtain ⟨fI, fd, ps, i1, i2, ok, bd⟩ := T.ex
        rcases F.xs with no | ⟨W, tk, hW⟩
        · exact absurd (show (RO π (Out.xc (Φ.ga C) [(f, d)] γ1)).xs _ _ _ from ⟨_, rfl, rfl⟩) (no _ _ _)
        have hst : starEach [y] X.env = (false, eval y X.env) :: starEach [] X.env := star_cons (ok_nostar h3)
        refine wS_of (ps_raise (x.calm hcm) tk (pmk_oex T.T i1 i2 ok ((x.hr hcm).mono (Nat.le_trans (by decide) x.k3)) bd .nil (fun _ _ _ _ _ _ _ z => z.elim) g1 T.m (wA_ok [y]) g2 hst rfl)) ?_
        refine wA_of (L2.pa_cons (wE_ok y) L2.pa_nil hst) (go F tS (hT_of x h3) gx hv (fun C fs e => by cases e) (fun d' w Hs' H' e t1 r1 => ?_) fun ds Hs1 l vs Hs' H' e t1 gr h1 h2 h3 rr => by cases e)
        cases e
        refine ⟨by simp, fun a na => ?_⟩
        refine ⟨a, w, rfl, upd_same, fun dx ndx nex => ⟨rfl, dx, [(f, w)], upd_same, ?_, ?_, ?_⟩⟩
        · rw [upd_ne nex, upd_same]
        · rw [upd_ne nex] at ndx; exact ndx
        · rw [upd_ne nex] at ndx
          have e1 : upd (del (upd (upd (upd H' a (exo a (Φ.ga C) none)) dx (exd dx [(f, w)])) a (exo a (Φ.ga C) (some dx))) a) dx (.xd [(f, w)]) = upd H' dx (.xd [(f, w)]) := by
            funext b
            by_cases hb : b = dx
            · rw [hb, upd_same, upd_same]
            · rw [upd_ne hb, upd_ne hb]
              by_cases ha : b = a
              · rw [ha, del_same, na]
              · rw [del_ne ha, upd_ne ha, upd_ne hb, upd_ne ha]
          show W (.ref (Φ.ga C)) (some dx) σ _
          rw [e1]
          have gn := Gr.new t1.sub ndx (o := .xd [(f, w)])
          exact hW (Φ.ga C) [(f, d)] dx [(f, w)] _ σ _ _ (t1.go gn) upd_same (.cons (r1.mono gn.sh) .nil) ⟨_, rfl, rfl⟩
/-- a comprehension put into a name -/
theorem q_asgLc (x : XO Φ S k M X) (gx : XG X π γ) {i : Nat} {nm : Str} {elt : IE} {tg : List Nat} {kk : IK} {its cond : List IE} {t it : Expr} {ifs : List Expr} {scope : Scope} {px : Pos} (hl : isL M i nm = true) (hk : M.sc.kind = .function) (hp : (px.line == p.line) = true)
    (ha : (scope.names.any fun (n, k) => n == nm && (k == .local || k == .cell)) = false) (ok : okE S (n + 1) M (.lc elt tg kk its cond) (.ListComp y [⟨t, it, ifs, 0⟩] scope p) = true) (h : evS Φ (.asg v i (.lc elt tg kk its cond)) γ = some o) :
    S1 X (.Assign [.Name nm px] (.ListComp y [⟨t, it, ifs, 0⟩] scope p) q) (γ.map (S2.sl π)) (RO π o) := fun Hs0 H0 Hr E F σ Hs H tS => by
  obtain ⟨q1, q2⟩ := isL_ok x hl
  have h' : (match evP Φ γ v (.lc elt tg kk its cond) with
    | some (γ1, r) => setS i γ1 r
    | none => none) = some o := by rw [evS] at h; exact h
  have ok : okA (okE S n) S M (.lc elt tg kk its cond) (.ListComp y [⟨t, it, ifs, 0⟩] scope p) = true := by
    rcases Bool.or_eq_true_iff.mp (show (okA (okE S n) S M (.lc elt tg kk its cond) (.ListComp y [⟨t, it, ifs, 0⟩] scope p) || okY (okE S n) S M (.lc elt tg kk its cond) (.ListComp y [⟨t, it, ifs, 0⟩] scope p)) = true from ok) with ok | ok
    · exact ok
    · cases ok
  obtain ⟨hcm, ok⟩ := ba ok
  obtain ⟨h1, h2⟩ := ba ok
  obtain ⟨h2, h3⟩ := ba h2
  obtain ⟨h3, h4⟩ := ba h3
  obtain ⟨h4, h5⟩ := ba h4
  obtain ⟨h5, h6⟩ := ba h5
  obtain ⟨h6, h7⟩ := ba h6
  cases hv : evP Φ γ v (.lc elt tg kk its cond) with
  | none => rw [hv] at h'; cases h'
  | some w =>
    obtain ⟨γ1, r⟩ := w
    rw [hv] at h'
    have hl : ifs.length ≤ 1 := by
      split at h6
      · exact Nat.zero_le _
      · exact Nat.le_refl _
      · cases h6
    have hsw : swapsWith (.ListComp y [⟨t, it, ifs, 0⟩] scope p) (some (.Name nm px)) q.line X.env = pure true := sw_true (by rw [x.sc]; exact hk) q2 hp ha
    have hown := zip_snd (of_decide_eq_true h3)
    refine wS_of (ps_setLc (wi := fun σ H R => ∃ wi, PI X t it wi ∧ wi σ H R) (g := cG X scope t) (tt := cT X scope ifs) (te := cE X scope y) (own := (tgN t).zip tg) (x.calm hcm) x.nd q1 q2 hsw ⟨fun pins s σ H R I ⟨wi, hw, hq⟩ => hw.run pins s σ H R I hq⟩ (okO_ok x h2)
      (fun s5 H5 C5 cl5 fp5 => ⟨fun pins s σ H v u Q I r h => h s5 H5 C5 cl5 fp5 pins s u I r⟩) (fun s5 H5 C5 cl5 fp5 => ⟨fun pins s σ H Q I h => (tTs_ok hl).run pins s σ H Q I (h s5 H5 C5 cl5 fp5)⟩) (fun s5 H5 C5 cl5 fp5 => ⟨fun pins s σ H Q I h => h s5 H5 C5 cl5 fp5 pins s I⟩) (noset_it (nb (ba h5).1))) ?_
    refine asg_go F tS (e := .lc elt tg kk its cond) (fun γ' r gx' hr W tk σ Hs H Q s E K => ?_) gx hv h'
    obtain ⟨items, f, rfl, a, b, c, d, e, g⟩ := lc_parts (snd n) x gx' hcm h1 h2 (of_decide_eq_true h3) h4 h5 h6 h7 hr
    obtain ⟨wi, hpi, hfe⟩ := a.ex
    exact ⟨wi, hpi, lc_go hfe b c s E K⟩
/-- blocks -/
def IHs (Φ : Phi) (S : Sta) (k n : Nat) : Prop := ∀ (M : Md) (X : Cx), XO Φ S k M X → HR M X → ∀ (γ : List S2) (π : Pt), XG X π γ → ∀ (ir : IS) (st : Stmt) (o : Out), okS S n M ir st = true → evS Φ ir γ = some o → S1 X st (γ.map (S2.sl π)) (RO π o)
theorem S1.imp {st : Stmt} {g : List Sl} {R R' : Rs} (h : S1 X st g R) (nx : ∀ γ, R.nx γ → R'.nx γ) (rt : ∀ d, R.rt d → R'.rt d) (bk : ∀ γ, R.bk γ → R'.bk γ) (ct : ∀ γ, R.ct γ → R'.ct γ) (rn : ∀ d, R.rn d → R'.rn d) (xs : ∀ C fs γ, R.xs C fs γ → R'.xs C fs γ) : S1 X st g R' := fun Hs0 H0 Hr E F =>
  h Hs0 H0 Hr E ⟨fun γ σ Hs H t q => F.nx γ σ Hs H t (nx γ q), fun γ σ Hs H t q => F.bk γ σ Hs H t (bk γ q), fun γ σ Hs H t q => F.ct γ σ Hs H t (ct γ q), fun d v Hs H g r q => F.rt d v Hs H g r (rt d q), fun ds l vs Hs H g h1 h2 h3 r q => F.rn ds l vs Hs H g h1 h2 h3 r (rn ds q), F.xs.elim (fun h => .inl fun C fs γ q => h C fs γ (xs C fs γ q)) fun ⟨W, a, b⟩ => .inr ⟨W, a, fun C fs dd vs γ σ Hs H t h1 h2 q => b C fs dd vs γ σ Hs H t h1 h2 (xs C fs γ q)⟩⟩
theorem block_ok (ih : IHs Φ S k n) (x : XO Φ S k M X) (hr : HR M X) : ∀ {is : List IS} {sts : List Stmt} {γ : List S2} {o : Out}, XG X π γ → okSs S n M is sts = true → evSs Φ is γ = some o → SD X sts (γ.map (S2.sl π)) (RO π o)
  | [], [], γ, o, gx, _, h => by
    have h : some (Out.nx γ) = some o := by rw [evSs] at h; exact h
    cases h
    exact sd_nil ⟨_, rfl, rfl⟩
  | i :: is, st :: sts, γ, o, gx, ok, h => by
    obtain ⟨o1, o2⟩ := ba ok
    have h : Out.then (evS Φ i γ) (fun γ1 => evSs Φ is γ1) = some o := by rw [evSs] at h; exact h
    cases q : evS Φ i γ with
    | none => rw [q] at h; cases h
    | some o' =>
      rw [q] at h
      have s1 := ih M X x hr γ π gx i st o' o1 q
      refine sd_cons (S1.imp s1 (fun g hg => ?_) (fun d hd => ?_) (fun g hg => ?_) (fun g hg => ?_) (fun d hd => ?_) fun C fs g hg => ?_)
      · obtain ⟨γ', rfl, rfl⟩ := hg
        exact block_ok ih x hr (XS.gx (xs_all n M i st γ _ o1 q) gx) o2 h
      · have e : o' = .rt d := hd
        subst e
        cases h
        exact rfl
      · obtain ⟨γ', rfl, rfl⟩ := hg
        cases h
        exact ⟨γ', rfl, rfl⟩
      · obtain ⟨γ', rfl, rfl⟩ := hg
        cases h
        exact ⟨γ', rfl, rfl⟩
      · have e : o' = .rn d := hd
        subst e
        cases h
        exact rfl
      · obtain ⟨γ', rfl, rfl⟩ := hg
        cases h
        exact ⟨γ', rfl, rfl⟩
  | [], _ :: _, _, _, _, ok, _ => by cases ok
  | _ :: _, [], _, _, _, ok, _ => by cases ok
theorem q_ite (ih : IHs Φ S k n) (x : XO Φ S k M X) (hr : HR M X) (gx : XG X π γ) {c : IE} {a b : List IS} {s t : List Stmt} (h1 : okE S n M c y = true) (h2 : okSs S n M a s = true) (h3 : okSs S n M b t = true) (h : evS Φ (.ite c a b) γ = some o) : S1 X (.If y s t q) (γ.map (S2.sl π)) (RO π o) := fun Hs0 H0 Hr E F σ Hs H tS => by
  have h' : (match ev Φ (γ.map S2.vwO) true c with
    | some (.val (.bl true)) => evSs Φ a γ
    | some (.val (.bl false)) => evSs Φ b γ
    | _ => none) = some o := by rw [evS] at h; exact h
  split at h'
  next e => exact wS_of (ps_if (wT_ok y) (wSs_ok s) (wSs_ok t)) (evT_ok x gx h1 e tS fun H' t' => block_ok ih x hr gx h2 h' Hs0 H0 Hr E F σ Hs H' t')
  next e => exact wS_of (ps_if (wT_ok y) (wSs_ok s) (wSs_ok t)) (evT_ok x gx h1 e tS fun H' t' => block_ok ih x hr gx h3 h' Hs0 H0 Hr E F σ Hs H' t')
  next => cases h'
theorem q_for (ih : IHs Φ S k n) (x : XO Φ S k M X) (hr : HR M X) (gx : XG X π γ) (hcm : M.calm = true) {us tg : List Nat} {kk : IK} {its : List IE} {body : List IS} {t it : Expr} {s : List Stmt} (h1 : okGs M tg t = true) (h2 : okIt (okE S n M) S M kk its it = true) (h3 : (decide (kk ≠ .en) || decide (tg.length = 2)) = true) (h4 : okSs S n M body s = true)
    (h : evS Φ (.for us tg kk its body) γ = some o) : S1 X (.For t it s [] q) (γ.map (S2.sl π)) (RO π o) := fun Hs0 H0 Hr E F σ Hs H tS => by
  have h' : (match (evD Φ (frz γ us) its).bind (itms kk) with
    | some items => forGo (put tg) (fun γ1 => evSs Φ body γ1) items (frz γ us)
    | none => none) = some o := by rw [evS] at h; exact h
  obtain ⟨Hs1, s1, t1⟩ := frz_ST (us := us) tS
  cases qi : (evD Φ (frz γ us) its).bind (itms kk) with
  | none => rw [qi] at h'; cases h'
  | some items =>
    rw [qi] at h'
    have hten : kk = .en → ∃ elts j tp, t = .Tuple elts j tp := fun z => by
      subst z
      rcases Bool.or_eq_true_iff.mp h3 with z | z
      · exact absurd rfl (of_decide_eq_true z)
      · have z := of_decide_eq_true z
        unfold okGs at h1
        split at h1
        · cases z
        · exact ⟨_, _, _, rfl⟩
        · cases h1
    obtain ⟨hit, hset⟩ := it_ok (π := π) (tg := t) (snd n) x gx.frz h2 qi hten
    refine s1_forT (emb := id) items (fun i g => ∃ γ', XG X π γ' ∧ g = γ'.map (S2.sl π) ∧ forGo (put tg) (fun γ1 => evSs Φ body γ1) (items.drop i) γ' = some o) (hit.is (by rw [List.map_id])) ⟨_, gx.frz, rfl, by rw [List.drop_zero]; exact h'⟩ (fun i a g ha hg => ?_) (fun g hg => ?_) (x.calm hcm) (x.pa hcm) hset Hs0 H0 Hr E F σ Hs1 H t1
    · obtain ⟨γ', gx', rfl, hf⟩ := hg
      have hlt : i < items.length := (List.getElem?_eq_some_iff.mp ha).1
      have hd : items.drop i = a :: items.drop (i + 1) := by
        rw [List.drop_eq_getElem_cons hlt]
        congr 1
        exact (List.getElem?_eq_some_iff.mp ha).2
      rw [hd] at hf
      have hf : (match put tg a γ' with
        | none => none
        | some γ1 => match evSs Φ body γ1 with
          | some (.nx γ2) => forGo (put tg) (fun γ1 => evSs Φ body γ1) (items.drop (i + 1)) γ2
          | some (.ct γ2) => forGo (put tg) (fun γ1 => evSs Φ body γ1) (items.drop (i + 1)) γ2
          | some (.bk γ2) => some (.nx γ2)
          | o => o) = some o := hf
      cases qp : put tg a γ' with
      | none => rw [qp] at hf; cases hf
      | some γ2 =>
        rw [qp] at hf
        refine ⟨γ2.map (S2.sl π), tg, put_okS (π := π) hcm x hr.1 h1 qp, ?_⟩
        have gx2 : XG X π γ2 := ((XS.refl γ').put qp).gx gx'
        dsimp only at hf
        cases qb : evSs Φ body γ2 with
        | none => rw [qb] at hf; cases hf
        | some ob =>
          rw [qb] at hf
          refine SD.imp (block_ok ih x hr gx2 h4 qb) (fun g hg => ?_) (fun d hd => ?_) (fun g hg => ?_) (fun g hg => ?_) (fun d hd => ?_) fun C fs g hg => ?_
          · obtain ⟨γ3, rfl, rfl⟩ := hg
            exact ⟨γ3, XS.gx (xs_block (xs_all n) h4 qb) gx2, rfl, hf⟩
          · have e : ob = .rt d := hd
            subst e
            cases hf
            exact rfl
          · obtain ⟨γ3, rfl, rfl⟩ := hg
            cases hf
            exact ⟨γ3, rfl, rfl⟩
          · obtain ⟨γ3, rfl, rfl⟩ := hg
            exact ⟨γ3, XS.gx (xs_block (xs_all n) h4 qb) gx2, rfl, hf⟩
          · have e : ob = .rn d := hd
            subst e
            cases hf
            exact rfl
          · obtain ⟨γ3, rfl, rfl⟩ := hg
            cases hf
            exact ⟨γ3, rfl, rfl⟩
    · obtain ⟨γ', gx', rfl, hf⟩ := hg
      rw [List.drop_length] at hf
      have hf : some (Out.nx γ') = some o := hf
      cases hf
      exact ⟨γ', rfl, rfl⟩
theorem sl_noX {γ : List S2} (h : noX γ) (π π' : Pt) (hp : π.p = π'.p) : γ.map (S2.sl π) = γ.map (S2.sl π') := by
  apply List.map_congr_left
  intro s hs
  obtain ⟨j, hj⟩ := List.getElem?_of_mem hs
  cases s with
  | ob C fs => show Sl.ob π.p C fs = Sl.ob π'.p C fs; rw [hp]
  | ex C fs => exact absurd hj (h j C fs)
  | _ => rfl
theorem q_try (ih : IHs Φ S k n) (x : XO Φ S k M X) (hr : HR M X) (gx : XG X π γ) (hcm : M.calm = true) {body suite : List IS} {C i : Nat} {b su : List Stmt} {b0 : Stmt} {nm z : Str} {p2 p3 : Pos} (he : S.ename C = some z) (hg : (glB M z && plainN z) = true) (hl : isL M i nm = true) (h5 : okSs S n M body b = true) (h6 : okSs S n { M with calm := false } suite (b0 :: su) = true)
    (h : evS Φ (.try body C i suite) γ = some o) : S1 X (.Try b [.ExceptHandler (some (.Name z p2)) (some nm) (b0 :: su) p3] [] [] q) (γ.map (S2.sl π)) (RO π o) := by
  obtain ⟨g1, g2, _⟩ := glB_ok x hg
  obtain ⟨q1, q2⟩ := isL_ok x hl
  have h' : (match evSs Φ body γ with
    | some (.xc A fs γ1) => (match Φ.isX A C with
      | some true => (match evSs Φ suite (γ1.set i (.ex A fs)) with
        | some (.nx γ2) => some (.nx (γ2.set i .no))
        | some (.rt d) => some (.rt d)
        | some (.rn ds) => some (.rn ds)
        | _ => none)
      | _ => none)
    | o => o) = some o := by rw [evS] at h; exact h
  have n0 : noX γ := noX_of (x.calm hcm) gx
  cases qb : evSs Φ body γ with
  | none => rw [qb] at h'; cases h'
  | some ob =>
    rw [qb] at h'
    have zx := xs_block (xs_all n) h5 qb
    refine s1_try i (fun A fs g => ∃ γ1, ob = .xc A fs γ1 ∧ g = γ1.map (S2.sl π)) (fun pn xe po => ?_) (fun A fs g hx => ?_) x.nd ⟨g1, g2, .inl (x.g.xn C z he)⟩ q1 q2 (hr.2 hcm).1 (hr.2 hcm).2
    · have x' : XO Φ S k M (X.tr pn xe) := ⟨x.sc, x.N, x.nd, x.hr, x.un, x.k3, x.calm, fun _ => po, x.g⟩
      have B := block_ok (π := π) ih x' hr (fun j C' fs' e => absurd e (n0 j C' fs')) h5 qb
      refine SD.imp B (fun g hg => ?_) (fun d hd => ?_) (fun g hg => ?_) (fun g hg => ?_) (fun d hd => ?_) fun C fs g hg => ?_
      · obtain ⟨γ', rfl, rfl⟩ := hg
        cases h'; exact ⟨_, rfl, rfl⟩
      · have e : ob = .rt d := hd
        subst e; cases h'; exact rfl
      · obtain ⟨γ', rfl, rfl⟩ := hg
        cases h'; exact ⟨_, rfl, rfl⟩
      · obtain ⟨γ', rfl, rfl⟩ := hg
        cases h'; exact ⟨_, rfl, rfl⟩
      · have e : ob = .rn d := hd
        subst e; cases h'; exact rfl
      · obtain ⟨γ', rfl, rfl⟩ := hg
        exact ⟨γ', rfl, rfl⟩
    · obtain ⟨γ1, rfl, rfl⟩ := hx
      dsimp only at h'
      cases qi : Φ.isX A C with
      | none => rw [qi] at h'; cases h'
      | some bb =>
        rw [qi] at h'
        cases bb with
        | false => cases h'
        | true =>
          refine ⟨(x.g.xh A C z true he qi).1, fun a dd oe pn hz hd => ?_⟩
          cases qs : evSs Φ suite (γ1.set i (.ex A fs)) with
          | none => simp only [qs] at h'; cases h'
          | some os =>
            simp only [qs] at h'
            have n1 : noX γ1 := fun j C' fs' e => n0 j C' fs' (zx j C' fs' e)
            have zs := xs_block (xs_all n) h6 qs
            have x' : XO Φ S k { M with calm := false } (X.suite a ((a, oe) :: pn)) := ⟨x.sc, x.N, x.nd, fun z => (by cases z), x.un, x.k3, fun z => (by cases z), fun z => (by cases z), x.g⟩
            have gx' : XG (X.suite a ((a, oe) :: pn)) ⟨π.p, a, dd⟩ (γ1.set i (.ex A fs)) := fun j C' fs' e => by
              by_cases hij : i = j
              · subst hij
                have y := set_self_of e
                cases y
                exact ⟨X, oe, pn, rfl, hz, hd⟩
              · rw [List.getElem?_set_ne hij] at e
                exact absurd e (n1 j C' fs')
            have B := block_ok (π := ⟨π.p, a, dd⟩) ih x' ⟨hr.1, fun z => by cases z⟩ gx' h6 qs
            have ei : (γ1.set i (S2.ex A fs)).map (S2.sl ⟨π.p, a, dd⟩) = (γ1.map (S2.sl π)).set i (.sh (.exc a dd fs)) := by
              rw [map_set, sl_noX n1 π ⟨π.p, a, dd⟩ rfl]
              rfl
            rw [ei] at B
            refine SD.imp B (fun g hg => ?_) (fun d hd => ?_) (fun g hg => ?_) (fun g hg => ?_) (fun d hd => ?_) fun C fs g hg => ?_
            · obtain ⟨γ2, rfl, rfl⟩ := hg
              cases h'
              refine ⟨_, rfl, ?_⟩
              have n2 : noX (γ2.set i .no) := fun j C' fs' e => by
                by_cases hij : i = j
                · subst hij
                  cases set_self_of e
                · rw [List.getElem?_set_ne hij] at e
                  have e2 := zs j C' fs' e
                  rw [List.getElem?_set_ne hij] at e2
                  exact n1 j C' fs' e2
              rw [sl_noX n2 π ⟨π.p, a, dd⟩ rfl, map_set]
              rfl
            · have e : os = .rt d := hd
              subst e; cases h'; exact rfl
            · obtain ⟨γ', rfl, rfl⟩ := hg
              cases h'
            · obtain ⟨γ', rfl, rfl⟩ := hg
              cases h'
            · have e : os = .rn d := hd
              subst e; cases h'; exact rfl
            · obtain ⟨γ', rfl, rfl⟩ := hg
              cases h'
theorem s_step (ih : IHs Φ S k n) : IHs Φ S k (n + 1) := by
  intro M X x hr γ π gx ir st o ok h
  unfold okS at ok
  split at ok
  · next v i elt tg kk its cond x1 px y t it ifs scope p q =>
    rcases Bool.or_eq_true_iff.mp ok with ok | ok
    · obtain ⟨h1, h2⟩ := ba ok
      obtain ⟨h2, h3⟩ := ba h2
      obtain ⟨h3, h4⟩ := ba h3
      obtain ⟨h4, h5⟩ := ba h4
      exact q_asgLc x gx h1 (of_decide_eq_true h2) h3 (nb h4) h5 h
    · obtain ⟨h1, h2⟩ := ba ok
      obtain ⟨h2, h3⟩ := ba h2
      exact q_asgC x hr gx h1 (sw_cell (by rw [x.sc]; exact of_decide_eq_true h2)) h3 h
  · obtain ⟨h1, h2⟩ := ba ok
    obtain ⟨h2, h3⟩ := ba h2
    exact q_asg x hr gx h1 (nb h2) h3 h
  · obtain ⟨h1, h2⟩ := ba ok
    obtain ⟨h2, h3⟩ := ba h2
    obtain ⟨h3, h4⟩ := ba h3
    obtain ⟨h4, h5⟩ := ba h4
    obtain ⟨h5, h6⟩ := ba h5
    exact q_asgs x hr gx h1 h2 h3 (nb h4) (nb h5) h6 h
  · obtain ⟨h1, h2⟩ := ba ok
    obtain ⟨h2, h3⟩ := ba h2
    obtain ⟨h3, h4⟩ := ba h3
    exact q_seti x gx h1 h2 h3 h4 h
  · obtain ⟨h1, h2⟩ := ba ok
    obtain ⟨h2, h3⟩ := ba h2
    obtain ⟨h3, h4⟩ := ba h3
    obtain ⟨h4, h5⟩ := ba h4
    have h2 := of_decide_eq_true h2
    have h3 := of_decide_eq_true h3
    subst h2 h3
    exact q_app x gx h1 h4 h5 h
  · obtain ⟨h1, h2⟩ := ba ok
    obtain ⟨h2, h3⟩ := ba h2
    obtain ⟨h3, h4⟩ := ba h3
    have h2 := of_decide_eq_true h2
    subst h2
    exact q_fld x gx h1 (nb h3) h4 h
  · exact q_ret x gx ok h
  · exact q_reto x ok h
  · have h' : some (Out.rt .non) = some o := by rw [evS] at h; exact h
    cases h'
    exact s1_retN rfl
  · obtain ⟨h1, h2⟩ := ba ok
    obtain ⟨h2, h3⟩ := ba h2
    exact q_ite ih x hr gx h1 h2 h3 h
  · obtain ⟨h1, h2⟩ := ba ok
    obtain ⟨h2, h3⟩ := ba h2
    obtain ⟨h3, h4⟩ := ba h3
    obtain ⟨h4, h5⟩ := ba h4
    exact q_for ih x hr gx h1 h2 h3 h4 h5 h
  · obtain ⟨h1, h2⟩ := ba ok
    obtain ⟨h2, h3⟩ := ba h2
    obtain ⟨h3, h4⟩ := ba h3
    obtain ⟨h4, h5⟩ := ba h4
    exact q_raise x gx h1 (of_decide_eq_true h2) (by rw [h3, h4]; rfl) h5 hr h
  · obtain ⟨h1, h2⟩ := ba ok
    exact q_exp x gx (nb h1) h2 h
  · obtain ⟨h1, w2⟩ := ba ok
    obtain ⟨h2, w3⟩ := ba w2
    obtain ⟨h3, w4⟩ := ba w3
    obtain ⟨h4, w5⟩ := ba w4
    obtain ⟨h5, w6⟩ := ba w5
    obtain ⟨h6, h7⟩ := ba w6
    exact q_try ih x hr gx h1 (of_decide_eq_true h2) (by rw [h3, h4]; rfl) h5 h6 h7 h
  · have h' : some (Out.nx γ) = some o := by rw [evS] at h; exact h
    cases h'; exact s1_pass ⟨_, rfl, rfl⟩
  · have h' : some (Out.bk γ) = some o := by rw [evS] at h; exact h
    cases h'; exact s1_break ⟨_, rfl, rfl⟩
  · have h' : some (Out.ct γ) = some o := by rw [evS] at h; exact h
    cases h'; exact s1_continue ⟨_, rfl, rfl⟩
  · cases ok
theorem s_all : ∀ n, IHs Φ S k n
  | 0 => fun _ _ _ _ _ _ _ _ _ _ ok => by cases ok
  | n + 1 => s_step (s_all n)
/-- a def's body, from its check and its run -/
theorem body_ok (x : XO Φ S k M X) (hr : HR M X) {is : List IS} {sts : List Stmt} (gx : XG X π γ) (ok : okSs S n M is sts = true) (h : evSs Φ is γ = some o) : SD X sts (γ.map (S2.sl π)) (RO π o) := block_ok (s_all n) x hr gx ok h
end
end Ev
end

section
set_option Elab.async false
set_option linter.all false
set_option maxRecDepth 100000
set_option maxHeartbeats 0
set_option autoImplicit false
namespace L01
open PySem PySem.Spec PyProof.Rows L2 Pd Ev
def fnL : List PySem.Str := [("check_bead" : PySem.Str), ("letter_kind" : PySem.Str), ("unlike_places" : PySem.Str), ("_law_cell" : PySem.Str), ("_law_mixed" : PySem.Str), ("_law_draws" : PySem.Str), ("_law_kinds" : PySem.Str), ("_law_is_integer" : PySem.Str), ("_law_same" : PySem.Str), ("_law_fixed" : PySem.Str), ("_law_first" : PySem.Str), ("_law_spoilt" : PySem.Str), ("_law_line" : PySem.Str), ("_law_due" : PySem.Str), ("_law_made" : PySem.Str), ("_law_lettered" : PySem.Str), ("_law_turned" : PySem.Str), ("_law_refused" : PySem.Str), ("_law_refused_turn" : PySem.Str), ("_law_stretches" : PySem.Str), ("_law_tells" : PySem.Str), ("_law_judged" : PySem.Str), ("_law_turns" : PySem.Str), ("law" : PySem.Str)]
def clL : List PySem.Str := [("Strand" : PySem.Str), ("MootError" : PySem.Str), ("BadStrand" : PySem.Str), ("NoSuchBead" : PySem.Str), ("EndBead" : PySem.Str), ("BadRun" : PySem.Str)]
def glL : List PySem.Str := []
def meL : List PySem.Str := [("from_letters" : PySem.Str), ("stretches" : PySem.Str), ("mirrored" : PySem.Str), ("turned" : PySem.Str)]
def plL : List (Nat × Nat × List PySem.Str) := [(24, 0, [("kinds" : PySem.Str)]), (24, 1, []), (25, 0, [("text" : PySem.Str)]), (25, 1, []), (28, 0, [("bead" : PySem.Str)]), (28, 1, []), (26, 0, []), (27, 0, [])]
def arL : List (List PA) := [[.kw 0], [.pos 0], [.kw 0], [.pos 0], [.kw 0], [.pos 0], [], []]
def frL : List PySem.Str := [("ValueError" : PySem.Str), ("bool" : PySem.Str), ("enumerate" : PySem.Str), ("int" : PySem.Str), ("isinstance" : PySem.Str), ("iter" : PySem.Str), ("len" : PySem.Str), ("list" : PySem.Str), ("ord" : PySem.Str), ("range" : PySem.Str), ("reversed" : PySem.Str), ("set" : PySem.Str), ("str" : PySem.Str), ("tuple" : PySem.Str)]
def Sg : Sta where
  fname := fun i => fnL[i]?
  cname := fun i => if i < 1 then clL[i]? else none
  gname := fun i => glL[i]?
  mname := fun i => meL[i]?
  ename := fun i => if 1 ≤ i then clL[i]? else none
  kname := fun i => if i < 24 then none else if i < 25 then clL[i - 24]? else none
  plan := fun p => plL[p]?
  frees := frL
  gcd := false
theorem ok0 : okSs Sg 40 ⟨defScope st0, N0, true⟩ ir0 (defBody st0) = true := by kernel_rfl
theorem ok1 : okSs Sg 40 ⟨defScope st1, N1, true⟩ ir1 (defBody st1) = true := by kernel_rfl
theorem ok2 : okSs Sg 40 ⟨defScope st2, N2, true⟩ ir2 (defBody st2) = true := by kernel_rfl
theorem ok3 : okSs Sg 40 ⟨defScope st3, N3, true⟩ ir3 (defBody st3) = true := by kernel_rfl
theorem ok4 : okSs Sg 40 ⟨defScope st4, N4, true⟩ ir4 (defBody st4) = true := by kernel_rfl
theorem ok5 : okSs Sg 40 ⟨defScope st5, N5, true⟩ ir5 (defBody st5) = true := by kernel_rfl
theorem ok6 : okSs Sg 40 ⟨defScope st6, N6, true⟩ ir6 (defBody st6) = true := by kernel_rfl
theorem ok7 : okSs Sg 40 ⟨defScope st7, N7, true⟩ ir7 (defBody st7) = true := by kernel_rfl
theorem ok8 : okSs Sg 40 ⟨defScope st8, N8, true⟩ ir8 (defBody st8) = true := by kernel_rfl
theorem ok9 : okSs Sg 40 ⟨defScope st9, N9, true⟩ ir9 (defBody st9) = true := by kernel_rfl
theorem ok10 : okSs Sg 40 ⟨defScope st10, N10, true⟩ ir10 (defBody st10) = true := by kernel_rfl
theorem ok11 : okSs Sg 40 ⟨defScope st11, N11, true⟩ ir11 (defBody st11) = true := by kernel_rfl
theorem ok12 : okSs Sg 40 ⟨defScope st12, N12, true⟩ ir12 (defBody st12) = true := by kernel_rfl
theorem ok13 : okSs Sg 40 ⟨defScope st13, N13, true⟩ ir13 (defBody st13) = true := by kernel_rfl
theorem ok14 : okSs Sg 40 ⟨defScope st14, N14, true⟩ ir14 (defBody st14) = true := by kernel_rfl
theorem ok15 : okSs Sg 40 ⟨defScope st15, N15, true⟩ ir15 (defBody st15) = true := by kernel_rfl
theorem ok16 : okSs Sg 40 ⟨defScope st16, N16, true⟩ ir16 (defBody st16) = true := by kernel_rfl
theorem ok17 : okSs Sg 40 ⟨defScope st17, N17, true⟩ ir17 (defBody st17) = true := by kernel_rfl
theorem ok18 : okSs Sg 40 ⟨defScope st18, N18, true⟩ ir18 (defBody st18) = true := by kernel_rfl
theorem ok19 : okSs Sg 40 ⟨defScope st19, N19, true⟩ ir19 (defBody st19) = true := by kernel_rfl
theorem ok20 : okSs Sg 40 ⟨defScope st20, N20, true⟩ ir20 (defBody st20) = true := by kernel_rfl
theorem ok21 : okSs Sg 40 ⟨defScope st21, N21, true⟩ ir21 (defBody st21) = true := by kernel_rfl
theorem ok22 : okSs Sg 40 ⟨defScope st22, N22, true⟩ ir22 (defBody st22) = true := by kernel_rfl
theorem ok23 : okSs Sg 40 ⟨defScope st23, N23, true⟩ ir23 (defBody st23) = true := by kernel_rfl
theorem ok24 : okSs Sg 40 ⟨defScope st24, N24, true⟩ ir24 (defBody st24) = true := by kernel_rfl
theorem ok25 : okSs Sg 40 ⟨defScope st25, N25, true⟩ ir25 (defBody st25) = true := by kernel_rfl
theorem ok26 : okSs Sg 40 ⟨defScope st26, N26, true⟩ ir26 (defBody st26) = true := by kernel_rfl
theorem ok27 : okSs Sg 40 ⟨defScope st27, N27, true⟩ ir27 (defBody st27) = true := by kernel_rfl
theorem ok28 : okSs Sg 40 ⟨defScope st28, N28, true⟩ ir28 (defBody st28) = true := by kernel_rfl
end L01
end

section
set_option Elab.async false
set_option linter.all false
set_option maxRecDepth 100000
set_option maxHeartbeats 4000000
set_option autoImplicit false
namespace Ev
open PySem PySem.Spec PyProof.Rows L2 Pd
/-! ### defs as entries of a table, run level by level -/
structure En where
  N : List Str
  ps : List Str
  ir : List IS
  cls : Option Nat
def stF (N : List Str) (ds : List D) : List S2 := ds.map .sh ++ List.replicate (N.length - ds.length) .no
def stI (N : List Str) (C : Addr) (ds : List D) : List S2 := .ob C [] :: (ds.map .sh ++ List.replicate (N.length - (ds.length + 1)) .no)
def Out.toF : Out → Option RR
  | .rt d => some (.val d)
  | .rn ds => some (.new ds)
  | .nx _ => some (.val .non)
  | .xc C fs _ => some (.exc C fs)
  | _ => none
def Out.toI (C : Addr) : Out → Option RR
  | .nx γ => match (γ[0]? : Option S2) with
    | some (S2.ob C' fs) => if C' = C then some (.val (.obj C fs)) else none
    | _ => none
  | .xc CE fs _ => some (.exc CE fs)
  | _ => none
def runF (Φ : Phi) (e : En) (ds : List D) : Option RR := if ds.length = e.ps.length then (evSs Φ e.ir (stF e.N ds)).bind Out.toF else none
def runI (Φ : Phi) (e : En) (C : Addr) (ds : List D) : Option RR := if ds.length + 1 = e.ps.length then (evSs Φ e.ir (stI e.N C ds)).bind (Out.toI C) else none
def wc (Φ : Phi) (g : Nat → List D → Option RR) : Phi := { Φ with call := g }
def callL (Φ : Phi) (tab : Nat → Option En) : Nat → Nat → List D → Option RR
  | 0, _, _ => none
  | k + 1, i, ds => match tab i with
    | none => none
    | some e => match e.cls with
      | none => runF (wc Φ (callL Φ tab k)) e ds
      | some c => runI (wc Φ (callL Φ tab k)) e (Φ.ga c) ds
theorem stF_sl {π : Pt} (N : List Str) (ds : List D) : (stF N ds).map (S2.sl π) = st0 N ds := by
  unfold stF st0
  rw [List.map_append, List.map_map, List.map_replicate]
  rfl
theorem stI_sl {π : Pt} (N : List Str) (C : Addr) (ds : List D) : (stI N C ds).map (S2.sl π) = Sl.ob π.p C [] :: (ds.map Sl.sh ++ List.replicate (N.length - (ds.length + 1)) .no) := by
  unfold stI
  rw [List.map_cons, List.map_append, List.map_map, List.map_replicate]
  rfl
theorem noX_stF (N : List Str) (ds : List D) (i : Nat) (C : Addr) (fs : List (Str × D)) : (stF N ds)[i]? ≠ some (.ex C fs) := fun h => by
  have z := List.mem_of_getElem? h
  unfold stF at z
  rcases List.mem_append.mp z with z | z
  · obtain ⟨d, _, e⟩ := List.mem_map.mp z
    cases e
  · have z := List.eq_of_mem_replicate z
    cases z
theorem noX_stI (N : List Str) (CO : Addr) (ds : List D) (i : Nat) (C : Addr) (fs : List (Str × D)) : (stI N CO ds)[i]? ≠ some (.ex C fs) := fun h => by
  have z := List.mem_of_getElem? h
  unfold stI at z
  rcases List.mem_cons.mp z with z | z
  · cases z
  rcases List.mem_append.mp z with z | z
  · obtain ⟨d, _, e⟩ := List.mem_map.mp z
    cases e
  · have z := List.eq_of_mem_replicate z
    cases z
section
variable {P : Program} {w : World} {K : PySem.W.Frag} {mg : Str → Option Value} {base : Heap} {x qual : Str} {params : Arguments} {body : List Stmt} {scope : Scope} {f : Addr} {fd : FuncData} {R n : Nat} {dvs : List V} {kws : List (Str × V)} {Φ : Phi} {S : Sta}
theorem xo_rx {N ps : List Str} {cdv : Value} {A : Around} {outer : List Env} {s : Shared} {H : Hp} {E : XK} (FS : FnScope N ps scope) (G : Glo Φ S R P w K mg base) (h3 : 3 ≤ R) (hr : Room R (A.deeper (envOfC qual scope s.heap.objs.size f cdv))) : XO Φ S R ⟨scope, N, true⟩ (RX P w K mg base N qual scope f cdv A outer s H E) where
  sc := rfl
  N := rfl
  nd := FS.nd
  hr := fun _ => hr
  un := hr.un
  k3 := h3
  calm := fun _ => rfl
  pa := fun _ => passes_of rfl
  g := G
theorem fnE {e : En} (F : FunD K x qual params body scope dvs kws f fd) (FS : FnScope e.N e.ps scope) (G : Glo Φ S R P w K mg base) (h2 : 3 ≤ R) (ok : okSs S n ⟨scope, e.N, true⟩ e.ir body = true) :
    FnOk P w K mg base (L2.CX P w) (R + 1) f fd e.ps (spC K (runF Φ e)) := by
  refine F.ok FS (fun vs H Q E h => ?_) (fun cdv A outer s H vs Q E hr h => ?_)
  · obtain ⟨Hs, ds, r, _, rr, hG, _⟩ := h
    unfold runF at hG
    split at hG
    · rw [rr.length]; assumption
    · cases hG
  · obtain ⟨Hs, ds, r, sm, rr, hG, kk⟩ := h
    unfold runF at hG
    split at hG
    case isFalse => cases hG
    cases qo : evSs Φ e.ir (stF e.N ds) with
    | none => rw [qo] at hG; cases hG
    | some o =>
      rw [qo] at hG
      have hG : o.toF = some r := hG
      refine ⟨_, wSs_ok _, ?_⟩
      have B := body_ok (π := ⟨0, 0, 0⟩) (xo_rx (E := E) (cdv := cdv) (outer := outer) (H := H) FS G h2 hr) ⟨fun _ => rfl, fun _ => ⟨rfl, rfl⟩⟩ (fun i C fs z => absurd z (noX_stF _ _ i C fs)) ok qo
      rw [stF_sl] at B
      refine B Hs H Hs { nx := fun _ H' => Q .non H', rt := Q } ⟨fun γ σ Hs' H' t q => ?_, fun γ σ Hs' H' t q => ?_, fun γ σ Hs' H' t q => ?_, fun d' v Hs' H' g r' q => ?_, fun es l us Hs' H' g h1 h2 h3 r' q => ?_,
        .inr ⟨fun cls d _ H' => E cls d H', takes_of rfl rfl rfl rfl, fun C' fs' dd us γ σ Hs' H' t h1 h2 q => ?_⟩⟩ _ Hs H (st_start sm rr)
      · obtain ⟨γ', rfl, _⟩ := q
        cases hG
        exact kk _ Hs' H' t.gr .non
      · obtain ⟨γ', rfl, _⟩ := q
        cases hG
      · obtain ⟨γ', rfl, _⟩ := q
        cases hG
      · have q : o = .rt d' := q
        subst q
        cases hG
        exact kk v Hs' H' g r'
      · have q : o = .rn es := q
        subst q
        cases hG
        exact kk l us Hs' H' g h1 h2 h3 r'
      · obtain ⟨γ', rfl, _⟩ := q
        cases hG
        exact kk dd us Hs' H' t.gr h1 h2
theorem inE {e : En} {C : Addr} (F : FunD K x qual params body scope dvs kws f fd) (FS : FnScope e.N e.ps scope) (G : Glo Φ S R P w K mg base) (h2 : 3 ≤ R) (ok : okSs S n ⟨scope, e.N, true⟩ e.ir body = true) :
    FnOk P w K mg base (L2.CX P w) (R + 1) f fd e.ps (spCI K C (runI Φ e C)) := by
  refine F.ok FS (fun vs H Q E h => ?_) (fun cdv A outer s H vs Q E hr h => ?_)
  · obtain ⟨Hs, H1, p, dx, ws, ds, r, rfl, _, _, _, _, _, rr, hG, _⟩ := h
    unfold runI at hG
    split at hG
    · rw [List.length_cons, rr.length]; assumption
    · cases hG
  · obtain ⟨Hs, H1, p, dx, ws, ds, r, rfl, rfl, np, ndx, nex, sm, rr, hG, kk⟩ := h
    unfold runI at hG
    split at hG
    case isFalse => cases hG
    cases qo : evSs Φ e.ir (stI e.N C ds) with
    | none => rw [qo] at hG; cases hG
    | some o =>
      rw [qo] at hG
      have hG : o.toI C = some r := hG
      refine ⟨_, wSs_ok _, ?_⟩
      have B := body_ok (π := ⟨p, 0, 0⟩) (xo_rx (E := E) (cdv := cdv) (outer := outer) (H := (upd (upd H1 dx (.own p)) p (.ins C dx []))) FS G h2 hr) ⟨fun _ => rfl, fun _ => ⟨rfl, rfl⟩⟩ (fun i C fs z => absurd z (noX_stI _ _ _ i C fs)) ok qo
      rw [stI_sl] at B
      refine B Hs H1 Hs { nx := fun _ H' => Q .non H', rt := Q } ⟨fun γ σ Hs' H' t q => ?_, fun γ σ Hs' H' t q => ?_, fun γ σ Hs' H' t q => ?_, fun d' v Hs' H' g r' q => ?_, fun es l us Hs' H' g h1 h2 h3 r' q => ?_,
        .inr ⟨fun cls d _ H' => E cls d H', takes_of rfl rfl rfl rfl, fun C' fs' dd us γ σ Hs' H' t h1 h2 q => ?_⟩⟩ _ Hs _ (st_init sm np ndx nex rr)
      · obtain ⟨γ', rfl, rfl⟩ := q
        unfold Out.toI at hG
        dsimp only at hG
        split at hG
        next C' fs q0 =>
          split at hG
          next e =>
            subst e
            cases hG
            have q1 : (γ'.map (S2.sl ⟨p, 0, 0⟩))[0]? = some (Sl.ob p C' fs) := by rw [List.getElem?_map, q0]; rfl
            obtain ⟨l, o, a, b, c, d0, rfl, dx', us, rfl, r'⟩ := t.own 0 _ q1 rfl
            exact kk.2 Hs' H' dx' us t.gr c b r'
          next => cases hG
        next => cases hG
      · obtain ⟨γ', rfl, _⟩ := q
        cases hG
      · obtain ⟨γ', rfl, _⟩ := q
        cases hG
      · have q : o = .rt d' := q
        subst q
        cases hG
      · have q : o = .rn es := q
        subst q
        cases hG
      · obtain ⟨γ', rfl, _⟩ := q
        cases hG
        exact kk dd us Hs' H' t.gr h1 h2
theorem runI_sh {e : En} {C : Addr} {ds : List D} {r : RR} (h : runI Φ e C ds = some r) : MkSh C r := by
  unfold runI at h
  split at h
  · cases qo : evSs Φ e.ir (stI e.N C ds) with
    | none => rw [qo] at h; cases h
    | some o =>
      rw [qo] at h
      have h : o.toI C = some r := h
      unfold Out.toI at h
      split at h
      · split at h
        · split at h
          · cases h; exact .inl ⟨_, rfl⟩
          · cases h
        · cases h
      · cases h; exact .inr ⟨_, _, rfl⟩
      · cases h
  · cases h
end
end Ev
end

section
set_option Elab.async false
set_option linter.all false
set_option maxRecDepth 100000
set_option maxHeartbeats 4000000
set_option autoImplicit false
namespace Ev
open PySem PySem.Spec PyProof.Rows L2 Pd
/-- one def of the module's -/
structure Df (S : Sta) (n : Nat) (Φ : Phi) (i : Nat) (K : PySem.W.Frag) (e : En) (f : Addr) (fd : FuncData) : Prop where
  ex : ∃ (x qual : Str) (params : Arguments) (body : List Stmt) (scope : Scope) (dvs : List V) (kws : List (Str × V)), FunD K x qual params body scope dvs kws f fd ∧ FnScope e.N e.ps scope ∧ okSs S n ⟨scope, e.N, true⟩ e.ir body = true
structure Mod (Φ : Phi) (S : Sta) (tab : Nat → Option En) (n : Nat) (P : Program) (w : World) (K : PySem.W.Frag) (mg : Str → Option Value) (base : Heap) : Prop where
  gl : ∀ i n d, S.gname i = some n → Φ.glob i = some d → ∃ v u, mg n = some u ∧ RelV v u ∧ ∀ H, Rep K H v d
  kl : ∀ i n, S.cname i = some n → mg n = some (.ref (Φ.ga i))
  fr : ∀ n ∈ S.frees, mg n = none
  gc : S.gcd = true → mg ("gcd" : Str) = some (.builtin "math.gcd")
  fn : ∀ i nm, S.fname i = some nm → ∃ e f fd, tab i = some e ∧ e.cls = none ∧ Df S n Φ i K e f fd ∧ mg nm = some (.ref f) ∧ PySem.W.keepIn K (.ref f) = true ∧ Binds K fd e.ps [] ∧ ∀ p m ks, S.plan p = some (i, m, ks) → BD K fd e.ps m ks (Φ.arr p)
  mkr : ∀ i nm, S.kname i = some nm → ∃ e c f fd, tab i = some e ∧ e.cls = some c ∧ Df S n Φ i K e f fd ∧ mg nm = some (.ref (Φ.ga c)) ∧ Mk K (Φ.ga c) f ∧ ∀ p m ks, S.plan p = some (i, m, ks) → BD K fd e.ps (m + 1) ks (.pos 0 :: (Φ.arr p).map PA.sh)
  me : ∀ C m nm i, S.mname m = some nm → Φ.meth C m = some i → Φ.mn m = nm ∧ Cls K C ∧ ∃ e f fd, tab i = some e ∧ e.cls = none ∧ Df S n Φ i K e f fd ∧ Meth K C nm f ∧ ∀ p m ks, S.plan p = some (i, m, ks) → BD K fd e.ps (m + 1) ks (.pos 0 :: (Φ.arr p).map PA.sh)
  pf : ∀ p i m ks, S.plan p = some (i, m, ks) → Φ.pf p = i
  co : ∀ c n f d, S.cname c = some n → Φ.ccon c f = some d → ∃ mc v u, ClX.CRead K (Φ.ga c) mc ∧ ClX.CVal K (Φ.ga c) mc f v u ∧ ∀ H, Rep K H v d
  is : ∀ C t n b, S.cname t = some n → Φ.isO C t = some b → b = true ∧ C = Φ.ga t ∧ C8.InsC K C
  it : ∀ C f, Φ.itf C = some f → OwnT K mg C f
  xn : ∀ t n, S.ename t = some n → mg n = some (.ref (Φ.ga t))
  xh : ∀ A t n b, S.ename t = some n → Φ.isX A t = some b → PySem.W.exmOne K (.ref A) (.ref (Φ.ga t)) = some b ∧ PySem.W.kitOne K (.ref A) (.ref (Φ.ga t)) = some b ∧ ExcC K A
  xb : ∀ A n b, Φ.isB A n = some b → PySem.W.kitOne K (.ref A) (.type n) = some b ∧ ExcC K A
  xf : ∀ C f, Φ.xfl C f = true → XfC K C ∧ PySem.W.findIn K (.ref C) f = some none
  cme : ∀ c m nc nm i, S.cname c = some nc → S.mname m = some nm → Φ.cmeth c m = some i → ∃ e mc p f fd, tab i = some e ∧ e.cls = none ∧ Df S n Φ i K e f fd ∧ ClX.CRead K (Φ.ga c) mc ∧ ClX.CMet K (Φ.ga c) mc nm p f ∧ ∀ q m ks, S.plan q = some (i, m, ks) → BD K fd e.ps (m + 1) ks (.pos 0 :: (Φ.arr q).map PA.sh)
  ctor : ∀ C i, Φ.ctor C = some i → ∃ e c f fd, tab i = some e ∧ e.cls = some c ∧ Φ.ga c = C ∧ Df S n Φ i K e f fd ∧ Mk K C f ∧ Binds K fd e.ps []
  er : ∀ i n f, S.ename i = some n → Φ.efld i = some f → DE P w K mg base n (Φ.ga i) f
  at_ : ∀ C f, Φ.fld C f = true → Cls K C ∧ NoAttr K C f
section
variable {Φ : Phi} {S : Sta} {tab : Nat → Option En} {n : Nat} {P : Program} {w : World} {K : PySem.W.Frag} {mg : Str → Option Value} {base : Heap}
/-- what a level asks of its calls -/
structure Lev (Φ : Phi) (S : Sta) (tab : Nat → Option En) (k : Nat) (P : Program) (w : World) (K : PySem.W.Frag) (mg : Str → Option Value) (base : Heap) : Prop where
  fn : ∀ i e f fd, tab i = some e → e.cls = none → Df S n Φ i K e f fd → FnOk P w K mg base (L2.CX P w) (2 * k + 3) f fd e.ps (spC K (callL Φ tab k i))
  mk_ : ∀ i e c f fd, tab i = some e → e.cls = some c → Df S n Φ i K e f fd → ∃ j, j + 1 ≤ 2 * k + 3 ∧ FnOk P w K mg base (L2.CX P w) j f fd e.ps (spCI K (Φ.ga c) (callL Φ tab k i)) ∧ ∀ ds r, callL Φ tab k i ds = some r → MkSh (Φ.ga c) r
theorem glo_of (m : Mod Φ S tab n P w K mg base) {k : Nat} (L : Lev (n := n) Φ S tab k P w K mg base) :
    Glo (wc Φ (callL Φ tab k)) S (2 * k + 3) P w K mg base where
  gl := m.gl
  kl := m.kl
  fr := m.fr
  gc := m.gc
  fn := fun i nm h => by
    obtain ⟨e, f, fd, t1, t2, D, q1, q2, q3, q4⟩ := m.fn i nm h
    exact ⟨f, fd, e.ps, L.fn i e f fd t1 t2 D, q1, q2, q3, q4⟩
  mkr := fun i nm h => by
    obtain ⟨e, c, f, fd, t1, t2, D, q1, q2, q3⟩ := m.mkr i nm h
    obtain ⟨j, l1, l2, l3⟩ := L.mk_ i e c f fd t1 t2 D
    exact ⟨_, f, fd, e.ps, j, l2, l1, q1, q2, l3, q3⟩
  me := fun C mm nm i h1 h2 => by
    obtain ⟨a, b, e, f, fd, t1, t2, D, q1, q2⟩ := m.me C mm nm i h1 h2
    exact ⟨a, b, f, fd, e.ps, L.fn i e f fd t1 t2 D, q1, q2⟩
  pf := m.pf
  co := m.co
  is := m.is
  it := m.it
  xn := m.xn
  xh := m.xh
  xb := m.xb
  xf := m.xf
  cme := fun c mm nc nm i h1 h2 h3 => by
    obtain ⟨e, mc, p, f, fd, t1, t2, D, q1, q2, q3⟩ := m.cme c mm nc nm i h1 h2 h3
    exact ⟨mc, p, f, fd, e.ps, L.fn i e f fd t1 t2 D, q1, q2, q3⟩
  ctor := fun C i h => by
    obtain ⟨e, c, f, fd, t1, t2, rfl, D, q1, q2⟩ := m.ctor C i h
    obtain ⟨j, l1, l2, l3⟩ := L.mk_ i e c f fd t1 t2 D
    exact ⟨f, fd, e.ps, j, l2, l1, q1, l3, q2⟩
  er := m.er
  at_ := m.at_
theorem ok0 {k : Nat} {f : Addr} {fd : FuncData} {ps : List Str} {G : List D → Option RR} (h : ∀ ds, G ds = none) : FnOk P w K mg base (L2.CX P w) k f fd ps (spC K G) := by
  refine ⟨fun vs H Q E hh => ?_, fun A outer s H args us vs Q E _ _ _ _ hh => ?_⟩ <;>
  · obtain ⟨_, ds, _, _, _, z, _⟩ := hh
    rw [h ds] at z
    cases z
theorem ok0I {k : Nat} {f C : Addr} {fd : FuncData} {ps : List Str} {G : List D → Option RR} (h : ∀ ds, G ds = none) : FnOk P w K mg base (L2.CX P w) k f fd ps (spCI K C G) := by
  refine ⟨fun vs H Q E hh => ?_, fun A outer s H args us vs Q E _ _ _ _ hh => ?_⟩ <;>
  · obtain ⟨_, _, _, _, _, ds, _, _, _, _, _, _, _, _, z, _⟩ := hh
    rw [h ds] at z
    cases z
theorem lev (m : Mod Φ S tab n P w K mg base) : ∀ k, Lev (n := n) Φ S tab k P w K mg base
  | 0 => ⟨fun i e f fd t1 t2 D => ok0 fun _ => rfl, fun i e c f fd t1 t2 D => ⟨0, by omega, ok0I fun _ => rfl, fun ds r (z : none = some r) => by cases z⟩⟩
  | k + 1 => ⟨fun i e f fd t1 t2 D => by
      obtain ⟨x, qual, params, body, scope, dvs, kws, F, FS, ok⟩ := D
      have z := fnE F FS (glo_of m (lev m k)) (by omega) ok
      have ec : callL Φ tab (k + 1) i = runF (wc Φ (callL Φ tab k)) e := by
        funext ds
        show (match tab i with
          | none => none
          | some e => match e.cls with
            | none => runF (wc Φ (callL Φ tab k)) e ds
            | some c => runI (wc Φ (callL Φ tab k)) e (Φ.ga c) ds) = _
        rw [t1]
        dsimp only
        rw [t2]
      rw [ec]
      exact z.mono (by omega),
    fun i e c f fd t1 t2 D => by
      obtain ⟨x, qual, params, body, scope, dvs, kws, F, FS, ok⟩ := D
      have z := inE (C := Φ.ga c) F FS (glo_of m (lev m k)) (by omega) ok
      have ec : callL Φ tab (k + 1) i = runI (wc Φ (callL Φ tab k)) e (Φ.ga c) := by
        funext ds
        show (match tab i with
          | none => none
          | some e => match e.cls with
            | none => runF (wc Φ (callL Φ tab k)) e ds
            | some c => runI (wc Φ (callL Φ tab k)) e (Φ.ga c) ds) = _
        rw [t1]
        dsimp only
        rw [t2]
      rw [ec]
      exact ⟨_, by omega, z, fun ds r hh => runI_sh hh⟩⟩
theorem glo (m : Mod Φ S tab n P w K mg base) (k : Nat) : Glo (wc Φ (callL Φ tab k)) S (2 * k + 3) P w K mg base := glo_of m (lev m k)
end
end Ev
end

section
set_option Elab.async false
set_option linter.all false
set_option maxRecDepth 100000
set_option maxHeartbeats 0
set_option autoImplicit false
namespace L01
open PySem PySem.Spec PyProof.Rows L2 Pd Ev
def dd0 : He.DefD := ⟨("check_bead", none), "check_bead", "check_bead", defArgs st0, defBody st0, defScope st0, [], []⟩
def dd1 : He.DefD := ⟨("letter_kind", none), "letter_kind", "letter_kind", defArgs st1, defBody st1, defScope st1, [], []⟩
def dd2 : He.DefD := ⟨("unlike_places", none), "unlike_places", "unlike_places", defArgs st2, defBody st2, defScope st2, [], []⟩
def dd3 : He.DefD := ⟨("_law_cell", none), "_law_cell", "_law_cell", defArgs st3, defBody st3, defScope st3, [], []⟩
def dd4 : He.DefD := ⟨("_law_mixed", none), "_law_mixed", "_law_mixed", defArgs st4, defBody st4, defScope st4, [], []⟩
def dd5 : He.DefD := ⟨("_law_draws", none), "_law_draws", "_law_draws", defArgs st5, defBody st5, defScope st5, [], []⟩
def dd6 : He.DefD := ⟨("_law_kinds", none), "_law_kinds", "_law_kinds", defArgs st6, defBody st6, defScope st6, [], []⟩
def dd7 : He.DefD := ⟨("_law_is_integer", none), "_law_is_integer", "_law_is_integer", defArgs st7, defBody st7, defScope st7, [], []⟩
def dd8 : He.DefD := ⟨("_law_same", none), "_law_same", "_law_same", defArgs st8, defBody st8, defScope st8, [], []⟩
def dd9 : He.DefD := ⟨("_law_fixed", none), "_law_fixed", "_law_fixed", defArgs st9, defBody st9, defScope st9, [], []⟩
def dd10 : He.DefD := ⟨("_law_first", none), "_law_first", "_law_first", defArgs st10, defBody st10, defScope st10, [], []⟩
def dd11 : He.DefD := ⟨("_law_spoilt", none), "_law_spoilt", "_law_spoilt", defArgs st11, defBody st11, defScope st11, [], []⟩
def dd12 : He.DefD := ⟨("_law_line", none), "_law_line", "_law_line", defArgs st12, defBody st12, defScope st12, [], []⟩
def dd13 : He.DefD := ⟨("_law_due", none), "_law_due", "_law_due", defArgs st13, defBody st13, defScope st13, [], []⟩
def dd14 : He.DefD := ⟨("_law_made", none), "_law_made", "_law_made", defArgs st14, defBody st14, defScope st14, [], []⟩
def dd15 : He.DefD := ⟨("_law_lettered", none), "_law_lettered", "_law_lettered", defArgs st15, defBody st15, defScope st15, [], []⟩
def dd16 : He.DefD := ⟨("_law_turned", none), "_law_turned", "_law_turned", defArgs st16, defBody st16, defScope st16, [], []⟩
def dd17 : He.DefD := ⟨("_law_refused", none), "_law_refused", "_law_refused", defArgs st17, defBody st17, defScope st17, [], []⟩
def dd18 : He.DefD := ⟨("_law_refused_turn", none), "_law_refused_turn", "_law_refused_turn", defArgs st18, defBody st18, defScope st18, [], []⟩
def dd19 : He.DefD := ⟨("_law_stretches", none), "_law_stretches", "_law_stretches", defArgs st19, defBody st19, defScope st19, [], []⟩
def dd20 : He.DefD := ⟨("_law_tells", none), "_law_tells", "_law_tells", defArgs st20, defBody st20, defScope st20, [], []⟩
def dd21 : He.DefD := ⟨("_law_judged", none), "_law_judged", "_law_judged", defArgs st21, defBody st21, defScope st21, [], []⟩
def dd22 : He.DefD := ⟨("_law_turns", none), "_law_turns", "_law_turns", defArgs st22, defBody st22, defScope st22, [], []⟩
def dd23 : He.DefD := ⟨("law", none), "law", "law", defArgs st23, defBody st23, defScope st23, [], []⟩
def dd24 : He.DefD := ⟨("Strand", some "__init__"), "__init__", "Strand.__init__", defArgs st24, defBody st24, defScope st24, [], []⟩
def dd25 : He.DefD := ⟨("Strand", some "from_letters"), "from_letters", "Strand.from_letters", defArgs st25, defBody st25, defScope st25, [], []⟩
def dd26 : He.DefD := ⟨("Strand", some "stretches"), "stretches", "Strand.stretches", defArgs st26, defBody st26, defScope st26, [], []⟩
def dd27 : He.DefD := ⟨("Strand", some "mirrored"), "mirrored", "Strand.mirrored", defArgs st27, defBody st27, defScope st27, [], []⟩
def dd28 : He.DefD := ⟨("Strand", some "turned"), "turned", "Strand.turned", defArgs st28, defBody st28, defScope st28, [], []⟩
abbrev st29 : Stmt := inClass (top 10) 7
def dd29 : He.DefD := ⟨("Strand", some "__iter__"), "__iter__", "Strand.__iter__", defArgs st29, defBody st29, defScope st29, [], []⟩
abbrev st30 : Stmt := inClass (top 2) 0
def dd30 : He.DefD := ⟨("BadStrand", some "__init__"), "__init__", "BadStrand.__init__", defArgs st30, defBody st30, defScope st30, [], []⟩
abbrev st31 : Stmt := inClass (top 3) 0
def dd31 : He.DefD := ⟨("NoSuchBead", some "__init__"), "__init__", "NoSuchBead.__init__", defArgs st31, defBody st31, defScope st31, [], []⟩
def fn : List He.DefD := [dd0, dd1, dd2, dd3, dd4, dd5, dd6, dd7, dd8, dd9, dd10, dd11, dd12, dd13, dd14, dd15, dd16, dd17, dd18, dd19, dd20, dd21, dd22, dd23, dd24, dd26, dd27, dd28, dd29, dd30, dd31]
def fa : List He.Fa := [.glo ("check_bead" : PySem.Str), .glo ("letter_kind" : PySem.Str), .glo ("unlike_places" : PySem.Str), .glo ("_law_cell" : PySem.Str), .glo ("_law_mixed" : PySem.Str), .glo ("_law_draws" : PySem.Str), .glo ("_law_kinds" : PySem.Str), .glo ("_law_is_integer" : PySem.Str), .glo ("_law_same" : PySem.Str), .glo ("_law_fixed" : PySem.Str), .glo ("_law_first" : PySem.Str), .glo ("_law_spoilt" : PySem.Str), .glo ("_law_line" : PySem.Str), .glo ("_law_due" : PySem.Str), .glo ("_law_made" : PySem.Str), .glo ("_law_lettered" : PySem.Str), .glo ("_law_turned" : PySem.Str), .glo ("_law_refused" : PySem.Str), .glo ("_law_refused_turn" : PySem.Str), .glo ("_law_stretches" : PySem.Str), .glo ("_law_tells" : PySem.Str), .glo ("_law_judged" : PySem.Str), .glo ("_law_turns" : PySem.Str), .glo ("law" : PySem.Str), .glo ("Strand" : PySem.Str), .glo ("MootError" : PySem.Str), .glo ("BadStrand" : PySem.Str), .glo ("NoSuchBead" : PySem.Str), .glo ("EndBead" : PySem.Str), .glo ("BadRun" : PySem.Str), .mkr "Strand", .cls "Strand", .noat "Strand" ("ends_unlike" : PySem.Str), .noat "Strand" ("kinds" : PySem.Str), .noat "Strand" ("size" : PySem.Str), .noat "Strand" ("unlike_pairs" : PySem.Str), .noat "Strand" ("variety" : PySem.Str), .free ("ValueError" : PySem.Str), .free ("bool" : PySem.Str), .free ("enumerate" : PySem.Str), .free ("int" : PySem.Str), .free ("isinstance" : PySem.Str), .free ("iter" : PySem.Str), .free ("len" : PySem.Str), .free ("list" : PySem.Str), .free ("ord" : PySem.Str), .free ("range" : PySem.Str), .free ("reversed" : PySem.Str), .free ("set" : PySem.Str), .free ("str" : PySem.Str), .free ("tuple" : PySem.Str), .meth "Strand" "stretches", .meth "Strand" "mirrored", .meth "Strand" "turned", .noat "Strand" "__len__", .noat "Strand" "__length_hint__", .meth "Strand" "__iter__", .meth "BadStrand" "__init__", .meth "NoSuchBead" "__init__", .noat "BadStrand" "at", .noat "NoSuchBead" "bead"]
def clA (K : PySem.W.Frag) (i : Nat) : Addr := He.ga K (clL.getD i "")
def cvB (K : PySem.W.Frag) (C : Addr) (f : Str) (i : Int) : Bool := match PySem.W.findCls K (.ref C) (.type "type") f with
  | some (.val (.int j _)) => decide (j = i)
  | _ => false
def oexB (K : PySem.W.Frag) (C : Addr) : Bool := (match K.lookup C with
  | some ⟨.type t, _, .cls ⟨_, _, .ref D :: bm, _, _, true, _, _, _, _, false⟩, sl⟩ => decide (t = "type") && (decide (D = C) && (PySem.HandSPX.refsVE bm && (match sl.toList with
    | [_, _, _, _, some (.builtin b), _] => decide (b = "ValueError.__new__")
    | _ => false)))
  | _ => false) && (decide (PySem.W.findIn K (.ref C) "__setattr__" = some (some (.builtin "object.__setattr__"))) && (decide (PySem.W.subIn K (.ref C) (.type "BaseException") = some true) && (decide (PySem.W.typeIn K (.ref C) = some (.type "type")) && PySem.W.keepIn K (.ref C))))
def excB (K : PySem.W.Frag) (D : Addr) : Bool := decide (PySem.W.findIn K (.ref D) "__getattribute__" = some (some (.builtin "BaseException.__getattribute__"))) && (decide (PySem.W.findIn K (.ref D) "__getattr__" = some none) && (decide (PySem.W.subIn K (.ref D) (.type "BaseException") = some true) && (PySem.W.hasDictIn K D &&
  (decide (PySem.W.findIn K (.ref D) "__class__" = some (some (.builtin "object.__class__"))) && (decide (PySem.W.specialIn K (.builtin "object.__class__") "__get__" = some (some (.builtin "getset_descriptor.__get__"))) && (decide (PySem.W.takesIn K (.builtin "object.__class__") = some true) && decide (PySem.W.mroIn K D (.type "object") = some true)))))))
def insB (K : PySem.W.Frag) (C : Addr) : Bool := decide (PySem.W.findIn K (.ref C) "__class__" = some (some (.builtin "object.__class__"))) && (decide (PySem.W.specialIn K (.builtin "object.__class__") "__get__" = some (some (.builtin "getset_descriptor.__get__"))) && (decide (PySem.W.takesIn K (.builtin "object.__class__") = some true) && (decide (PySem.W.mroIn K C (.type "object") = some true) && decide (PySem.W.kitOne K (.ref C) (.ref C) = some true))))
/-- a class method's record and def -/
def cmA (K : PySem.W.Frag) (C : Addr) (m : Str) : Addr × Addr := match PySem.W.findCls K (.ref C) (.type "type") m with
  | some (.get _ (.ref p) _ _) => (match PySem.W.recIn K p "classmethod" with
    | some (.ref g :: _) => (p, g)
    | _ => (p, 0))
  | _ => (0, 0)
def cmB (K : PySem.W.Frag) (C : Addr) (m : Str) : Bool := (match PySem.W.findCls K (.ref C) (.type "type") m with
  | some (.get (.builtin b) (.ref p) .none (.ref D)) => decide (b = "classmethod.__get__") && (decide (p = (cmA K C m).1) && decide (D = C))
  | _ => false) && ((match PySem.W.recIn K (cmA K C m).1 "classmethod" with
  | some (.ref g :: _) => decide (g = (cmA K C m).2)
  | _ => false) && PySem.W.fnIn K (cmA K C m).2)
def fnA (K : PySem.W.Frag) (a : Addr) : He.FnW := match K.lookup a with
  | some ⟨_, _, .func fd, _⟩ => some (fd.name, fd.qualname, fd.params, fd.body, fd.scope, fd.globals, fd.closure, fd.builtins)
  | _ => none
def okA (K : PySem.W.Frag) (a : Addr) (d : He.DefD) : Bool := PySem.W.keepIn K (.ref a) && (match K.lookup a with
  | some ⟨_, _, .func fd, _⟩ => PySem.W.codeIn K fd.code d.qual && (He.dflB K fd.defaults (d.dvs K) && He.kwdB K fd.kwdefaults (d.kws K))
  | _ => false)
theorem funA {K : PySem.W.Frag} {a : Addr} {d : He.DefD} (e : fnA K a = d.val) (c : okA K a d = true) : ∃ fd, FunD K d.name d.qual d.params d.body d.scope (d.dvs K) (d.kws K) a fd := by
  obtain ⟨kp, c2⟩ := He.ba c
  unfold fnA at e
  cases q : K.lookup a with
  | none =>
    rw [q] at c2
    cases c2
  | some o =>
    obtain ⟨oc, od, dt, osl⟩ := o
    rw [q] at c2 e
    cases dt with
    | func fd =>
      obtain ⟨n1, n2, n3, n4, n5, n6, n7, n8, n9, n10, n11, n12, n13, n14, n15⟩ := fd
      have e2 : (some (n1, n2, n3, n4, n5, n6, n7, n15) : He.FnW) = some (d.name, d.qual, d.params, .stmts d.body, d.scope, mainGlobals, [], builtinsNs) := e
      simp only [Option.some.injEq, Prod.mk.injEq] at e2
      obtain ⟨h1, h2, h3, h4, h5, h6, h7, h8⟩ := e2
      subst h1 h2 h3 h4 h5 h6 h7 h8
      have c3 : (PySem.W.codeIn K n13 d.qual && (He.dflB K n8 (d.dvs K) && He.kwdB K n9 (d.kws K))) = true := c2
      obtain ⟨k1, k2⟩ := He.ba c3
      obtain ⟨k3, k4⟩ := He.ba k2
      exact ⟨_, ⟨oc, od, n8, n9, n10, n11, n12, n13, n14, osl, rfl, q, k1, He.dflB_ok k3, He.kwdB_ok k4⟩, kp⟩
    | _ => cases c2
/-- isinstance and except: (error, class, answer) -/
def isL : List (Nat × Nat × Bool) := [(2, 1, true), (2, 2, true), (2, 3, false), (2, 4, false), (2, 5, false), (3, 1, true), (3, 2, false), (3, 3, true), (3, 4, false), (3, 5, false)]
def isB1 (K : PySem.W.Frag) (q : Nat × Nat × Bool) : Bool := decide (PySem.W.exmOne K (.ref (clA K q.1)) (.ref (clA K q.2.1)) = some q.2.2) && decide (PySem.W.kitOne K (.ref (clA K q.1)) (.ref (clA K q.2.1)) = some q.2.2)
def cmS (K : PySem.W.Frag) : Addr := (cmA K (clA K 0) "from_letters").2
def exB (K : PySem.W.Frag) : Bool := PySem.W.readsIn K (clA K 0) (.type "type") && (decide (PySem.W.specialIn K (.ref (clA K 0)) "__getattribute__" = some (some (.builtin "type.__getattribute__"))) && (cvB K (clA K 0) "MOST" 24 && (cvB K (clA K 0) "TOP_KIND" 999 && (insB K (clA K 0) && (cmB K (clA K 0) "from_letters" && (okA K (cmS K) dd25 && (oexB K (clA K 2) && (oexB K (clA K 3) && (excB K (clA K 2) && (excB K (clA K 3) && (isL.all (isB1 K) && (decide (PySem.W.kitOne K (.ref (clA K 2)) (.type "ValueError") = some true) && (decide (PySem.W.kitOne K (.ref (clA K 3)) (.type "ValueError") = some true) && decide (clA K 2 ≠ clA K 3))))))))))))))
/-! ### the Hook -/
abbrev R : PySem.W.OpenRow := PySem.W.OpenLaw.row PySem.Challenge.rw_beadmoot_k01_strands
def refsS (o : Obj) : List Addr := match o.data with
  | .dict es _ => es.toList.flatMap fun e => He.refV e.val
  | .func fd => He.refV fd.code
  | .cls cd => [cd.ns]
  | .fields vs => vs.toList.flatMap He.refV
  | _ => []
def lev (g : Addr → Option Obj) (as : List Addr) : List Addr := as.flatMap fun a => match g a with
  | some o => refsS o
  | none => []
def asS (g : Addr → Option Obj) : Nat → List Addr → List Addr
  | 0, l => l
  | n + 1, l => l ++ asS g n (lev g l)
def obK (K : PySem.W.Frag) : He.AlD × Bool × He.FnW := (He.obsD fa fn K, exB K, fnA K (cmS K))
def obB (g : Addr → Option Obj) : He.AlD × Bool × He.FnW := obK (He.frG g (cStatics :: asS g 5 [mainGlobals]))
def hk : PySem.W.Hook where
  α := He.AlD × Bool × He.FnW
  obs := fun s => obB s.heap.get?
  val := fun _ => (He.valD fn, true, dd25.val)
  says := fun _ h => ∃ K : PySem.W.Frag, K.In h ∧ He.SaysD fa fn K ∧ exB K = true ∧ fnA K (cmS K) = dd25.val
  of := fun _ _ e => ⟨_, He.frG_in, congrArg (fun z : He.AlD × Bool × He.FnW => z.1) e, congrArg (fun z : He.AlD × Bool × He.FnW => z.2.1) e, congrArg (fun z : He.AlD × Bool × He.FnW => z.2.2) e⟩
  keeps := fun _ _ _ ⟨K, hK, c⟩ k => ⟨K, PySem.W.Frag.In.keeps hK k, c⟩
def ob (s : PySem.W.SharedT) : He.AlD × Bool × He.FnW := obB (HandSHeadRun.getT s)
theorem ob_eq (s : PySem.W.SharedT) : ob s = hk.obs s.abs := by
  have e : HandSHeadRun.getT s = s.abs.heap.get? := funext (HandSHeadRun.getT_eq s)
  show obB _ = obB _
  rw [e]
def names : List PySem.Str := [("MootError" : PySem.Str), ("BadStrand" : PySem.Str), ("NoSuchBead" : PySem.Str), ("EndBead" : PySem.Str), ("BadRun" : PySem.Str), ("Strand" : PySem.Str), ("check_bead" : PySem.Str), ("letter_kind" : PySem.Str), ("unlike_places" : PySem.Str), ("_law_cell" : PySem.Str), ("_law_mixed" : PySem.Str), ("_law_draws" : PySem.Str), ("_law_kinds" : PySem.Str), ("_law_is_integer" : PySem.Str), ("_law_same" : PySem.Str), ("_law_fixed" : PySem.Str), ("_law_first" : PySem.Str), ("_law_spoilt" : PySem.Str), ("_law_line" : PySem.Str), ("_law_due" : PySem.Str), ("_law_made" : PySem.Str), ("_law_lettered" : PySem.Str), ("_law_turned" : PySem.Str), ("_law_refused" : PySem.Str), ("_law_refused_turn" : PySem.Str), ("_law_stretches" : PySem.Str), ("_law_tells" : PySem.Str), ("_law_judged" : PySem.Str), ("_law_turns" : PySem.Str)]
end L01
end

section
set_option Elab.async false
set_option linter.all false
set_option maxRecDepth 100000
set_option maxHeartbeats 0
namespace L01
open PySem PySem.Spec PyProof.Rows L2
theorem run (w : World) : HandSHeadRun.RunEq R (PySem.W.view R.prog [32]) hk ob 8000 names w := by
  intro os
  kernel_rfl
end L01
end

section
set_option Elab.async false
set_option linter.all false
set_option maxRecDepth 100000
set_option maxHeartbeats 4000000
set_option autoImplicit false
namespace Ev
open PySem PySem.Spec PyProof.Rows L2 Pd
/-! ### the evaluator's equations, one by one (no rfl: the kernel need not run them) -/

theorem ev_cst (Φ : Phi) (γ : List S2) (t : Bool) (d : D) : ev Φ γ t (.cst d) = tst t (some (.val d)) := by rw [ev] <;> rfl
theorem ev_loc (Φ : Phi) (γ : List S2) (t : Bool) (i : Nat) : ev Φ γ t (.loc i) = tst t (match γ[i]? with
    | some (.sh d) => some (.val d)
    | _ => none) := by rw [ev] <;> rfl
theorem ev_glo (Φ : Phi) (γ : List S2) (t : Bool) (n : Nat) : ev Φ γ t (.glo n) = tst t ((Φ.glob n).map .val) := by rw [ev] <;> rfl
theorem ev_kls (Φ : Phi) (γ : List S2) (t : Bool) (n : Nat) : ev Φ γ t (.kls n) = tst t (some (.val (.adr (Φ.ga n)))) := by rw [ev] <;> rfl
theorem ev_bin (Φ : Phi) (γ : List S2) (t : Bool) (op : Operator) (a : IE) (b : IE) : ev Φ γ t (.bin op a b) = tst t (RR.and (ev Φ γ false a) fun x => RR.and (ev Φ γ false b) fun y => binD op x y) := by rw [ev] <;> rfl
theorem ev_neg (Φ : Phi) (γ : List S2) (t : Bool) (a : IE) : ev Φ γ t (.neg a) = tst t (RR.and (ev Φ γ false a) negD) := by rw [ev] <;> rfl
theorem ev_not (Φ : Phi) (γ : List S2) (t : Bool) (a : IE) : ev Φ γ t (.not a) = RR.and (ev Φ γ t a) notD := by rw [ev] <;> rfl
theorem ev_and (Φ : Phi) (γ : List S2) (t : Bool) (a : IE) (b : IE) : ev Φ γ t (.and a b) = RR.and (ev Φ γ t a) fun
    | .bl true => ev Φ γ t b
    | .bl false => bv false
    | _ => none := by rw [ev] <;> rfl
theorem ev_or (Φ : Phi) (γ : List S2) (t : Bool) (a : IE) (b : IE) : ev Φ γ t (.or a b) = RR.and (ev Φ γ t a) fun
    | .bl true => bv true
    | .bl false => ev Φ γ t b
    | _ => none := by rw [ev] <;> rfl
theorem ev_ife (Φ : Phi) (γ : List S2) (c a b : IE) : ev Φ γ false (.ife c a b) = match bl? (ev Φ γ true c) with
      | some true => ev Φ γ false a
      | some false => ev Φ γ false b
      | none => none := by rw [ev] <;> rfl
theorem ev_cmp (Φ : Phi) (γ : List S2) (t : Bool) (op : CmpOp) (a : IE) (b : IE) : ev Φ γ t (.cmp op a b) = RR.and (ev Φ γ false a) fun x => RR.and (ev Φ γ false b) fun y => (cmpD op x y).bind bv := by rw [ev] <;> rfl
theorem ev_chn (Φ : Phi) (γ : List S2) (t : Bool) (op : CmpOp) (op' : CmpOp) (a : IE) (b : IE) (c : IE) : ev Φ γ t (.chn op op' a b c) = RR.and (ev Φ γ false a) fun x => RR.and (ev Φ γ false b) fun y => match cmpD op x y with
    | none => none
    | some false => bv false
    | some true => RR.and (ev Φ γ false c) fun z => (cmpD op' y z).bind bv := by rw [ev] <;> rfl
theorem ev_isc (Φ : Phi) (γ : List S2) (t : Bool) (n : Bool) (a : IE) (d : D) : ev Φ γ t (.isc n a d) = RR.and (ev Φ γ false a) fun x => (iscD d x).bind fun b => bv (if n then !b else b) := by rw [ev] <;> rfl
theorem ev_fn (Φ : Phi) (γ : List S2) (t : Bool) (f : Nat) (as : List IE) : ev Φ γ t (.fn f as) = tst t (evL Φ γ as fun ds => Φ.call f ds) := by rw [ev] <;> rfl
theorem ev_fnk (Φ : Phi) (γ : List S2) (t : Bool) (f : Nat) (p : Nat) (as : List IE) (kvs : List IE) : ev Φ γ t (.fnk f p as kvs) = tst t (evL Φ γ as fun ds => evL Φ γ kvs fun es => Φ.call f ((Φ.arr p).map (paD ds es))) := by rw [ev] <;> rfl
theorem ev_mk (Φ : Phi) (γ : List S2) (t : Bool) (f : Nat) (p : Nat) (as : List IE) (kvs : List IE) : ev Φ γ t (.mk f p as kvs) = tst t (evL Φ γ as fun ds => evL Φ γ kvs fun es => Φ.call f ((Φ.arr p).map (paD ds es))) := by rw [ev] <;> rfl
theorem ev_mth (Φ : Phi) (γ : List S2) (t : Bool) (o : IE) (m : Nat) (p : Nat) (as : List IE) (kvs : List IE) : ev Φ γ t (.mth o m p as kvs) = tst t (RR.and (ev Φ γ false o) fun x => match x with
    | .obj C fs => if Φ.meth C m = some (Φ.pf p) ∧ (fs.lookup (Φ.mn m)).isNone = true then evL Φ γ as fun ds => evL Φ γ kvs fun es => Φ.call (Φ.pf p) (.obj C fs :: (Φ.arr p).map (paD ds es)) else none
    | _ => none) := by rw [ev] <;> rfl
theorem ev_cm (Φ : Phi) (γ : List S2) (t : Bool) (c : Nat) (m : Nat) (p : Nat) (as : List IE) (kvs : List IE) : ev Φ γ t (.cm c m p as kvs) = tst t (if Φ.cmeth c m = some (Φ.pf p) then evL Φ γ as fun ds => evL Φ γ kvs fun es => Φ.call (Φ.pf p) (.adr (Φ.ga c) :: (Φ.arr p).map (paD ds es)) else none) := by rw [ev] <;> rfl
theorem ev_lmk (Φ : Phi) (γ : List S2) (t : Bool) (i : Nat) (as : List IE) : ev Φ γ t (.lmk i as) = tst t (match γ[i]? with
    | some (.sh (.adr C)) => (match Φ.ctor C with
      | some f => evL Φ γ as fun ds => Φ.call f ds
      | none => none)
    | _ => none) := by rw [ev] <;> rfl
theorem ev_bi (Φ : Phi) (γ : List S2) (t : Bool) (b : BI) (as : List IE) : ev Φ γ t (.bi b as) = tst t (evL Φ γ as fun ds => biD b ds) := by rw [ev] <;> rfl
theorem ev_bm (Φ : Phi) (γ : List S2) (t : Bool) (b : BM) (o : IE) (as : List IE) : ev Φ γ t (.bm b o as) = tst t (RR.and (ev Φ γ false o) fun x => if bmT b x then evL Φ γ as fun ds => bmD b x ds else none) := by rw [ev] <;> rfl
theorem ev_ins (Φ : Phi) (γ : List S2) (t : Bool) (a : IE) (n : Nat) : ev Φ γ t (.ins a n) = RR.and (ev Φ γ false a) fun x => match x with
    | .obj C _ => (Φ.isO C n).bind bv
    | _ => none := by rw [ev] <;> rfl
theorem ev_inb (Φ : Phi) (γ : List S2) (t : Bool) (a : IE) (n : String) : ev Φ γ t (.inb a n) = RR.and (ev Φ γ false a) fun x => match x.tyN with
    | some t => (kitB t n).bind bv
    | none => none := by rw [ev] <;> rfl
theorem ev_att (Φ : Phi) (γ : List S2) (t : Bool) (o : IE) (f : Str) : ev Φ γ t (.att o f) = tst t (RR.and (ev Φ γ false o) fun x => match x with
    | .obj C fs => if Φ.fld C f then (fs.lookup f).map .val else none
    | _ => none) := by rw [ev] <;> rfl
theorem ev_exa (Φ : Phi) (γ : List S2) (t : Bool) (i : Nat) (f : Str) : ev Φ γ t (.exa i f) = tst t (match γ[i]? with
    | some (.ex C fs) => if Φ.xfl C f then (fs.lookup f).map .val else none
    | _ => none) := by rw [ev] <;> rfl
theorem ev_exi (Φ : Phi) (γ : List S2) (t : Bool) (i : Nat) (n : Nat) : ev Φ γ t (.exi i n) = match γ[i]? with
    | some (.ex C _) => (Φ.isX C n).bind bv
    | _ => none := by rw [ev] <;> rfl
theorem ev_exb (Φ : Phi) (γ : List S2) (t : Bool) (i : Nat) (n : String) : ev Φ γ t (.exb i n) = match γ[i]? with
    | some (.ex C _) => (Φ.isB C n).bind bv
    | _ => none := by rw [ev] <;> rfl
theorem ev_con (Φ : Phi) (γ : List S2) (t : Bool) (c : Nat) (f : Str) : ev Φ γ t (.con c f) = tst t ((Φ.ccon c f).map .val) := by rw [ev] <;> rfl
theorem ev_sub (Φ : Phi) (γ : List S2) (t : Bool) (a : IE) (b : IE) : ev Φ γ t (.sub a b) = tst t (RR.and (ev Φ γ false a) fun x => RR.and (ev Φ γ false b) fun y => subD x y) := by rw [ev] <;> rfl
theorem ev_slc (Φ : Phi) (γ : List S2) (t : Bool) (a : IE) (lo : List IE) (hi : List IE) : ev Φ γ t (.slc a lo hi) = tst t (RR.and (ev Φ γ false a) fun x => match evO Φ γ lo, evO Φ γ hi with
    | some l, some h => slcD x l h
    | _, _ => none) := by rw [ev] <;> rfl
theorem ev_rev (Φ : Phi) (γ : List S2) (t : Bool) (a : IE) : ev Φ γ t (.rev a) = tst t (RR.and (ev Φ γ false a) fun x => match x with
    | .tup ds => some (.val (.tup ds.reverse))
    | _ => none) := by rw [ev] <;> rfl
theorem ev_lst (Φ : Phi) (γ : List S2) (t : Bool) (es : List IE) : ev Φ γ t (.lst es) = tst t (evL Φ γ es fun ds => if ds.length ≤ 100000 then some (.new ds) else none) := by rw [ev] <;> rfl
theorem ev_tup (Φ : Phi) (γ : List S2) (t : Bool) (es : List IE) : ev Φ γ t (.tup es) = tst t (evL Φ γ es fun ds => if ds.length ≤ 100000 then some (.val (.tup ds)) else none) := by rw [ev] <;> rfl
theorem ev_lc (Φ : Phi) (γ : List S2) (t : Bool) (elt : IE) (tg : List Nat) (k : IK) (its : List IE) (cond : List IE) : ev Φ γ t (.lc elt tg k its cond) = tst t (match (evD Φ γ its).bind (itms k) with
    | none => none
    | some items => if items.length ≤ 50000 then (lcGo (fun d => match put tg d (blk γ tg) with
      | none => none
      | some γ2 => match evC Φ γ2 cond with
        | some true => (RR.d? (ev Φ γ2 false elt)).map some
        | some false => some none
        | none => none) items).map .new else none) := by rw [ev] <;> rfl
theorem ev_lc2 (Φ : Phi) (γ : List S2) (t : Bool) (elt : IE) (t1 : List Nat) (k1 : IK) (its1 : List IE) (t2 : List Nat) (k2 : IK) (its2 : List IE) : ev Φ γ t (.lc2 elt t1 k1 its1 t2 k2 its2) = tst t (match (evD Φ γ its1).bind (itms k1) with
    | none => none
    | some items => if items.length ≤ 300 then (lcGo2 (fun d => match put t1 d (blk γ (t1 ++ t2)) with
      | none => none
      | some γ2 => match (evD Φ γ2 its2).bind (itms k2) with
        | none => none
        | some items2 => if items2.length ≤ 300 then lcGo (fun d2 => match put t2 d2 (blk γ2 t2) with
          | none => none
          | some γ3 => (RR.d? (ev Φ γ3 false elt)).map some) items2 else none) items).map .new else none) := by rw [ev] <;> rfl
theorem ev_gcd (Φ : Phi) (γ : List S2) (t : Bool) (as : List IE) : ev Φ γ t (.gcd as) = tst t (evL Φ γ as gcdD) := by rw [ev] <;> rfl
theorem ev_lrg (Φ : Phi) (γ : List S2) (t : Bool) (as : List IE) : ev Φ γ t (.lrg as) = tst t (evL Φ γ as lrgD) := by rw [ev] <;> rfl
theorem ev_itr (Φ : Phi) (γ : List S2) (t : Bool) (a : IE) : ev Φ γ t (.itr a) = tst t (RR.and (ev Φ γ false a) fun x => match x with
    | .obj C fs => (match Φ.itf C with
      | some f => (match fs.lookup f with
        | some (.tup ds) => some (.val (.tup ds))
        | _ => none)
      | none => none)
    | _ => none) := by rw [ev] <;> rfl
theorem evS_asg (Φ : Phi) (v : Vw) (i : Nat) (e : IE) (γ : List S2) : evS Φ (.asg v i e) γ = match evP Φ γ v e with
    | some (γ1, r) => setS i γ1 r
    | none => none := by rw [evS] <;> rfl
theorem evS_asgs (Φ : Phi) (v : Vw) (tg : List Nat) (e : IE) (γ : List S2) : evS Φ (.asgs v tg e) γ = match evP Φ γ v e with
    | some (γ1, .val d) => (put tg d γ1).map .nx
    | some (γ1, .exc C fs) => some (.xc C fs γ1)
    | _ => none := by rw [evS] <;> rfl
theorem evS_seti (Φ : Phi) (v : Vw) (i : Nat) (ix : IE) (e : IE) (γ : List S2) : evS Φ (.seti v i ix e) γ = match evP Φ γ v e with
    | some (γ1, r) => (match RR.d? (some r), RR.d? (ev Φ (γ1.map S2.vwO) false ix), γ1[i]? with
      | some d, some (.int j), some (.ow ds) => (ixN ds.length j).map fun n => .nx (γ1.set i (.ow (ds.set n d)))
      | _, _, _ => none)
    | _ => none := by rw [evS] <;> rfl
theorem evS_app (Φ : Phi) (v : Vw) (i : Nat) (e : IE) (γ : List S2) : evS Φ (.app v i e) γ = match evP Φ γ v e with
    | some (γ1, r) => (match RR.d? (some r), γ1[i]? with
      | some d, some (.ow ds) => if ds.length < 100000 then some (.nx (γ1.set i (.ow (ds ++ [d])))) else none
      | _, _ => none)
    | _ => none := by rw [evS] <;> rfl
theorem evS_fld (Φ : Phi) (v : Vw) (f : Str) (e : IE) (γ : List S2) : evS Φ (.fld v f e) γ = match evP Φ γ v e with
    | some (γ1, r) => (match r, RR.d? (some r), (γ1[0]? : Option S2) with
      | .exc C fs, _, _ => some (.xc C fs γ1)
      | _, some d, some (.ob C fs) => if fs.length < 1000 ∧ Φ.fld C f = true then some (.nx (γ1.set 0 (.ob C (putFD f d fs)))) else none
      | _, _, _ => none)
    | _ => none := by rw [evS] <;> rfl
theorem evS_ret (Φ : Phi) (v : Vw) (e : IE) (γ : List S2) : evS Φ (.ret v e) γ = match evP Φ γ v e with
    | some (_, .val d) => some (.rt d)
    | some (_, .new ds) => some (.rn ds)
    | some (γ1, .exc C fs) => some (.xc C fs γ1)
    | none => none := by rw [evS] <;> rfl
theorem evS_reto (Φ : Phi) (i : Nat) (γ : List S2) : evS Φ (.reto i) γ = match γ[i]? with
    | some (.ow ds) => some (.rn ds)
    | _ => none := by rw [evS] <;> rfl
theorem evS_retN (Φ : Phi)  (γ : List S2) : evS Φ (.retN ) γ = some (.rt .non) := by rw [evS] <;> rfl
theorem evS_ite (Φ : Phi) (c : IE) (a : List IS) (b : List IS) (γ : List S2) : evS Φ (.ite c a b) γ = match ev Φ (γ.map S2.vwO) true c with
    | some (.val (.bl true)) => evSs Φ a γ
    | some (.val (.bl false)) => evSs Φ b γ
    | _ => none := by rw [evS] <;> rfl
theorem evS_for (Φ : Phi) (us : List Nat) (tg : List Nat) (k : IK) (its : List IE) (body : List IS) (γ : List S2) : evS Φ (.for us tg k its body) γ = (match (evD Φ (frz γ us) its).bind (itms k) with
    | some items => forGo (put tg) (fun γ1 => evSs Φ body γ1) items (frz γ us)
    | none => none) := by rw [evS] <;> rfl
theorem evS_raise (Φ : Phi) (v : Vw) (C : Nat) (e : IE) (γ : List S2) : evS Φ (.raise v C e) γ = match evP Φ γ v e with
    | some (γ1, .val d) => (Φ.efld C).map fun f => .xc (Φ.ga C) [(f, d)] γ1
    | _ => none := by rw [evS] <;> rfl
theorem evS_exp (Φ : Phi) (v : Vw) (e : IE) (γ : List S2) : evS Φ (.exp v e) γ = match evP Φ γ v e with
    | some (γ1, .exc C fs) => some (.xc C fs γ1)
    | some (γ1, _) => some (.nx γ1)
    | none => none := by rw [evS] <;> rfl
theorem evS_try (Φ : Phi) (body : List IS) (C : Nat) (i : Nat) (suite : List IS) (γ : List S2) : evS Φ (.try body C i suite) γ = match evSs Φ body γ with
    | some (.xc A fs γ1) => (match Φ.isX A C with
      | some true => (match evSs Φ suite (γ1.set i (.ex A fs)) with
        | some (.nx γ2) => some (.nx (γ2.set i .no))
        | some (.rt d) => some (.rt d)
        | some (.rn ds) => some (.rn ds)
        | _ => none)
      | _ => none)
    | o => o := by rw [evS] <;> rfl
theorem evS_pass (Φ : Phi)  (γ : List S2) : evS Φ (.pass ) γ = some (.nx γ) := by rw [evS] <;> rfl
theorem evS_brk (Φ : Phi)  (γ : List S2) : evS Φ (.brk ) γ = some (.bk γ) := by rw [evS] <;> rfl
theorem evS_cont (Φ : Phi)  (γ : List S2) : evS Φ (.cont ) γ = some (.ct γ) := by rw [evS] <;> rfl
theorem evSs_nil (Φ : Phi) (γ : List S2) : evSs Φ [] γ = some (.nx γ) := by rw [evSs]
theorem evSs_cons (Φ : Phi) (i : IS) (r : List IS) (γ : List S2) : evSs Φ (i :: r) γ = Out.then (evS Φ i γ) (evSs Φ r) := by rw [evSs] <;> rfl
theorem evL_nil (Φ : Phi) (γ : List S2) (k : List D → Option RR) : evL Φ γ [] k = k [] := by rw [evL]
theorem evL_cons (Φ : Phi) (γ : List S2) (e : IE) (es : List IE) (k : List D → Option RR) : evL Φ γ (e :: es) k = RR.and (ev Φ γ false e) fun d => evL Φ γ es fun ds => k (d :: ds) := by rw [evL]
theorem evC_nil (Φ : Phi) (γ : List S2) : evC Φ γ [] = some true := by rw [evC]
theorem evC_cons (Φ : Phi) (γ : List S2) (e : IE) (es : List IE) : evC Φ γ (e :: es) = bl? (ev Φ γ true e) := by rw [evC]
theorem evO_nil (Φ : Phi) (γ : List S2) : evO Φ γ [] = some none := by rw [evO]
theorem evO_cons (Φ : Phi) (γ : List S2) (e : IE) (es : List IE) : evO Φ γ (e :: es) = match RR.d? (ev Φ γ false e) with
    | some (.int i) => some (some i)
    | _ => none := by rw [evO] <;> rfl
theorem evD_nil (Φ : Phi) (γ : List S2) : evD Φ γ [] = some [] := by rw [evD]
theorem evD_cons (Φ : Phi) (γ : List S2) (e : IE) (es : List IE) : evD Φ γ (e :: es) = match RR.d? (ev Φ γ false e), evD Φ γ es with
    | some d, some ds => some (d :: ds)
    | _, _ => none := by rw [evD] <;> rfl
theorem then_nx (γ : List S2) (k : List S2 → Option Out) : Out.then (some (.nx γ)) k = k γ := by unfold Out.then; rfl
theorem then_rt (d : D) (k : List S2 → Option Out) : Out.then (some (.rt d)) k = some (.rt d) := by unfold Out.then; rfl
theorem then_rn (d : List D) (k : List S2 → Option Out) : Out.then (some (.rn d)) k = some (.rn d) := by unfold Out.then; rfl
theorem then_bk (d : List S2) (k : List S2 → Option Out) : Out.then (some (.bk d)) k = some (.bk d) := by unfold Out.then; rfl
theorem and_val (d : D) (k : D → Option RR) : RR.and (some (.val d)) k = k d := by unfold RR.and; rfl
theorem and_new (d : List D) (k : D → Option RR) : RR.and (some (.new d)) k = k (.lst d) := by unfold RR.and; rfl
theorem tst_f (r : Option RR) : tst false r = r := by unfold tst; rfl
theorem forGo_nil (p : D → List S2 → Option (List S2)) (f : List S2 → Option Out) (γ : List S2) : forGo p f [] γ = some (.nx γ) := by unfold forGo; rfl
theorem forGo_cons (p : D → List S2 → Option (List S2)) (f : List S2 → Option Out) (d : D) (r : List D) (γ γ1 : List S2) (h : p d γ = some γ1) : forGo p f (d :: r) γ = match f γ1 with
      | some (.nx γ2) => forGo p f r γ2
      | some (.ct γ2) => forGo p f r γ2
      | some (.bk γ2) => some (.nx γ2)
      | o => o := by
  rw [forGo]
  rw [h] <;> rfl
theorem forGo_nx (p : D → List S2 → Option (List S2)) (f : List S2 → Option Out) (d : D) (r : List D) (γ γ1 γ2 : List S2) (h : p d γ = some γ1) (h2 : f γ1 = some (.nx γ2)) : forGo p f (d :: r) γ = forGo p f r γ2 := by
  rw [forGo_cons p f d r γ γ1 h, h2]
theorem forGo_bk (p : D → List S2 → Option (List S2)) (f : List S2 → Option Out) (d : D) (r : List D) (γ γ1 γ2 : List S2) (h : p d γ = some γ1) (h2 : f γ1 = some (.bk γ2)) : forGo p f (d :: r) γ = some (.nx γ2) := by
  rw [forGo_cons p f d r γ γ1 h, h2]
/-! ### steps: a statement's own evaluation is a fact apart -/
section
variable {Φ : Phi} {γ γ1 γ2 : List S2} {r : List IS} {i : Nat} {v : Vw} {e c : IE} {a b : List IS} {d : D} {ds : List D} {o : Option Out}
theorem st_nx {s : IS} (h : evS Φ s γ = some (.nx γ2)) : evSs Φ (s :: r) γ = evSs Φ r γ2 := by rw [evSs_cons, h, then_nx]
theorem st_rt {s : IS} (h : evS Φ s γ = some (.rt d)) : evSs Φ (s :: r) γ = some (.rt d) := by rw [evSs_cons, h, then_rt]
theorem st_rn {s : IS} (h : evS Φ s γ = some (.rn ds)) : evSs Φ (s :: r) γ = some (.rn ds) := by rw [evSs_cons, h, then_rn]
theorem st_bk {s : IS} (h : evS Φ s γ = some (.bk γ2)) : evSs Φ (s :: r) γ = some (.bk γ2) := by rw [evSs_cons, h, then_bk]
theorem ex_pl {x : RR} (h : ev Φ γ false e = some x) : evP Φ γ .pl e = some (γ, x) := by rw [show evP Φ γ .pl e = (ev Φ γ false e).map fun r => (γ, r) from rfl, h]; rfl
theorem ex_fz {x : RR} {us : List Nat} (h : ev Φ (frz γ us) false e = some x) : evP Φ γ (.fz us) e = some (frz γ us, x) := by rw [show evP Φ γ (.fz us) e = (ev Φ (frz γ us) false e).map fun r => (frz γ us, r) from rfl, h]; rfl
theorem ex_vw {x : RR} (h : ev Φ (γ.map S2.vwL) false e = some x) (hn : x.na = true) : evP Φ γ .vw e = some (γ, x) := by
  rw [show evP Φ γ .vw e = (ev Φ (γ.map S2.vwL) false e).bind fun r => if r.na then some (γ, r) else none from rfl, h]
  exact if_pos hn
theorem ex_vo {x : RR} (h : ev Φ (γ.map S2.vwO) false e = some x) (hn : x.sc = true) : evP Φ γ .vo e = some (γ, x) := by
  rw [show evP Φ γ .vo e = (ev Φ (γ.map S2.vwO) false e).bind fun r => if r.sc then some (γ, r) else none from rfl, h]
  exact if_pos hn
theorem asg_v (h : evP Φ γ v e = some (γ1, .val d)) : evS Φ (.asg v i e) γ = some (.nx (γ1.set i (.sh d))) := by rw [evS_asg, h] <;> rfl
theorem asg_n (h : evP Φ γ v e = some (γ1, .new ds)) : evS Φ (.asg v i e) γ = some (.nx (γ1.set i (.ow ds))) := by rw [evS_asg, h] <;> rfl
theorem asgs_v {tg : List Nat} (h : evP Φ γ v e = some (γ1, .val d)) (hp : put tg d γ1 = some γ2) : evS Φ (.asgs v tg e) γ = some (.nx γ2) := by
  rw [evS_asgs, h]
  show (put tg d γ1).map Out.nx = _
  rw [hp]; rfl
theorem ret_v (h : evP Φ γ v e = some (γ1, .val d)) : evS Φ (.ret v e) γ = some (.rt d) := by rw [evS_ret, h] <;> rfl
theorem ret_n (h : evP Φ γ v e = some (γ1, .new ds)) : evS Φ (.ret v e) γ = some (.rn ds) := by rw [evS_ret, h] <;> rfl
theorem ite_t (h : ev Φ (γ.map S2.vwO) true c = some (.val (.bl true))) : evS Φ (.ite c a b) γ = evSs Φ a γ := by rw [evS_ite, h] <;> rfl
theorem ite_f (h : ev Φ (γ.map S2.vwO) true c = some (.val (.bl false))) : evS Φ (.ite c a b) γ = evSs Φ b γ := by rw [evS_ite, h] <;> rfl
theorem ite_f0 (h : ev Φ (γ.map S2.vwO) true c = some (.val (.bl false))) : evS Φ (.ite c a []) γ = some (.nx γ) := by rw [ite_f h, evSs_nil]
theorem for_ {us tg : List Nat} {k : IK} {its : List IE} {body : List IS} {items : List D} (h : (evD Φ (frz γ us) its).bind (itms k) = some items) : evS Φ (.for us tg k its body) γ = forGo (put tg) (fun γ1 => evSs Φ body γ1) items (frz γ us) := by rw [evS_for, h]
theorem loc_v {j : Nat} (h : γ[j]? = some (.sh d)) : ev Φ γ false (.loc j) = some (.val d) := by rw [ev_loc, h] <;> rfl
theorem evD1_v (h : ev Φ γ false e = some (.val d)) : evD Φ γ [e] = some [d] := by rw [evD_cons, evD_nil, h] <;> rfl
theorem evD1_n (h : ev Φ γ false e = some (.new ds)) : evD Φ γ [e] = some [.lst ds] := by rw [evD_cons, evD_nil, h] <;> rfl
theorem evD2_v {e2 : IE} {d2 : D} (h : ev Φ γ false e = some (.val d)) (h2 : ev Φ γ false e2 = some (.val d2)) : evD Φ γ [e, e2] = some [d, d2] := by rw [evD_cons, evD1_v h2, h] <;> rfl
theorem for1 {us tg : List Nat} {k : IK} {body : List IS} {items : List D} (h : ev Φ (frz γ us) false e = some (.val d)) (hi : itms k [d] = some items) : evS Φ (.for us tg k [e] body) γ = forGo (put tg) (fun γ1 => evSs Φ body γ1) items (frz γ us) := by rw [evS_for, evD1_v h, Option.bind_some, hi]
theorem for2 {us tg : List Nat} {k : IK} {body : List IS} {items : List D} {e2 : IE} {d2 : D} (h : ev Φ (frz γ us) false e = some (.val d)) (h2 : ev Φ (frz γ us) false e2 = some (.val d2)) (hi : itms k [d, d2] = some items) : evS Φ (.for us tg k [e, e2] body) γ = forGo (put tg) (fun γ1 => evSs Φ body γ1) items (frz γ us) := by rw [evS_for, evD2_v h h2, Option.bind_some, hi]
theorem fn_1 {f : Nat} {e1 : IE} {d1 : D} (h1 : ev Φ γ false e1 = some (.val d1)) : ev Φ γ false (.fn f [e1]) = Φ.call f [d1] := by rw [ev_fn, evL_cons, h1, and_val, evL_nil, tst_f]
theorem fn_2 {f : Nat} {e1 e2 : IE} {d1 d2 : D} (h1 : ev Φ γ false e1 = some (.val d1)) (h2 : ev Φ γ false e2 = some (.val d2)) : ev Φ γ false (.fn f [e1, e2]) = Φ.call f [d1, d2] := by rw [ev_fn, evL_cons, h1, and_val, evL_cons, h2, and_val, evL_nil, tst_f]
theorem fn_3 {f : Nat} {e1 e2 e3 : IE} {d1 d2 d3 : D} (h1 : ev Φ γ false e1 = some (.val d1)) (h2 : ev Φ γ false e2 = some (.val d2)) (h3 : ev Φ γ false e3 = some (.val d3)) : ev Φ γ false (.fn f [e1, e2, e3]) = Φ.call f [d1, d2, d3] := by rw [ev_fn, evL_cons, h1, and_val, evL_cons, h2, and_val, evL_cons, h3, and_val, evL_nil, tst_f]
theorem cst_v (x : D) : ev Φ γ false (.cst x) = some (.val x) := by rw [ev_cst, tst_f]
theorem bin_v {op : Operator} {e1 e2 : IE} {d1 d2 : D} {x : RR} (h1 : ev Φ γ false e1 = some (.val d1)) (h2 : ev Φ γ false e2 = some (.val d2)) (h : binD op d1 d2 = some x) : ev Φ γ false (.bin op e1 e2) = some x := by rw [ev_bin, h1, and_val, h2, and_val, tst_f, h]
theorem sub_v {e1 e2 : IE} {d1 d2 : D} {x : RR} (h1 : ev Φ γ false e1 = some (.val d1)) (h2 : ev Φ γ false e2 = some (.val d2)) (h : subD d1 d2 = some x) : ev Φ γ false (.sub e1 e2) = some x := by rw [ev_sub, h1, and_val, h2, and_val, tst_f, h]
theorem cmp_v {op : CmpOp} {e1 e2 : IE} {d1 d2 : D} {q t : Bool} (h1 : ev Φ γ false e1 = some (.val d1)) (h2 : ev Φ γ false e2 = some (.val d2)) (h : cmpD op d1 d2 = some q) : ev Φ γ t (.cmp op e1 e2) = some (.val (.bl q)) := by rw [ev_cmp, h1, and_val, h2, and_val, h] <;> rfl
theorem bi1_v {k : BI} {e1 : IE} {d1 : D} {x : RR} (h1 : ev Φ γ false e1 = some (.val d1)) (h : biD k [d1] = some x) : ev Φ γ false (.bi k [e1]) = some x := by rw [ev_bi, evL_cons, h1, and_val, evL_nil, tst_f, h]
theorem bi1_n {k : BI} {e1 : IE} {d1 : List D} {x : RR} (h1 : ev Φ γ false e1 = some (.new d1)) (h : biD k [.lst d1] = some x) : ev Φ γ false (.bi k [e1]) = some x := by rw [ev_bi, evL_cons, h1, and_new, evL_nil, tst_f, h]
theorem app_ {x : RR} (h : evP Φ γ v e = some (γ1, x)) (hd : RR.d? (some x) = some d) (hi : γ1[i]? = some (.ow ds)) (hl : ds.length < 100000) : evS Φ (.app v i e) γ = some (.nx (γ1.set i (.ow (ds ++ [d])))) := by
  rw [evS_app, h]
  dsimp only
  rw [hd, hi]
  exact if_pos hl
end
end Ev
end

section
set_option Elab.async false
set_option linter.all false
set_option maxRecDepth 100000
set_option maxHeartbeats 4000000
set_option autoImplicit false
namespace L01
open PySem PySem.Spec PyProof.Rows L2 Pd Ev
def fldL : List PySem.Str := [("ends_unlike" : PySem.Str), ("kinds" : PySem.Str), ("size" : PySem.Str), ("unlike_pairs" : PySem.Str), ("variety" : PySem.Str)]
def tabL : List En := [⟨N0, ps0, ir0, none⟩, ⟨N1, ps1, ir1, none⟩, ⟨N2, ps2, ir2, none⟩, ⟨N3, ps3, ir3, none⟩, ⟨N4, ps4, ir4, none⟩, ⟨N5, ps5, ir5, none⟩, ⟨N6, ps6, ir6, none⟩, ⟨N7, ps7, ir7, none⟩, ⟨N8, ps8, ir8, none⟩, ⟨N9, ps9, ir9, none⟩, ⟨N10, ps10, ir10, none⟩, ⟨N11, ps11, ir11, none⟩, ⟨N12, ps12, ir12, none⟩, ⟨N13, ps13, ir13, none⟩, ⟨N14, ps14, ir14, none⟩, ⟨N15, ps15, ir15, none⟩, ⟨N16, ps16, ir16, none⟩, ⟨N17, ps17, ir17, none⟩, ⟨N18, ps18, ir18, none⟩, ⟨N19, ps19, ir19, none⟩, ⟨N20, ps20, ir20, none⟩, ⟨N21, ps21, ir21, none⟩, ⟨N22, ps22, ir22, none⟩, ⟨N23, ps23, ir23, none⟩, ⟨N24, ps24, ir24, some 0⟩, ⟨N25, ps25, ir25, none⟩, ⟨N26, ps26, ir26, none⟩, ⟨N27, ps27, ir27, none⟩, ⟨N28, ps28, ir28, none⟩]
def meT : List (Nat × Nat) := [(1, 26), (2, 27), (3, 28)]
def cmT : List (Nat × Nat) := [(0, 25)]
def exT : List (Nat × PySem.Str) := [(2, ("at" : PySem.Str)), (3, ("bead" : PySem.Str))]
def tab (i : Nat) : Option En := tabL[i]?
/-- g: the classes' addresses -/
def Phi1 (g : Nat → Addr) : Phi where
  ga := g
  glob := fun _ => none
  ccon := fun c f => if c = 0 then (if f = "MOST" then some (.int 24) else if f = "TOP_KIND" then some (.int 999) else none) else none
  mn := fun m => meL.getD m ""
  meth := fun D m => if D = g 0 then meT.lookup m else none
  cmeth := fun c m => if c = 0 then cmT.lookup m else none
  ctor := fun D => if D = g 0 then some 24 else none
  arr := fun p => arL.getD p []
  pf := fun p => ((plL[p]?).map (·.1)).getD 0
  fld := fun D f => D == g 0 && fldL.contains f
  efld := fun i => exT.lookup i
  isX := fun A t => if A = g 2 then (if t = 1 ∨ t = 2 then some true else if t = 3 ∨ t = 4 ∨ t = 5 then some false else none) else if A = g 3 then (if t = 1 ∨ t = 3 then some true else if t = 2 ∨ t = 4 ∨ t = 5 then some false else none) else none
  isB := fun A t => if A = g 2 ∨ A = g 3 then (if t = "ValueError" then some true else none) else none
  call := fun _ _ => none
  isO := fun D t => if D = g 0 ∧ t = 0 then some true else none
  itf := fun D => if D = g 0 then some "kinds" else none
  xfl := fun D f => (D == g 2 && decide (f = "at")) || (D == g 3 && decide (f = "bead"))
abbrev CA (g : Nat → Addr) (k : Nat) := callL (Phi1 g) tab k
theorem ca_0 {g : Nat → Addr} {k : Nat} (ds : List D) : CA g (k + 1) 0 ds = runF (wc (Phi1 g) (CA g k)) ⟨N0, ps0, ir0, none⟩ ds := rfl
theorem ca_1 {g : Nat → Addr} {k : Nat} (ds : List D) : CA g (k + 1) 1 ds = runF (wc (Phi1 g) (CA g k)) ⟨N1, ps1, ir1, none⟩ ds := rfl
theorem ca_2 {g : Nat → Addr} {k : Nat} (ds : List D) : CA g (k + 1) 2 ds = runF (wc (Phi1 g) (CA g k)) ⟨N2, ps2, ir2, none⟩ ds := rfl
theorem ca_3 {g : Nat → Addr} {k : Nat} (ds : List D) : CA g (k + 1) 3 ds = runF (wc (Phi1 g) (CA g k)) ⟨N3, ps3, ir3, none⟩ ds := rfl
theorem ca_4 {g : Nat → Addr} {k : Nat} (ds : List D) : CA g (k + 1) 4 ds = runF (wc (Phi1 g) (CA g k)) ⟨N4, ps4, ir4, none⟩ ds := rfl
theorem ca_5 {g : Nat → Addr} {k : Nat} (ds : List D) : CA g (k + 1) 5 ds = runF (wc (Phi1 g) (CA g k)) ⟨N5, ps5, ir5, none⟩ ds := rfl
theorem ca_6 {g : Nat → Addr} {k : Nat} (ds : List D) : CA g (k + 1) 6 ds = runF (wc (Phi1 g) (CA g k)) ⟨N6, ps6, ir6, none⟩ ds := rfl
theorem ca_7 {g : Nat → Addr} {k : Nat} (ds : List D) : CA g (k + 1) 7 ds = runF (wc (Phi1 g) (CA g k)) ⟨N7, ps7, ir7, none⟩ ds := rfl
theorem ca_8 {g : Nat → Addr} {k : Nat} (ds : List D) : CA g (k + 1) 8 ds = runF (wc (Phi1 g) (CA g k)) ⟨N8, ps8, ir8, none⟩ ds := rfl
theorem ca_9 {g : Nat → Addr} {k : Nat} (ds : List D) : CA g (k + 1) 9 ds = runF (wc (Phi1 g) (CA g k)) ⟨N9, ps9, ir9, none⟩ ds := rfl
theorem ca_10 {g : Nat → Addr} {k : Nat} (ds : List D) : CA g (k + 1) 10 ds = runF (wc (Phi1 g) (CA g k)) ⟨N10, ps10, ir10, none⟩ ds := rfl
theorem ca_11 {g : Nat → Addr} {k : Nat} (ds : List D) : CA g (k + 1) 11 ds = runF (wc (Phi1 g) (CA g k)) ⟨N11, ps11, ir11, none⟩ ds := rfl
theorem ca_12 {g : Nat → Addr} {k : Nat} (ds : List D) : CA g (k + 1) 12 ds = runF (wc (Phi1 g) (CA g k)) ⟨N12, ps12, ir12, none⟩ ds := rfl
theorem ca_13 {g : Nat → Addr} {k : Nat} (ds : List D) : CA g (k + 1) 13 ds = runF (wc (Phi1 g) (CA g k)) ⟨N13, ps13, ir13, none⟩ ds := rfl
theorem ca_14 {g : Nat → Addr} {k : Nat} (ds : List D) : CA g (k + 1) 14 ds = runF (wc (Phi1 g) (CA g k)) ⟨N14, ps14, ir14, none⟩ ds := rfl
theorem ca_15 {g : Nat → Addr} {k : Nat} (ds : List D) : CA g (k + 1) 15 ds = runF (wc (Phi1 g) (CA g k)) ⟨N15, ps15, ir15, none⟩ ds := rfl
theorem ca_16 {g : Nat → Addr} {k : Nat} (ds : List D) : CA g (k + 1) 16 ds = runF (wc (Phi1 g) (CA g k)) ⟨N16, ps16, ir16, none⟩ ds := rfl
theorem ca_17 {g : Nat → Addr} {k : Nat} (ds : List D) : CA g (k + 1) 17 ds = runF (wc (Phi1 g) (CA g k)) ⟨N17, ps17, ir17, none⟩ ds := rfl
theorem ca_18 {g : Nat → Addr} {k : Nat} (ds : List D) : CA g (k + 1) 18 ds = runF (wc (Phi1 g) (CA g k)) ⟨N18, ps18, ir18, none⟩ ds := rfl
theorem ca_19 {g : Nat → Addr} {k : Nat} (ds : List D) : CA g (k + 1) 19 ds = runF (wc (Phi1 g) (CA g k)) ⟨N19, ps19, ir19, none⟩ ds := rfl
theorem ca_20 {g : Nat → Addr} {k : Nat} (ds : List D) : CA g (k + 1) 20 ds = runF (wc (Phi1 g) (CA g k)) ⟨N20, ps20, ir20, none⟩ ds := rfl
theorem ca_21 {g : Nat → Addr} {k : Nat} (ds : List D) : CA g (k + 1) 21 ds = runF (wc (Phi1 g) (CA g k)) ⟨N21, ps21, ir21, none⟩ ds := rfl
theorem ca_22 {g : Nat → Addr} {k : Nat} (ds : List D) : CA g (k + 1) 22 ds = runF (wc (Phi1 g) (CA g k)) ⟨N22, ps22, ir22, none⟩ ds := rfl
theorem ca_23 {g : Nat → Addr} {k : Nat} (ds : List D) : CA g (k + 1) 23 ds = runF (wc (Phi1 g) (CA g k)) ⟨N23, ps23, ir23, none⟩ ds := rfl
theorem ca_24 {g : Nat → Addr} {k : Nat} (ds : List D) : CA g (k + 1) 24 ds = runI (wc (Phi1 g) (CA g k)) ⟨N24, ps24, ir24, some 0⟩ (g 0) ds := rfl
theorem ca_25 {g : Nat → Addr} {k : Nat} (ds : List D) : CA g (k + 1) 25 ds = runF (wc (Phi1 g) (CA g k)) ⟨N25, ps25, ir25, none⟩ ds := rfl
theorem ca_26 {g : Nat → Addr} {k : Nat} (ds : List D) : CA g (k + 1) 26 ds = runF (wc (Phi1 g) (CA g k)) ⟨N26, ps26, ir26, none⟩ ds := rfl
theorem ca_27 {g : Nat → Addr} {k : Nat} (ds : List D) : CA g (k + 1) 27 ds = runF (wc (Phi1 g) (CA g k)) ⟨N27, ps27, ir27, none⟩ ds := rfl
theorem ca_28 {g : Nat → Addr} {k : Nat} (ds : List D) : CA g (k + 1) 28 ds = runF (wc (Phi1 g) (CA g k)) ⟨N28, ps28, ir28, none⟩ ds := rfl
end L01
end

section
set_option Elab.async false
set_option linter.all false
set_option maxRecDepth 100000
set_option maxHeartbeats 4000000
set_option autoImplicit false
namespace L01
open PySem PySem.Spec PyProof.Rows L2 Pd Ev
section
variable {P : Program} {w : World} {K : PySem.W.Frag} {mg : Str → Option Value} {base : Heap} {h : Heap} {f : Addr} {fd : FuncData}
theorem oexB_ok {K : PySem.W.Frag} {C : Addr} (h : oexB K C = true) : OexC K C := by
  obtain ⟨h1, h⟩ := He.ba h
  obtain ⟨h2, h⟩ := He.ba h
  obtain ⟨h3, h⟩ := He.ba h
  obtain ⟨h4, h5⟩ := He.ba h
  refine ⟨?_, of_decide_eq_true h2, of_decide_eq_true h3, of_decide_eq_true h4, h5⟩
  split at h1
  · next t dd nm bs D bm ns qn sn sub ab col sl e =>
    obtain ⟨q1, h1⟩ := He.ba h1
    obtain ⟨q2, h1⟩ := He.ba h1
    obtain ⟨q3, q4⟩ := He.ba h1
    split at q4
    · next k0 k1 k2 k3 b k5 e2 =>
      have et := of_decide_eq_true q1
      have ed := of_decide_eq_true q2
      have eb := of_decide_eq_true q4
      subst et ed eb
      obtain ⟨sl⟩ := sl
      have e3 : sl = [k0, k1, k2, k3, some (.builtin "ValueError.__new__"), k5] := e2
      subst e3
      exact ⟨nm, qn, ns, bs, bm, sn, sub, ab, col, dd, k0, k1, k2, k3, k5, e, q3⟩
    · cases q4
  · cases h1
theorem excB_ok {K : PySem.W.Frag} {D : Addr} (h : excB K D = true) : ExcC K D ∧ XfC K D := by
  obtain ⟨h1, h⟩ := He.ba h
  obtain ⟨h2, h⟩ := He.ba h
  obtain ⟨h3, h⟩ := He.ba h
  obtain ⟨h4, h⟩ := He.ba h
  obtain ⟨h5, h⟩ := He.ba h
  obtain ⟨h6, h⟩ := He.ba h
  obtain ⟨h7, h8⟩ := He.ba h
  exact ⟨⟨of_decide_eq_true h1, of_decide_eq_true h2, of_decide_eq_true h3, h4, of_decide_eq_true h5, of_decide_eq_true h6, of_decide_eq_true h7, of_decide_eq_true h8⟩, ⟨of_decide_eq_true h1, of_decide_eq_true h2, of_decide_eq_true h3, h4⟩⟩
theorem insB_ok {K : PySem.W.Frag} {C : Addr} (cl : Cls K C) (h : insB K C = true) : C8.InsC K C := by
  obtain ⟨h1, h⟩ := He.ba h
  obtain ⟨h2, h⟩ := He.ba h
  obtain ⟨h3, h⟩ := He.ba h
  obtain ⟨h4, h5⟩ := He.ba h
  exact ⟨cl, of_decide_eq_true h1, of_decide_eq_true h2, of_decide_eq_true h3, of_decide_eq_true h4, of_decide_eq_true h5⟩
theorem cmB_ok {K : PySem.W.Frag} {C : Addr} {m : Str} (h : cmB K C m = true) : ClX.CMet K C (.type "type") m (cmA K C m).1 (cmA K C m).2 := by
  obtain ⟨h1, h⟩ := He.ba h
  obtain ⟨h2, h3⟩ := He.ba h
  refine ⟨?_, ?_, h3⟩
  · split at h1
    · next b p D e =>
      obtain ⟨q1, h1⟩ := He.ba h1
      obtain ⟨q2, q3⟩ := He.ba h1
      have e1 := of_decide_eq_true q1
      have e2 := of_decide_eq_true q2
      have e3 := of_decide_eq_true q3
      rw [e, e1, e3, ← e2]
    · cases h1
  · split at h2
    · next g rest e => exact ⟨rest, by rw [e, of_decide_eq_true h2]⟩
    · cases h2
theorem bindsK {x qual : Str} {params : Arguments} {body : List Stmt} {scope : Scope} {kws : List (Str × V)} {ps : List Str} (F : FunD K x qual params body scope [] kws f fd) (n : Nat) (ks : List Str) (g : List Value → List Value → List Value) (gV : List V → List V → List V) (hrel : ∀ {vs : List V} {us : List Value} {zs : List V} {ws : List Value}, Vals vs us → Vals zs ws → Vals (gV vs zs) (g us ws))
    (h : ∀ (kV doc pm : Value) (an : Option Addr) (cdv ct : Value) (us ws : List Value), us.length = n → ws.length = ks.length → bindArgs (PySem.W.fnOf x qual params body scope .none kV doc pm an cdv ct) ⟨us, ks.zip ws⟩ = pure (ps.zip (g us ws))) : KBn K fd ps n ks g gV := by
  obtain ⟨oc, od, dV, kV, doc, pm, an, cdv, ct, osl, rfl, lk, hcd, hD, hK⟩ := F.ex
  rcases hD with ⟨_, rfl⟩ | ⟨e, _⟩
  · exact ⟨fun s us ws _ l1 l2 => .of_eq (h kV doc pm an cdv ct us ws l1 l2), hrel⟩
  · exact absurd rfl e
theorem cv_ok {C : Addr} {f : Str} {i : Int} (h : cvB K C f i = true) : ∃ u, ClX.CVal K C (.type "type") f (.int i) u := by
  unfold cvB at h
  split at h
  · next j t e =>
    have q := of_decide_eq_true h
    subst q
    exact ⟨_, e, ⟨t, rfl⟩⟩
  · cases h
theorem plan_in {i p m : Nat} {ks : List Str} (h : plL[p]? = some (i, m, ks)) : 24 ≤ i := by
  have z := List.mem_of_getElem? h
  simp [plL] at z
  omega
theorem FS0 : FnScope N0 ps0 (defScope st0) := ⟨rfl, rfl, rfl, by decide +kernel, rfl, by decide +kernel, by decide +kernel⟩
theorem FS1 : FnScope N1 ps1 (defScope st1) := ⟨rfl, rfl, rfl, by decide +kernel, rfl, by decide +kernel, by decide +kernel⟩
theorem FS2 : FnScope N2 ps2 (defScope st2) := ⟨rfl, rfl, rfl, by decide +kernel, rfl, by decide +kernel, by decide +kernel⟩
theorem FS3 : FnScope N3 ps3 (defScope st3) := ⟨rfl, rfl, rfl, by decide +kernel, rfl, by decide +kernel, by decide +kernel⟩
theorem FS4 : FnScope N4 ps4 (defScope st4) := ⟨rfl, rfl, rfl, by decide +kernel, rfl, by decide +kernel, by decide +kernel⟩
theorem FS5 : FnScope N5 ps5 (defScope st5) := ⟨rfl, rfl, rfl, by decide +kernel, rfl, by decide +kernel, by decide +kernel⟩
theorem FS6 : FnScope N6 ps6 (defScope st6) := ⟨rfl, rfl, rfl, by decide +kernel, rfl, by decide +kernel, by decide +kernel⟩
theorem FS7 : FnScope N7 ps7 (defScope st7) := ⟨rfl, rfl, rfl, by decide +kernel, rfl, by decide +kernel, by decide +kernel⟩
theorem FS8 : FnScope N8 ps8 (defScope st8) := ⟨rfl, rfl, rfl, by decide +kernel, rfl, by decide +kernel, by decide +kernel⟩
theorem FS9 : FnScope N9 ps9 (defScope st9) := ⟨rfl, rfl, rfl, by decide +kernel, rfl, by decide +kernel, by decide +kernel⟩
theorem FS10 : FnScope N10 ps10 (defScope st10) := ⟨rfl, rfl, rfl, by decide +kernel, rfl, by decide +kernel, by decide +kernel⟩
theorem FS11 : FnScope N11 ps11 (defScope st11) := ⟨rfl, rfl, rfl, by decide +kernel, rfl, by decide +kernel, by decide +kernel⟩
theorem FS12 : FnScope N12 ps12 (defScope st12) := ⟨rfl, rfl, rfl, by decide +kernel, rfl, by decide +kernel, by decide +kernel⟩
theorem FS13 : FnScope N13 ps13 (defScope st13) := ⟨rfl, rfl, rfl, by decide +kernel, rfl, by decide +kernel, by decide +kernel⟩
theorem FS14 : FnScope N14 ps14 (defScope st14) := ⟨rfl, rfl, rfl, by decide +kernel, rfl, by decide +kernel, by decide +kernel⟩
theorem FS15 : FnScope N15 ps15 (defScope st15) := ⟨rfl, rfl, rfl, by decide +kernel, rfl, by decide +kernel, by decide +kernel⟩
theorem FS16 : FnScope N16 ps16 (defScope st16) := ⟨rfl, rfl, rfl, by decide +kernel, rfl, by decide +kernel, by decide +kernel⟩
theorem FS17 : FnScope N17 ps17 (defScope st17) := ⟨rfl, rfl, rfl, by decide +kernel, rfl, by decide +kernel, by decide +kernel⟩
theorem FS18 : FnScope N18 ps18 (defScope st18) := ⟨rfl, rfl, rfl, by decide +kernel, rfl, by decide +kernel, by decide +kernel⟩
theorem FS19 : FnScope N19 ps19 (defScope st19) := ⟨rfl, rfl, rfl, by decide +kernel, rfl, by decide +kernel, by decide +kernel⟩
theorem FS20 : FnScope N20 ps20 (defScope st20) := ⟨rfl, rfl, rfl, by decide +kernel, rfl, by decide +kernel, by decide +kernel⟩
theorem FS21 : FnScope N21 ps21 (defScope st21) := ⟨rfl, rfl, rfl, by decide +kernel, rfl, by decide +kernel, by decide +kernel⟩
theorem FS22 : FnScope N22 ps22 (defScope st22) := ⟨rfl, rfl, rfl, by decide +kernel, rfl, by decide +kernel, by decide +kernel⟩
theorem FS23 : FnScope N23 ps23 (defScope st23) := ⟨rfl, rfl, rfl, by decide +kernel, rfl, by decide +kernel, by decide +kernel⟩
theorem FS24 : FnScope N24 ps24 (defScope st24) := ⟨rfl, rfl, rfl, by decide +kernel, rfl, by decide +kernel, by decide +kernel⟩
theorem FS25 : FnScope N25 ps25 (defScope st25) := ⟨rfl, rfl, rfl, by decide +kernel, rfl, by decide +kernel, by decide +kernel⟩
theorem FS26 : FnScope N26 ps26 (defScope st26) := ⟨rfl, rfl, rfl, by decide +kernel, rfl, by decide +kernel, by decide +kernel⟩
theorem FS27 : FnScope N27 ps27 (defScope st27) := ⟨rfl, rfl, rfl, by decide +kernel, rfl, by decide +kernel, by decide +kernel⟩
theorem FS28 : FnScope N28 ps28 (defScope st28) := ⟨rfl, rfl, rfl, by decide +kernel, rfl, by decide +kernel, by decide +kernel⟩
theorem FS29 : FnScope ["self"] ["self"] (defScope st29) := ⟨rfl, rfl, rfl, by decide +kernel, rfl, by decide +kernel, by decide +kernel⟩
theorem FS30 : FnScope ["self", "at"] ["self", "at"] (defScope st30) := ⟨rfl, rfl, rfl, by decide +kernel, rfl, by decide +kernel, by decide +kernel⟩
theorem FS31 : FnScope ["self", "bead"] ["self", "bead"] (defScope st31) := ⟨rfl, rfl, rfl, by decide +kernel, rfl, by decide +kernel, by decide +kernel⟩
theorem pl24 {K : PySem.W.Frag} {fd : FuncData} {kws : List (Str × V)} {f : Addr} {g : Nat → Addr} (F : FunD K dd24.name dd24.qual dd24.params dd24.body dd24.scope [] kws f fd) : ∀ p m ks, Sg.plan p = some (24, m, ks) → BD K fd ps24 (m + 1) ks (.pos 0 :: ((Phi1 g).arr p).map PA.sh) := fun p m ks z => by
  match p, z with
  | 0, z =>
    cases z
    refine ⟨⟨fun us ws => us ++ ws, fun vs zs => vs ++ zs, bindsK F 1 [("kinds" : PySem.Str)] _ _ (fun r1 r2 => r1.append r2) (fun _ _ _ _ _ _ us ws h1 h2 => match us, ws, h1, h2 with | [_], [_], _, _ => rfl), fun vs zs h1 h2 => match vs, zs, h1, h2 with | [_], [_], _, _ => rfl⟩, fun q hq => ?_⟩
    rcases List.mem_cons.mp hq with rfl | hq
    · exact Nat.zero_lt_succ _
    · rcases List.mem_cons.mp (show q ∈ [PA.sh (.kw 0)] from hq) with rfl | hq
      · exact Nat.lt_of_succ_le (by decide)
      · cases hq
  | 1, z =>
    cases z
    refine ⟨⟨fun us ws => us ++ ws, fun vs zs => vs ++ zs, bindsK F 2 [] _ _ (fun r1 r2 => r1.append r2) (fun _ _ _ _ _ _ us ws h1 h2 => match us, ws, h1, h2 with | [_, _], [], _, _ => rfl), fun vs zs h1 h2 => match vs, zs, h1, h2 with | [_, _], [], _, _ => rfl⟩, fun q hq => ?_⟩
    rcases List.mem_cons.mp hq with rfl | hq
    · exact Nat.zero_lt_succ _
    · rcases List.mem_cons.mp (show q ∈ [PA.sh (.pos 0)] from hq) with rfl | hq
      · exact Nat.lt_of_succ_le (by decide)
      · cases hq
  | 2, z => cases z
  | 3, z => cases z
  | 4, z => cases z
  | 5, z => cases z
  | 6, z => cases z
  | 7, z => cases z
  | p + 8, z => cases z
theorem pl25 {K : PySem.W.Frag} {fd : FuncData} {kws : List (Str × V)} {f : Addr} {g : Nat → Addr} (F : FunD K dd25.name dd25.qual dd25.params dd25.body dd25.scope [] kws f fd) : ∀ p m ks, Sg.plan p = some (25, m, ks) → BD K fd ps25 (m + 1) ks (.pos 0 :: ((Phi1 g).arr p).map PA.sh) := fun p m ks z => by
  match p, z with
  | 0, z => cases z
  | 1, z => cases z
  | 2, z =>
    cases z
    refine ⟨⟨fun us ws => us ++ ws, fun vs zs => vs ++ zs, bindsK F 1 [("text" : PySem.Str)] _ _ (fun r1 r2 => r1.append r2) (fun _ _ _ _ _ _ us ws h1 h2 => match us, ws, h1, h2 with | [_], [_], _, _ => rfl), fun vs zs h1 h2 => match vs, zs, h1, h2 with | [_], [_], _, _ => rfl⟩, fun q hq => ?_⟩
    rcases List.mem_cons.mp hq with rfl | hq
    · exact Nat.zero_lt_succ _
    · rcases List.mem_cons.mp (show q ∈ [PA.sh (.kw 0)] from hq) with rfl | hq
      · exact Nat.lt_of_succ_le (by decide)
      · cases hq
  | 3, z =>
    cases z
    refine ⟨⟨fun us ws => us ++ ws, fun vs zs => vs ++ zs, bindsK F 2 [] _ _ (fun r1 r2 => r1.append r2) (fun _ _ _ _ _ _ us ws h1 h2 => match us, ws, h1, h2 with | [_, _], [], _, _ => rfl), fun vs zs h1 h2 => match vs, zs, h1, h2 with | [_, _], [], _, _ => rfl⟩, fun q hq => ?_⟩
    rcases List.mem_cons.mp hq with rfl | hq
    · exact Nat.zero_lt_succ _
    · rcases List.mem_cons.mp (show q ∈ [PA.sh (.pos 0)] from hq) with rfl | hq
      · exact Nat.lt_of_succ_le (by decide)
      · cases hq
  | 4, z => cases z
  | 5, z => cases z
  | 6, z => cases z
  | 7, z => cases z
  | p + 8, z => cases z
theorem pl26 {K : PySem.W.Frag} {fd : FuncData} {kws : List (Str × V)} {f : Addr} {g : Nat → Addr} (F : FunD K dd26.name dd26.qual dd26.params dd26.body dd26.scope [] kws f fd) : ∀ p m ks, Sg.plan p = some (26, m, ks) → BD K fd ps26 (m + 1) ks (.pos 0 :: ((Phi1 g).arr p).map PA.sh) := fun p m ks z => by
  match p, z with
  | 0, z => cases z
  | 1, z => cases z
  | 2, z => cases z
  | 3, z => cases z
  | 4, z => cases z
  | 5, z => cases z
  | 6, z =>
    cases z
    refine ⟨⟨fun us ws => us ++ ws, fun vs zs => vs ++ zs, bindsK F 1 [] _ _ (fun r1 r2 => r1.append r2) (fun _ _ _ _ _ _ us ws h1 h2 => match us, ws, h1, h2 with | [_], [], _, _ => rfl), fun vs zs h1 h2 => match vs, zs, h1, h2 with | [_], [], _, _ => rfl⟩, fun q hq => ?_⟩
    rcases List.mem_cons.mp hq with rfl | hq
    · exact Nat.zero_lt_succ _
    · cases hq
  | 7, z => cases z
  | p + 8, z => cases z
theorem pl27 {K : PySem.W.Frag} {fd : FuncData} {kws : List (Str × V)} {f : Addr} {g : Nat → Addr} (F : FunD K dd27.name dd27.qual dd27.params dd27.body dd27.scope [] kws f fd) : ∀ p m ks, Sg.plan p = some (27, m, ks) → BD K fd ps27 (m + 1) ks (.pos 0 :: ((Phi1 g).arr p).map PA.sh) := fun p m ks z => by
  match p, z with
  | 0, z => cases z
  | 1, z => cases z
  | 2, z => cases z
  | 3, z => cases z
  | 4, z => cases z
  | 5, z => cases z
  | 6, z => cases z
  | 7, z =>
    cases z
    refine ⟨⟨fun us ws => us ++ ws, fun vs zs => vs ++ zs, bindsK F 1 [] _ _ (fun r1 r2 => r1.append r2) (fun _ _ _ _ _ _ us ws h1 h2 => match us, ws, h1, h2 with | [_], [], _, _ => rfl), fun vs zs h1 h2 => match vs, zs, h1, h2 with | [_], [], _, _ => rfl⟩, fun q hq => ?_⟩
    rcases List.mem_cons.mp hq with rfl | hq
    · exact Nat.zero_lt_succ _
    · cases hq
  | p + 8, z => cases z
theorem pl28 {K : PySem.W.Frag} {fd : FuncData} {kws : List (Str × V)} {f : Addr} {g : Nat → Addr} (F : FunD K dd28.name dd28.qual dd28.params dd28.body dd28.scope [] kws f fd) : ∀ p m ks, Sg.plan p = some (28, m, ks) → BD K fd ps28 (m + 1) ks (.pos 0 :: ((Phi1 g).arr p).map PA.sh) := fun p m ks z => by
  match p, z with
  | 0, z => cases z
  | 1, z => cases z
  | 2, z => cases z
  | 3, z => cases z
  | 4, z =>
    cases z
    refine ⟨⟨fun us ws => us ++ ws, fun vs zs => vs ++ zs, bindsK F 1 [("bead" : PySem.Str)] _ _ (fun r1 r2 => r1.append r2) (fun _ _ _ _ _ _ us ws h1 h2 => match us, ws, h1, h2 with | [_], [_], _, _ => rfl), fun vs zs h1 h2 => match vs, zs, h1, h2 with | [_], [_], _, _ => rfl⟩, fun q hq => ?_⟩
    rcases List.mem_cons.mp hq with rfl | hq
    · exact Nat.zero_lt_succ _
    · rcases List.mem_cons.mp (show q ∈ [PA.sh (.kw 0)] from hq) with rfl | hq
      · exact Nat.lt_of_succ_le (by decide)
      · cases hq
  | 5, z =>
    cases z
    refine ⟨⟨fun us ws => us ++ ws, fun vs zs => vs ++ zs, bindsK F 2 [] _ _ (fun r1 r2 => r1.append r2) (fun _ _ _ _ _ _ us ws h1 h2 => match us, ws, h1, h2 with | [_, _], [], _, _ => rfl), fun vs zs h1 h2 => match vs, zs, h1, h2 with | [_, _], [], _, _ => rfl⟩, fun q hq => ?_⟩
    rcases List.mem_cons.mp hq with rfl | hq
    · exact Nat.zero_lt_succ _
    · rcases List.mem_cons.mp (show q ∈ [PA.sh (.pos 0)] from hq) with rfl | hq
      · exact Nat.lt_of_succ_le (by decide)
      · cases hq
  | 6, z => cases z
  | 7, z => cases z
  | p + 8, z => cases z
theorem modOk (X : K.In h) (G : h.Ns mainGlobals mg) (c : He.SaysD fa fn K) (e : exB K = true) (ea : fnA K (cmS K) = dd25.val) : Mod (Phi1 (clA K)) Sg tab 40 P w K mg base := by
  obtain ⟨e1, e⟩ := He.ba e
  obtain ⟨e2, e⟩ := He.ba e
  obtain ⟨e3, e⟩ := He.ba e
  obtain ⟨e4, e⟩ := He.ba e
  obtain ⟨e5, e⟩ := He.ba e
  obtain ⟨e6, e⟩ := He.ba e
  obtain ⟨e7, e⟩ := He.ba e
  obtain ⟨e8, e⟩ := He.ba e
  obtain ⟨e9, e⟩ := He.ba e
  obtain ⟨e10, e⟩ := He.ba e
  obtain ⟨e11, e⟩ := He.ba e
  obtain ⟨e12, e⟩ := He.ba e
  obtain ⟨e13, e⟩ := He.ba e
  obtain ⟨e14, e15⟩ := He.ba e
  have e2 := of_decide_eq_true e2
  have e15 := of_decide_eq_true e15
  have gC0 : mg ("Strand" : PySem.Str) = some (.ref (clA K 0)) := He.glo_ok X G (c.fact 24 (f := .glo ("Strand" : PySem.Str)) rfl)
  have gC1 : mg ("MootError" : PySem.Str) = some (.ref (clA K 1)) := He.glo_ok X G (c.fact 25 (f := .glo ("MootError" : PySem.Str)) rfl)
  have gC2 : mg ("BadStrand" : PySem.Str) = some (.ref (clA K 2)) := He.glo_ok X G (c.fact 26 (f := .glo ("BadStrand" : PySem.Str)) rfl)
  have gC3 : mg ("NoSuchBead" : PySem.Str) = some (.ref (clA K 3)) := He.glo_ok X G (c.fact 27 (f := .glo ("NoSuchBead" : PySem.Str)) rfl)
  have gC4 : mg ("EndBead" : PySem.Str) = some (.ref (clA K 4)) := He.glo_ok X G (c.fact 28 (f := .glo ("EndBead" : PySem.Str)) rfl)
  have gC5 : mg ("BadRun" : PySem.Str) = some (.ref (clA K 5)) := He.glo_ok X G (c.fact 29 (f := .glo ("BadRun" : PySem.Str)) rfl)
  have mS : Mk K (clA K 0) (He.ma K (clA K 0) "__init__") := He.mkr_ok (c.fact 30 (f := .mkr "Strand") rfl)
  have cS : Cls K (clA K 0) := He.cls_ok (c.fact 31 (f := .cls "Strand") rfl)
  have na0 : NoAttr K (clA K 0) ("ends_unlike" : PySem.Str) := He.noat_ok (c.fact 32 (f := .noat "Strand" ("ends_unlike" : PySem.Str)) rfl)
  have na1 : NoAttr K (clA K 0) ("kinds" : PySem.Str) := He.noat_ok (c.fact 33 (f := .noat "Strand" ("kinds" : PySem.Str)) rfl)
  have na2 : NoAttr K (clA K 0) ("size" : PySem.Str) := He.noat_ok (c.fact 34 (f := .noat "Strand" ("size" : PySem.Str)) rfl)
  have na3 : NoAttr K (clA K 0) ("unlike_pairs" : PySem.Str) := He.noat_ok (c.fact 35 (f := .noat "Strand" ("unlike_pairs" : PySem.Str)) rfl)
  have na4 : NoAttr K (clA K 0) ("variety" : PySem.Str) := He.noat_ok (c.fact 36 (f := .noat "Strand" ("variety" : PySem.Str)) rfl)
  have fr0 := He.free_ok X G (c.fact 37 (f := .free ("ValueError" : PySem.Str)) rfl)
  have fr1 := He.free_ok X G (c.fact 38 (f := .free ("bool" : PySem.Str)) rfl)
  have fr2 := He.free_ok X G (c.fact 39 (f := .free ("enumerate" : PySem.Str)) rfl)
  have fr3 := He.free_ok X G (c.fact 40 (f := .free ("int" : PySem.Str)) rfl)
  have fr4 := He.free_ok X G (c.fact 41 (f := .free ("isinstance" : PySem.Str)) rfl)
  have fr5 := He.free_ok X G (c.fact 42 (f := .free ("iter" : PySem.Str)) rfl)
  have fr6 := He.free_ok X G (c.fact 43 (f := .free ("len" : PySem.Str)) rfl)
  have fr7 := He.free_ok X G (c.fact 44 (f := .free ("list" : PySem.Str)) rfl)
  have fr8 := He.free_ok X G (c.fact 45 (f := .free ("ord" : PySem.Str)) rfl)
  have fr9 := He.free_ok X G (c.fact 46 (f := .free ("range" : PySem.Str)) rfl)
  have fr10 := He.free_ok X G (c.fact 47 (f := .free ("reversed" : PySem.Str)) rfl)
  have fr11 := He.free_ok X G (c.fact 48 (f := .free ("set" : PySem.Str)) rfl)
  have fr12 := He.free_ok X G (c.fact 49 (f := .free ("str" : PySem.Str)) rfl)
  have fr13 := He.free_ok X G (c.fact 50 (f := .free ("tuple" : PySem.Str)) rfl)
  obtain ⟨fd0, F0⟩ := c.def_ 0 (d := dd0) rfl
  obtain ⟨fd1, F1⟩ := c.def_ 1 (d := dd1) rfl
  obtain ⟨fd2, F2⟩ := c.def_ 2 (d := dd2) rfl
  obtain ⟨fd3, F3⟩ := c.def_ 3 (d := dd3) rfl
  obtain ⟨fd4, F4⟩ := c.def_ 4 (d := dd4) rfl
  obtain ⟨fd5, F5⟩ := c.def_ 5 (d := dd5) rfl
  obtain ⟨fd6, F6⟩ := c.def_ 6 (d := dd6) rfl
  obtain ⟨fd7, F7⟩ := c.def_ 7 (d := dd7) rfl
  obtain ⟨fd8, F8⟩ := c.def_ 8 (d := dd8) rfl
  obtain ⟨fd9, F9⟩ := c.def_ 9 (d := dd9) rfl
  obtain ⟨fd10, F10⟩ := c.def_ 10 (d := dd10) rfl
  obtain ⟨fd11, F11⟩ := c.def_ 11 (d := dd11) rfl
  obtain ⟨fd12, F12⟩ := c.def_ 12 (d := dd12) rfl
  obtain ⟨fd13, F13⟩ := c.def_ 13 (d := dd13) rfl
  obtain ⟨fd14, F14⟩ := c.def_ 14 (d := dd14) rfl
  obtain ⟨fd15, F15⟩ := c.def_ 15 (d := dd15) rfl
  obtain ⟨fd16, F16⟩ := c.def_ 16 (d := dd16) rfl
  obtain ⟨fd17, F17⟩ := c.def_ 17 (d := dd17) rfl
  obtain ⟨fd18, F18⟩ := c.def_ 18 (d := dd18) rfl
  obtain ⟨fd19, F19⟩ := c.def_ 19 (d := dd19) rfl
  obtain ⟨fd20, F20⟩ := c.def_ 20 (d := dd20) rfl
  obtain ⟨fd21, F21⟩ := c.def_ 21 (d := dd21) rfl
  obtain ⟨fd22, F22⟩ := c.def_ 22 (d := dd22) rfl
  obtain ⟨fd23, F23⟩ := c.def_ 23 (d := dd23) rfl
  obtain ⟨fd24, F24⟩ := c.def_ 24 (d := dd24) rfl
  obtain ⟨fd26, F26⟩ := c.def_ 25 (d := dd26) rfl
  obtain ⟨fd27, F27⟩ := c.def_ 26 (d := dd27) rfl
  obtain ⟨fd28, F28⟩ := c.def_ 27 (d := dd28) rfl
  obtain ⟨fd29, F29⟩ := c.def_ 28 (d := dd29) rfl
  obtain ⟨fd30, F30⟩ := c.def_ 29 (d := dd30) rfl
  obtain ⟨fd31, F31⟩ := c.def_ 30 (d := dd31) rfl
  obtain ⟨fd25, F25⟩ := funA ea e7
  have me_stretches : Meth K (clA K 0) "stretches" (He.ma K (clA K 0) "stretches") := He.meth_ok (c.fact 51 (f := .meth "Strand" "stretches") rfl)
  have me_mirrored : Meth K (clA K 0) "mirrored" (He.ma K (clA K 0) "mirrored") := He.meth_ok (c.fact 52 (f := .meth "Strand" "mirrored") rfl)
  have me_turned : Meth K (clA K 0) "turned" (He.ma K (clA K 0) "turned") := He.meth_ok (c.fact 53 (f := .meth "Strand" "turned") rfl)
  have me___iter__ : Meth K (clA K 0) "__iter__" (He.ma K (clA K 0) "__iter__") := He.meth_ok (c.fact 56 (f := .meth "Strand" "__iter__") rfl)
  have iC := insB_ok cS e5
  have cr : ClX.CRead K (clA K 0) (.type "type") := ⟨e1, e2⟩
  have ow : OwnT K mg (clA K 0) "kinds" := ⟨⟨_, fd29, _, _, "self", _, _, _, _, _, _, _, F29, FS29, me___iter__.at_, me___iter__.fn, F29.bindsN fun _ _ _ _ _ _ us hl => match us, hl with | [_], _ => rfl, rfl, .inl rfl, by decide, by decide⟩, cS, na1, fr5, He.noat_ok (c.fact 54 (f := .noat "Strand" "__len__") rfl), He.noat_ok (c.fact 55 (f := .noat "Strand" "__length_hint__") rfl)⟩
  have xc2 := excB_ok e10
  have xc3 := excB_ok e11
  have o2 := oexB_ok e8
  have o3 := oexB_ok e9
  have mi2 : Meth K (clA K 2) "__init__" (He.ma K (clA K 2) "__init__") := He.meth_ok (c.fact 57 (f := .meth "BadStrand" "__init__") rfl)
  have mi3 : Meth K (clA K 3) "__init__" (He.ma K (clA K 3) "__init__") := He.meth_ok (c.fact 58 (f := .meth "NoSuchBead" "__init__") rfl)
  have nx2 : NoAttr K (clA K 2) "at" := He.noat_ok (c.fact 59 (f := .noat "BadStrand" "at") rfl)
  have nx3 : NoAttr K (clA K 3) "bead" := He.noat_ok (c.fact 60 (f := .noat "NoSuchBead" "bead") rfl)
  have de2 : DE P w K mg base "BadStrand" (clA K 2) "at" := ⟨o2, gC2, _, fd30, _, mi2.at_, beq_iff_eq.mp mi2.fn, Pd.okE F30 FS30 o2 nx2 (Or.inl rfl) (Or.inl rfl) (by decide) (by decide) (by decide) (by decide), F30.bindsN fun _ _ _ _ _ _ us hl => match us, hl with | [_, _], _ => rfl⟩
  have de3 : DE P w K mg base "NoSuchBead" (clA K 3) "bead" := ⟨o3, gC3, _, fd31, _, mi3.at_, beq_iff_eq.mp mi3.fn, Pd.okE F31 FS31 o3 nx3 (Or.inl rfl) (Or.inl rfl) (by decide) (by decide) (by decide) (by decide), F31.bindsN fun _ _ _ _ _ _ us hl => match us, hl with | [_, _], _ => rfl⟩
  have isx : ∀ q ∈ isL, PySem.W.exmOne K (.ref (clA K q.1)) (.ref (clA K q.2.1)) = some q.2.2 ∧ PySem.W.kitOne K (.ref (clA K q.1)) (.ref (clA K q.2.1)) = some q.2.2 := fun q hq => by
    obtain ⟨a, b⟩ := He.ba (List.all_eq_true.mp e12 q hq)
    exact ⟨of_decide_eq_true a, of_decide_eq_true b⟩
  refine ⟨fun i nm d hn hd => ?gl, fun i nm hn => ?kl, fun nm hn => ?fr, fun z => (by cases z), fun i nm hn => ?fn, fun i nm hn => ?mkr, fun C m nm i hm hi => ?me, fun p i m ks hp => ?pf, fun c nm f d hn hd => ?co, fun C t nm b hn hb => ?is, fun C f hf => ?it, fun t nm hn => ?xn, fun A t nm b hn hb => ?xh, fun A nm b hb => ?xb, fun C f hf => ?xf, fun c m nc nm i hc hm hi => ?cme, fun C i hc => ?ctor, fun i nm f hn hd => ?er, fun C f hf => ?at_⟩
  case gl => cases hd
  case kl =>
    match i, hn with
    | 0, hn => cases hn; exact gC0
    | i + 1, hn => cases hn
  case fr =>
    have z : nm ∈ frL := hn
    simp only [frL, List.mem_cons, List.not_mem_nil, or_false] at z
    rcases z with rfl | rfl | rfl | rfl | rfl | rfl | rfl | rfl | rfl | rfl | rfl | rfl | rfl | rfl
    · exact fr0
    · exact fr1
    · exact fr2
    · exact fr3
    · exact fr4
    · exact fr5
    · exact fr6
    · exact fr7
    · exact fr8
    · exact fr9
    · exact fr10
    · exact fr11
    · exact fr12
    · exact fr13
  case fn =>
    have hn : fnL[i]? = some nm := hn
    match i, hn with
    | 0, hn => cases hn; exact ⟨⟨N0, ps0, ir0, none⟩, _, fd0, rfl, rfl, ⟨_, _, _, _, _, _, _, F0, FS0, ok0⟩, He.glo_ok X G (c.fact 0 (f := .glo ("check_bead" : PySem.Str)) rfl), F0.kp, F0.bindsN fun _ _ _ _ _ _ us hl => match us, hl with | [_, _], _ => rfl, fun p m ks z => absurd (plan_in z) (by decide)⟩
    | 1, hn => cases hn; exact ⟨⟨N1, ps1, ir1, none⟩, _, fd1, rfl, rfl, ⟨_, _, _, _, _, _, _, F1, FS1, ok1⟩, He.glo_ok X G (c.fact 1 (f := .glo ("letter_kind" : PySem.Str)) rfl), F1.kp, F1.bindsN fun _ _ _ _ _ _ us hl => match us, hl with | [_], _ => rfl, fun p m ks z => absurd (plan_in z) (by decide)⟩
    | 2, hn => cases hn; exact ⟨⟨N2, ps2, ir2, none⟩, _, fd2, rfl, rfl, ⟨_, _, _, _, _, _, _, F2, FS2, ok2⟩, He.glo_ok X G (c.fact 2 (f := .glo ("unlike_places" : PySem.Str)) rfl), F2.kp, F2.bindsN fun _ _ _ _ _ _ us hl => match us, hl with | [_], _ => rfl, fun p m ks z => absurd (plan_in z) (by decide)⟩
    | 3, hn => cases hn; exact ⟨⟨N3, ps3, ir3, none⟩, _, fd3, rfl, rfl, ⟨_, _, _, _, _, _, _, F3, FS3, ok3⟩, He.glo_ok X G (c.fact 3 (f := .glo ("_law_cell" : PySem.Str)) rfl), F3.kp, F3.bindsN fun _ _ _ _ _ _ us hl => match us, hl with | [_, _], _ => rfl, fun p m ks z => absurd (plan_in z) (by decide)⟩
    | 4, hn => cases hn; exact ⟨⟨N4, ps4, ir4, none⟩, _, fd4, rfl, rfl, ⟨_, _, _, _, _, _, _, F4, FS4, ok4⟩, He.glo_ok X G (c.fact 4 (f := .glo ("_law_mixed" : PySem.Str)) rfl), F4.kp, F4.bindsN fun _ _ _ _ _ _ us hl => match us, hl with | [_, _], _ => rfl, fun p m ks z => absurd (plan_in z) (by decide)⟩
    | 5, hn => cases hn; exact ⟨⟨N5, ps5, ir5, none⟩, _, fd5, rfl, rfl, ⟨_, _, _, _, _, _, _, F5, FS5, ok5⟩, He.glo_ok X G (c.fact 5 (f := .glo ("_law_draws" : PySem.Str)) rfl), F5.kp, F5.bindsN fun _ _ _ _ _ _ us hl => match us, hl with | [_, _, _], _ => rfl, fun p m ks z => absurd (plan_in z) (by decide)⟩
    | 6, hn => cases hn; exact ⟨⟨N6, ps6, ir6, none⟩, _, fd6, rfl, rfl, ⟨_, _, _, _, _, _, _, F6, FS6, ok6⟩, He.glo_ok X G (c.fact 6 (f := .glo ("_law_kinds" : PySem.Str)) rfl), F6.kp, F6.bindsN fun _ _ _ _ _ _ us hl => match us, hl with | [_, _, _], _ => rfl, fun p m ks z => absurd (plan_in z) (by decide)⟩
    | 7, hn => cases hn; exact ⟨⟨N7, ps7, ir7, none⟩, _, fd7, rfl, rfl, ⟨_, _, _, _, _, _, _, F7, FS7, ok7⟩, He.glo_ok X G (c.fact 7 (f := .glo ("_law_is_integer" : PySem.Str)) rfl), F7.kp, F7.bindsN fun _ _ _ _ _ _ us hl => match us, hl with | [_], _ => rfl, fun p m ks z => absurd (plan_in z) (by decide)⟩
    | 8, hn => cases hn; exact ⟨⟨N8, ps8, ir8, none⟩, _, fd8, rfl, rfl, ⟨_, _, _, _, _, _, _, F8, FS8, ok8⟩, He.glo_ok X G (c.fact 8 (f := .glo ("_law_same" : PySem.Str)) rfl), F8.kp, F8.bindsN fun _ _ _ _ _ _ us hl => match us, hl with | [_, _], _ => rfl, fun p m ks z => absurd (plan_in z) (by decide)⟩
    | 9, hn => cases hn; exact ⟨⟨N9, ps9, ir9, none⟩, _, fd9, rfl, rfl, ⟨_, _, _, _, _, _, _, F9, FS9, ok9⟩, He.glo_ok X G (c.fact 9 (f := .glo ("_law_fixed" : PySem.Str)) rfl), F9.kp, F9.bindsN fun _ _ _ _ _ _ us hl => match us, hl with | [_], _ => rfl, fun p m ks z => absurd (plan_in z) (by decide)⟩
    | 10, hn => cases hn; exact ⟨⟨N10, ps10, ir10, none⟩, _, fd10, rfl, rfl, ⟨_, _, _, _, _, _, _, F10, FS10, ok10⟩, He.glo_ok X G (c.fact 10 (f := .glo ("_law_first" : PySem.Str)) rfl), F10.kp, F10.bindsN fun _ _ _ _ _ _ us hl => match us, hl with | [_], _ => rfl, fun p m ks z => absurd (plan_in z) (by decide)⟩
    | 11, hn => cases hn; exact ⟨⟨N11, ps11, ir11, none⟩, _, fd11, rfl, rfl, ⟨_, _, _, _, _, _, _, F11, FS11, ok11⟩, He.glo_ok X G (c.fact 11 (f := .glo ("_law_spoilt" : PySem.Str)) rfl), F11.kp, F11.bindsN fun _ _ _ _ _ _ us hl => match us, hl with | [_, _], _ => rfl, fun p m ks z => absurd (plan_in z) (by decide)⟩
    | 12, hn => cases hn; exact ⟨⟨N12, ps12, ir12, none⟩, _, fd12, rfl, rfl, ⟨_, _, _, _, _, _, _, F12, FS12, ok12⟩, He.glo_ok X G (c.fact 12 (f := .glo ("_law_line" : PySem.Str)) rfl), F12.kp, F12.bindsN fun _ _ _ _ _ _ us hl => match us, hl with | [_, _], _ => rfl, fun p m ks z => absurd (plan_in z) (by decide)⟩
    | 13, hn => cases hn; exact ⟨⟨N13, ps13, ir13, none⟩, _, fd13, rfl, rfl, ⟨_, _, _, _, _, _, _, F13, FS13, ok13⟩, He.glo_ok X G (c.fact 13 (f := .glo ("_law_due" : PySem.Str)) rfl), F13.kp, F13.bindsN fun _ _ _ _ _ _ us hl => match us, hl with | [_], _ => rfl, fun p m ks z => absurd (plan_in z) (by decide)⟩
    | 14, hn => cases hn; exact ⟨⟨N14, ps14, ir14, none⟩, _, fd14, rfl, rfl, ⟨_, _, _, _, _, _, _, F14, FS14, ok14⟩, He.glo_ok X G (c.fact 14 (f := .glo ("_law_made" : PySem.Str)) rfl), F14.kp, F14.bindsN fun _ _ _ _ _ _ us hl => match us, hl with | [_, _], _ => rfl, fun p m ks z => absurd (plan_in z) (by decide)⟩
    | 15, hn => cases hn; exact ⟨⟨N15, ps15, ir15, none⟩, _, fd15, rfl, rfl, ⟨_, _, _, _, _, _, _, F15, FS15, ok15⟩, He.glo_ok X G (c.fact 15 (f := .glo ("_law_lettered" : PySem.Str)) rfl), F15.kp, F15.bindsN fun _ _ _ _ _ _ us hl => match us, hl with | [_, _], _ => rfl, fun p m ks z => absurd (plan_in z) (by decide)⟩
    | 16, hn => cases hn; exact ⟨⟨N16, ps16, ir16, none⟩, _, fd16, rfl, rfl, ⟨_, _, _, _, _, _, _, F16, FS16, ok16⟩, He.glo_ok X G (c.fact 16 (f := .glo ("_law_turned" : PySem.Str)) rfl), F16.kp, F16.bindsN fun _ _ _ _ _ _ us hl => match us, hl with | [_, _, _], _ => rfl, fun p m ks z => absurd (plan_in z) (by decide)⟩
    | 17, hn => cases hn; exact ⟨⟨N17, ps17, ir17, none⟩, _, fd17, rfl, rfl, ⟨_, _, _, _, _, _, _, F17, FS17, ok17⟩, He.glo_ok X G (c.fact 17 (f := .glo ("_law_refused" : PySem.Str)) rfl), F17.kp, F17.bindsN fun _ _ _ _ _ _ us hl => match us, hl with | [_], _ => rfl, fun p m ks z => absurd (plan_in z) (by decide)⟩
    | 18, hn => cases hn; exact ⟨⟨N18, ps18, ir18, none⟩, _, fd18, rfl, rfl, ⟨_, _, _, _, _, _, _, F18, FS18, ok18⟩, He.glo_ok X G (c.fact 18 (f := .glo ("_law_refused_turn" : PySem.Str)) rfl), F18.kp, F18.bindsN fun _ _ _ _ _ _ us hl => match us, hl with | [_, _], _ => rfl, fun p m ks z => absurd (plan_in z) (by decide)⟩
    | 19, hn => cases hn; exact ⟨⟨N19, ps19, ir19, none⟩, _, fd19, rfl, rfl, ⟨_, _, _, _, _, _, _, F19, FS19, ok19⟩, He.glo_ok X G (c.fact 19 (f := .glo ("_law_stretches" : PySem.Str)) rfl), F19.kp, F19.bindsN fun _ _ _ _ _ _ us hl => match us, hl with | [_], _ => rfl, fun p m ks z => absurd (plan_in z) (by decide)⟩
    | 20, hn => cases hn; exact ⟨⟨N20, ps20, ir20, none⟩, _, fd20, rfl, rfl, ⟨_, _, _, _, _, _, _, F20, FS20, ok20⟩, He.glo_ok X G (c.fact 20 (f := .glo ("_law_tells" : PySem.Str)) rfl), F20.kp, F20.bindsN fun _ _ _ _ _ _ us hl => match us, hl with | [_, _], _ => rfl, fun p m ks z => absurd (plan_in z) (by decide)⟩
    | 21, hn => cases hn; exact ⟨⟨N21, ps21, ir21, none⟩, _, fd21, rfl, rfl, ⟨_, _, _, _, _, _, _, F21, FS21, ok21⟩, He.glo_ok X G (c.fact 21 (f := .glo ("_law_judged" : PySem.Str)) rfl), F21.kp, F21.bindsN fun _ _ _ _ _ _ us hl => match us, hl with | [_, _], _ => rfl, fun p m ks z => absurd (plan_in z) (by decide)⟩
    | 22, hn => cases hn; exact ⟨⟨N22, ps22, ir22, none⟩, _, fd22, rfl, rfl, ⟨_, _, _, _, _, _, _, F22, FS22, ok22⟩, He.glo_ok X G (c.fact 22 (f := .glo ("_law_turns" : PySem.Str)) rfl), F22.kp, F22.bindsN fun _ _ _ _ _ _ us hl => match us, hl with | [_, _, _, _, _], _ => rfl, fun p m ks z => absurd (plan_in z) (by decide)⟩
    | 23, hn => cases hn; exact ⟨⟨N23, ps23, ir23, none⟩, _, fd23, rfl, rfl, ⟨_, _, _, _, _, _, _, F23, FS23, ok23⟩, He.glo_ok X G (c.fact 23 (f := .glo ("law" : PySem.Str)) rfl), F23.kp, F23.bindsN fun _ _ _ _ _ _ us hl => match us, hl with | [_], _ => rfl, fun p m ks z => absurd (plan_in z) (by decide)⟩
    | i + 24, hn => cases hn
  case mkr =>
    have hn : (if i < 24 then none else if i < 25 then clL[i - 24]? else none) = some nm := hn
    split at hn
    · cases hn
    · split at hn
      · have q : i = 24 := by omega
        subst q
        cases hn
        exact ⟨⟨N24, ps24, ir24, some 0⟩, 0, _, fd24, rfl, rfl, ⟨_, _, _, _, _, _, _, F24, FS24, ok24⟩, gC0, mS, pl24 F24⟩
      · cases hn
  case me =>
    replace hi : (if C = clA K 0 then meT.lookup m else none) = some i := hi
    split at hi
    · next q =>
      subst q
      match m, hm, hi with
      | 0, hm, hi => cases hi
      | 1, hm, hi => cases hm; cases hi; exact ⟨rfl, cS, ⟨N26, ps26, ir26, none⟩, _, fd26, rfl, rfl, ⟨_, _, _, _, _, _, _, F26, FS26, ok26⟩, me_stretches, pl26 F26⟩
      | 2, hm, hi => cases hm; cases hi; exact ⟨rfl, cS, ⟨N27, ps27, ir27, none⟩, _, fd27, rfl, rfl, ⟨_, _, _, _, _, _, _, F27, FS27, ok27⟩, me_mirrored, pl27 F27⟩
      | 3, hm, hi => cases hm; cases hi; exact ⟨rfl, cS, ⟨N28, ps28, ir28, none⟩, _, fd28, rfl, rfl, ⟨_, _, _, _, _, _, _, F28, FS28, ok28⟩, me_turned, pl28 F28⟩
      | m + 4, hm, hi => cases hm
    · cases hi
  case pf =>
    have hp : plL[p]? = some (i, m, ks) := hp
    show ((plL[p]?).map (·.1)).getD 0 = i
    rw [hp]; rfl
  case co =>
    match c, hn, hd with
    | 0, hn, hd =>
      have hd : (if f = "MOST" then some (D.int 24) else if f = "TOP_KIND" then some (.int 999) else none) = some d := hd
      split at hd
      · next q => subst q; cases hd; obtain ⟨u, z⟩ := cv_ok e3; exact ⟨_, _, u, cr, z, fun _ => .int _⟩
      · split at hd
        · next q => subst q; cases hd; obtain ⟨u, z⟩ := cv_ok e4; exact ⟨_, _, u, cr, z, fun _ => .int _⟩
        · cases hd
    | c + 1, hn, _ => cases hn
  case is =>
    replace hb : (if C = clA K 0 ∧ t = 0 then some true else none) = some b := hb
    split at hb
    · next q => obtain ⟨rfl, rfl⟩ := q; cases hb; exact ⟨rfl, rfl, iC⟩
    · cases hb
  case it =>
    replace hf : (if C = clA K 0 then some ("kinds" : PySem.Str) else none) = some f := hf
    split at hf
    · next q => subst q; cases hf; exact ow
    · cases hf
  case xn =>
    match t, hn with
    | 0, hn => cases hn
    | 1, hn => cases hn; exact gC1
    | 2, hn => cases hn; exact gC2
    | 3, hn => cases hn; exact gC3
    | 4, hn => cases hn; exact gC4
    | 5, hn => cases hn; exact gC5
    | t + 6, hn => cases hn
  case xh =>
    replace hb : (if A = clA K 2 then (if t = 1 ∨ t = 2 then some true else if t = 3 ∨ t = 4 ∨ t = 5 then some false else none) else if A = clA K 3 then (if t = 1 ∨ t = 3 then some true else if t = 2 ∨ t = 4 ∨ t = 5 then some false else none) else none) = some b := hb
    split at hb
    · next q =>
      subst q
      split at hb
      · next q => cases hb; exact q.elim (fun q => by subst q; exact ⟨(isx (2, 1, true) (by decide)).1, (isx (2, 1, true) (by decide)).2, xc2.1⟩) fun q => by subst q; exact ⟨(isx (2, 2, true) (by decide)).1, (isx (2, 2, true) (by decide)).2, xc2.1⟩
      · split at hb
        · next q => cases hb; exact q.elim (fun q => by subst q; exact ⟨(isx (2, 3, false) (by decide)).1, (isx (2, 3, false) (by decide)).2, xc2.1⟩) fun q => q.elim (fun q => by subst q; exact ⟨(isx (2, 4, false) (by decide)).1, (isx (2, 4, false) (by decide)).2, xc2.1⟩) fun q => by subst q; exact ⟨(isx (2, 5, false) (by decide)).1, (isx (2, 5, false) (by decide)).2, xc2.1⟩
        · cases hb
    · split at hb
      · next q =>
        subst q
        split at hb
        · next q => cases hb; exact q.elim (fun q => by subst q; exact ⟨(isx (3, 1, true) (by decide)).1, (isx (3, 1, true) (by decide)).2, xc3.1⟩) fun q => by subst q; exact ⟨(isx (3, 3, true) (by decide)).1, (isx (3, 3, true) (by decide)).2, xc3.1⟩
        · split at hb
          · next q => cases hb; exact q.elim (fun q => by subst q; exact ⟨(isx (3, 2, false) (by decide)).1, (isx (3, 2, false) (by decide)).2, xc3.1⟩) fun q => q.elim (fun q => by subst q; exact ⟨(isx (3, 4, false) (by decide)).1, (isx (3, 4, false) (by decide)).2, xc3.1⟩) fun q => by subst q; exact ⟨(isx (3, 5, false) (by decide)).1, (isx (3, 5, false) (by decide)).2, xc3.1⟩
          · cases hb
      · cases hb
  case xb =>
    replace hb : (if A = clA K 2 ∨ A = clA K 3 then (if nm = "ValueError" then some true else none) else none) = some b := hb
    split at hb
    · next q =>
      split at hb
      · next q2 =>
        subst q2
        cases hb
        rcases q with rfl | rfl
        · exact ⟨of_decide_eq_true e13, xc2.1⟩
        · exact ⟨of_decide_eq_true e14, xc3.1⟩
      · cases hb
    · cases hb
  case xf =>
    replace hf : ((C == clA K 2 && decide (f = "at")) || (C == clA K 3 && decide (f = "bead"))) = true := hf
    rcases Bool.or_eq_true_iff.mp hf with q | q
    · obtain ⟨q1, q2⟩ := He.ba q
      have q1 := beq_iff_eq.mp q1
      have q2 := of_decide_eq_true q2
      subst q1 q2
      exact ⟨xc2.2, nx2⟩
    · obtain ⟨q1, q2⟩ := He.ba q
      have q1 := beq_iff_eq.mp q1
      have q2 := of_decide_eq_true q2
      subst q1 q2
      exact ⟨xc3.2, nx3⟩
  case cme =>
    match c, hc, hi with
    | 0, hc, hi =>
      match m, hm, hi with
      | 0, hm, hi => cases hm; cases hi; exact ⟨⟨N25, ps25, ir25, none⟩, _, _, _, fd25, rfl, rfl, ⟨_, _, _, _, _, _, _, F25, FS25, ok25⟩, cr, cmB_ok e6, pl25 F25⟩
      | m + 1, hm, hi =>
        have z : cmT.lookup (m + 1) = some i := hi
        cases z
    | c + 1, hc, hi => cases hc
  case ctor =>
    replace hc : (if C = clA K 0 then some 24 else none) = some i := hc
    split at hc
    · next q => subst q; cases hc; exact ⟨⟨N24, ps24, ir24, some 0⟩, 0, _, fd24, rfl, rfl, rfl, ⟨_, _, _, _, _, _, _, F24, FS24, ok24⟩, mS, F24.bindsN fun _ _ _ _ _ _ us hl => match us, hl with | [_, _], _ => rfl⟩
    · cases hc
  case er =>
    replace hd : exT.lookup i = some f := hd
    match i, hn, hd with
    | 0, hn, hd => cases hn
    | 1, hn, hd => cases hd
    | 2, hn, hd => cases hn; cases hd; exact de2
    | 3, hn, hd => cases hn; cases hd; exact de3
    | 4, hn, hd => cases hd
    | 5, hn, hd => cases hd
    | i + 6, hn, hd => cases hn
  case at_ =>
    obtain ⟨h1, h2⟩ := He.ba (show (C == clA K 0 && fldL.contains f) = true from hf)
    have h1 := beq_iff_eq.mp h1
    subst h1
    refine ⟨cS, ?_⟩
    have z : f ∈ fldL := List.contains_iff_mem.mp h2
    simp only [fldL, List.mem_cons, List.not_mem_nil, or_false] at z
    rcases z with rfl | rfl | rfl | rfl | rfl
    · exact na0
    · exact na1
    · exact na2
    · exact na3
    · exact na4
theorem facts (X : K.In h) (G : h.Ns mainGlobals mg) (hfa : mg ("law" : Str) = some (.ref f)) (c : He.SaysD fa fn K) (e : exB K = true) (ea : fnA K (cmS K) = dd25.val) :
    clA K 2 ≠ clA K 3 ∧ ∃ fd : FuncData, (∀ (s : Shared) (v : Value), BindsTo s fd ⟨[v], []⟩ [("_law_script", v)]) ∧ ∀ base : Heap, FnOk P w K mg base (L2.CX P w) 19 f fd ["_law_script"] (spC K (CA (clA K) 8 23)) := by
  obtain ⟨fd, F⟩ := c.def_ 23 (d := dd23) rfl
  have gl := He.glo_ok X G (c.fact 23 (f := .glo ("law" : PySem.Str)) rfl)
  have eL := hfa.symm.trans gl
  cases eL
  have b := FunD.bindsA (ps := ["_law_script"]) F fun _ _ _ _ _ _ us hl => match us, hl with | [_], _ => rfl
  refine ⟨?_, fd, fun s v => b s [v] rfl, fun base => ?_⟩
  · obtain ⟨_, e⟩ := He.ba e
    obtain ⟨_, e⟩ := He.ba e
    obtain ⟨_, e⟩ := He.ba e
    obtain ⟨_, e⟩ := He.ba e
    obtain ⟨_, e⟩ := He.ba e
    obtain ⟨_, e⟩ := He.ba e
    obtain ⟨_, e⟩ := He.ba e
    obtain ⟨_, e⟩ := He.ba e
    obtain ⟨_, e⟩ := He.ba e
    obtain ⟨_, e⟩ := He.ba e
    obtain ⟨_, e⟩ := He.ba e
    obtain ⟨_, e⟩ := He.ba e
    obtain ⟨_, e⟩ := He.ba e
    exact of_decide_eq_true (He.ba e).2
  have m := modOk (P := P) (w := w) (base := base) X G c e ea
  have z := fnE (e := ⟨N23, ps23, ir23, none⟩) F FS23 (glo m 7) (by decide) ok23
  exact z.mono (by decide)
end
end L01
end

section
set_option Elab.async false
set_option linter.all false
set_option maxRecDepth 100000
set_option maxHeartbeats 4000000
set_option autoImplicit false
namespace Ev
open PySem PySem.Spec L2 Pd
theorem okMul_of {i j : Int} (h1 : i.natAbs < 2 ^ 250) (h2 : j.natAbs < 2 ^ 250) : okMul i j := by
  unfold okMul
  have a : i.natAbs.log2 < 251 := by
    by_cases z : i.natAbs = 0
    · rw [z]; decide
    · exact Nat.lt_succ_of_lt ((Nat.log2_lt z).mpr h1)
  have b : j.natAbs.log2 < 251 := by
    by_cases z : j.natAbs = 0
    · rw [z]; decide
    · exact Nat.lt_succ_of_lt ((Nat.log2_lt z).mpr h2)
  omega
theorem okDiv_of {j : Int} (h0 : 0 < j) (h2 : j.natAbs < 2 ^ 250) : okDiv j := by
  refine ⟨h0, ?_⟩
  have b : j.natAbs.log2 < 251 := Nat.lt_succ_of_lt ((Nat.log2_lt (by omega)).mpr h2)
  omega
theorem p250 : (1000000000000 : Nat) < 2 ^ 250 := by decide
theorem okMul_s {i j : Int} (h1 : i.natAbs < 1000000000000) (h2 : j.natAbs < 1000000000000) : okMul i j := okMul_of (Nat.lt_trans h1 p250) (Nat.lt_trans h2 p250)
theorem okDiv_s {j : Int} (h0 : 0 < j) (h2 : j.natAbs < 1000000000000) : okDiv j := okDiv_of h0 (Nat.lt_trans h2 (by decide))
/-! ### what is drawn -/
def In (a b : Int) (xs : List Int) : Prop := ∀ x ∈ xs, a ≤ x ∧ x < b
theorem wc_call (Φ : Phi) (g : Nat → List D → Option RR) : (wc Φ g).call = g := rfl
theorem okr {n : Nat} (hn : n < 1000) : okRg (n : Int) := ⟨by omega, by omega⟩
theorem rng0 (n : Nat) : rngD 0 n = ((List.range n).map fun i : Nat => (i : Int)).map D.int := by
  unfold rngD
  rw [List.map_map]
  apply List.map_congr_left
  intro a _
  simp
theorem rng0_in (n : Nat) (h : n < 1000) : In 0 100000 ((List.range n).map fun i : Nat => (i : Int)) := fun z hz => by
  obtain ⟨a, ha, rfl⟩ := List.mem_map.mp hz
  have := List.mem_range.mp ha
  exact ⟨by omega, by omega⟩
theorem runF_eq {Φ : Phi} {e : En} {ds : List D} {γ : List S2} {o : Out} {r : RR} (h : ds.length = e.ps.length) (hg : stF e.N ds = γ) (ho : evSs Φ e.ir γ = some o) (hr : o.toF = some r) : runF Φ e ds = some r := by
  unfold runF
  rw [if_pos h, hg, ho]
  exact hr
theorem it_rg0 {n : Nat} (hn : n < 1000) : itms .rg [D.int (n : Int)] = some (rngD 0 n) := by
  have z : itms .rg [D.int (n : Int)] = if okRg (n : Int) then some (rngD 0 (n : Int).toNat) else none := by rw [itms]
  rw [z, if_pos (okr hn), Int.toNat_natCast]
theorem ev_new0 (Φ : Phi) (γ : List S2) : ev Φ γ false (.lst []) = some (.new []) := by
  rw [ev_lst, evL_nil]
  rfl
section
variable {Φ : Phi} {γ : List S2} {e1 e2 : IE} {t : Bool}
theorem eq_i {i j : Int} {q : Bool} (h1 : ev Φ γ false e1 = some (.val (.int i))) (h2 : ev Φ γ false e2 = some (.val (.int j))) (h : decide (i = j) = q) : ev Φ γ t (.cmp .Eq e1 e2) = some (.val (.bl q)) := cmp_v h1 h2 (by subst h; rfl)
theorem lt_i {i j : Int} {q : Bool} (h1 : ev Φ γ false e1 = some (.val (.int i))) (h2 : ev Φ γ false e2 = some (.val (.int j))) (h : decide (i < j) = q) : ev Φ γ t (.cmp .Lt e1 e2) = some (.val (.bl q)) := cmp_v h1 h2 (by subst h; rfl)
theorem le_i {i j : Int} {q : Bool} (h1 : ev Φ γ false e1 = some (.val (.int i))) (h2 : ev Φ γ false e2 = some (.val (.int j))) (h : decide (i ≤ j) = q) : ev Φ γ t (.cmp .LtE e1 e2) = some (.val (.bl q)) := cmp_v h1 h2 (by subst h; rfl)
theorem gt_i {i j : Int} {q : Bool} (h1 : ev Φ γ false e1 = some (.val (.int i))) (h2 : ev Φ γ false e2 = some (.val (.int j))) (h : decide (j < i) = q) : ev Φ γ t (.cmp .Gt e1 e2) = some (.val (.bl q)) := cmp_v h1 h2 (by subst h; rfl)
theorem ge_i {i j : Int} {q : Bool} (h1 : ev Φ γ false e1 = some (.val (.int i))) (h2 : ev Φ γ false e2 = some (.val (.int j))) (h : decide (j ≤ i) = q) : ev Φ γ t (.cmp .GtE e1 e2) = some (.val (.bl q)) := cmp_v h1 h2 (by subst h; rfl)
theorem or_t (h1 : ev Φ γ t e1 = some (.val (.bl true))) : ev Φ γ t (.or e1 e2) = some (.val (.bl true)) := by rw [ev_or, h1, and_val] <;> rfl
theorem or_f {x : Option RR} (h1 : ev Φ γ t e1 = some (.val (.bl false))) (h2 : ev Φ γ t e2 = x) : ev Φ γ t (.or e1 e2) = x := by rw [ev_or, h1, and_val] <;> exact h2
theorem and_t {x : Option RR} (h1 : ev Φ γ t e1 = some (.val (.bl true))) (h2 : ev Φ γ t e2 = x) : ev Φ γ t (.and e1 e2) = x := by rw [ev_and, h1, and_val] <;> exact h2
theorem and_f (h1 : ev Φ γ t e1 = some (.val (.bl false))) : ev Φ γ t (.and e1 e2) = some (.val (.bl false)) := by rw [ev_and, h1, and_val] <;> rfl
theorem not_v {q : Bool} (h1 : ev Φ γ t e1 = some (.val (.bl q))) : ev Φ γ t (.not e1) = some (.val (.bl (!q))) := by rw [ev_not, h1, and_val] <;> rfl
theorem add_i {i j : Int} (h1 : ev Φ γ false e1 = some (.val (.int i))) (h2 : ev Φ γ false e2 = some (.val (.int j))) : ev Φ γ false (.bin .Add e1 e2) = some (.val (.int (i + j))) := bin_v h1 h2 rfl
theorem sub_i {i j : Int} (h1 : ev Φ γ false e1 = some (.val (.int i))) (h2 : ev Φ γ false e2 = some (.val (.int j))) : ev Φ γ false (.bin .Sub e1 e2) = some (.val (.int (i - j))) := bin_v h1 h2 rfl
theorem mul_i {i j : Int} (h1 : ev Φ γ false e1 = some (.val (.int i))) (h2 : ev Φ γ false e2 = some (.val (.int j))) (ok : okMul i j) : ev Φ γ false (.bin .Mult e1 e2) = some (.val (.int (i * j))) := bin_v h1 h2 (if_pos ok)
theorem mod_i {i j : Int} (h1 : ev Φ γ false e1 = some (.val (.int i))) (h2 : ev Φ γ false e2 = some (.val (.int j))) (ok : 0 < j) : ev Φ γ false (.bin .Mod e1 e2) = some (.val (.int (i % j))) := bin_v h1 h2 (if_pos ok)
theorem div_i {i j : Int} (h1 : ev Φ γ false e1 = some (.val (.int i))) (h2 : ev Φ γ false e2 = some (.val (.int j))) (ok : okDiv j) : ev Φ γ false (.bin .FloorDiv e1 e2) = some (.val (.int (i / j))) := bin_v h1 h2 (if_pos ok)
theorem int_i {i : Int} (h1 : ev Φ γ false e1 = some (.val (.int i))) : ev Φ γ false (.bi .int [e1]) = some (.val (.int i)) := bi1_v h1 rfl
end
section
variable {Φ : Phi} {γ : List S2} {e1 e2 e3 : IE} {t : Bool}
theorem ife_t {x : Option RR} (h : ev Φ γ true e1 = some (.val (.bl true))) (h2 : ev Φ γ false e2 = x) : ev Φ γ false (.ife e1 e2 e3) = x := by
  rw [ev_ife, h] <;> exact h2
theorem ife_f {x : Option RR} (h : ev Φ γ true e1 = some (.val (.bl false))) (h2 : ev Φ γ false e3 = x) : ev Φ γ false (.ife e1 e2 e3) = x := by
  rw [ev_ife, h] <;> exact h2
theorem lst_cs (cs : List D) (k : List D → Option RR) : evL Φ γ (cs.map .cst) k = k cs := by
  induction cs generalizing k with
  | nil => rw [List.map_nil, evL_nil]
  | cons c r ih => rw [List.map_cons, evL_cons, cst_v, and_val, ih]
theorem lst_c (cs : List D) (h : cs.length ≤ 100000) : ev Φ γ false (.lst (cs.map .cst)) = some (.new cs) := by
  rw [ev_lst, tst_f, lst_cs, if_pos h]
theorem sub_n {ds : List D} {d2 : D} {x : RR} (h1 : ev Φ γ false e1 = some (.new ds)) (h2 : ev Φ γ false e2 = some (.val d2)) (h : subD (.lst ds) d2 = some x) : ev Φ γ false (.sub e1 e2) = some x := by rw [ev_sub, h1, and_new, h2, and_val, tst_f, h]
theorem atI_int {xs : List Int} {i : Int} (h0 : 0 ≤ i) (h : i.toNat < xs.length) : atI (xs.map D.int) i = some (.int (xs.getD i.toNat 0)) := by
  unfold atI ixN
  simp [h0]
  have : i < (xs.length : Int) := by omega
  simp [this, List.getD_eq_getElem?_getD, List.getElem?_eq_getElem h]
theorem sub_li {xs : List Int} {i : Int} (h1 : ev Φ γ false e1 = some (.val (.lst (xs.map .int)))) (h2 : ev Φ γ false e2 = some (.val (.int i))) (h0 : 0 ≤ i) (h : i.toNat < xs.length) : ev Φ γ false (.sub e1 e2) = some (.val (.int (xs.getD i.toNat 0))) := sub_v h1 h2 (by show (atI _ i).map RR.val = _; rw [atI_int h0 h]; rfl)
theorem sub_ln {xs : List Int} {i : Int} (h1 : ev Φ γ false e1 = some (.new (xs.map .int))) (h2 : ev Φ γ false e2 = some (.val (.int i))) (h0 : 0 ≤ i) (h : i.toNat < xs.length) : ev Φ γ false (.sub e1 e2) = some (.val (.int (xs.getD i.toNat 0))) := sub_n h1 h2 (by show (atI _ i).map RR.val = _; rw [atI_int h0 h]; rfl)
theorem lcGo_map {F : D → Option (Option D)} {f : D → D} : ∀ {items : List D}, (∀ d ∈ items, F d = some (some (f d))) → lcGo F items = some (items.map f)
  | [], _ => by unfold lcGo; rfl
  | d :: r, h => by
    unfold lcGo
    rw [h d (List.mem_cons_self ..), lcGo_map fun x hx => h x (List.mem_cons_of_mem _ hx)] <;> rfl
theorem lc_map {items : List D} {f : D → D} {elt : IE} {tg : List Nat} {k : IK} {its : List IE} (hs : (evD Φ γ its).bind (itms k) = some items) (hz : items.length ≤ 50000) (he : ∀ d ∈ items, ∃ γ2, put tg d (blk γ tg) = some γ2 ∧ ev Φ γ2 false elt = some (.val (f d))) : ev Φ γ false (.lc elt tg k its []) = some (.new (items.map f)) := by
  rw [ev_lc, tst_f, hs]
  show (if items.length ≤ 50000 then _ else _) = _
  rw [if_pos hz, lcGo_map (f := f) fun d hd => ?_]
  · rfl
  · obtain ⟨γ2, h1, h2⟩ := he d hd
    rw [h1]
    dsimp only
    rw [evC_nil, h2]
    rfl
theorem it_vl1 {e : IE} {ds : List D} (h : ev Φ γ false e = some (.val (.lst ds))) : (evD Φ γ [e]).bind (itms .vl) = some ds := by rw [evD1_v h, Option.bind_some] <;> rfl
end
theorem In.at {a b : Int} {xs : List Int} (h : In a b xs) {i : Nat} (hi : i < xs.length) : a ≤ xs.getD i 0 ∧ xs.getD i 0 < b := by
  rw [List.getD_eq_getElem?_getD, List.getElem?_eq_getElem hi]
  exact h _ (List.getElem_mem hi)
theorem mod_nn (a b : Int) (h : 0 < b) : 0 ≤ a % b ∧ a % b < b := ⟨Int.emod_nonneg _ (by omega), Int.emod_lt_of_pos _ h⟩
def kOf (b st : Int) (ps : List Int) : List Int := ps.map fun p => (b + p * st) % 1000
theorem kOf_in (b st : Int) (ps : List Int) : In 0 1000 (kOf b st ps) := fun z hz => by
  obtain ⟨p, _, rfl⟩ := List.mem_map.mp hz
  exact mod_nn _ _ (by decide)
theorem kOf_len (b st : Int) (ps : List Int) : (kOf b st ps).length = ps.length := List.length_map ..
theorem kOf_D (b st : Int) (ps : List Int) : (ps.map D.int).map (fun d => match d with
    | .int p => D.int ((b + p * st) % 1000)
    | d => d) = (kOf b st ps).map .int := by
  unfold kOf
  rw [List.map_map, List.map_map]
  rfl
def V8 : List Int := [1, 2, 2, 3, 3, 4, 6, 24]
def V4 : List Int := [1, 7, 333, 999]
theorem V8_in : In 1 25 V8 := by unfold In V8; decide
theorem V4_in : In 1 1000 V4 := by unfold In V4; decide
section
variable {Φ : Phi} {γ : List S2} {e1 e2 : IE}
theorem lst_ls (css : List (List D)) (h : ∀ cs ∈ css, cs.length ≤ 100000) (k : List D → Option RR) : evL Φ γ (css.map fun cs => .lst (cs.map .cst)) k = k (css.map .lst) := by
  induction css generalizing k with
  | nil => rw [List.map_nil, evL_nil] <;> rfl
  | cons c r ih => rw [List.map_cons, evL_cons, lst_c c (h c (List.mem_cons_self ..)), and_new, ih fun x hx => h x (List.mem_cons_of_mem _ hx)] <;> rfl
theorem lst_l (css : List (List D)) (h : ∀ cs ∈ css, cs.length ≤ 100000) (hl : css.length ≤ 100000) : ev Φ γ false (.lst (css.map fun cs => .lst (cs.map .cst))) = some (.new (css.map .lst)) := by
  rw [ev_lst, tst_f, lst_ls css h, List.length_map, if_pos hl]
theorem add_ln {a b : List D} (h1 : ev Φ γ false e1 = some (.val (.lst a))) (h2 : ev Φ γ false e2 = some (.new b)) (h : a.length + b.length ≤ 100000) : ev Φ γ false (.bin .Add e1 e2) = some (.new (a ++ b)) := by
  rw [ev_bin, h1, and_val, h2, and_new, tst_f]
  exact if_pos h
end
def ll (p : List (List Int)) : List D := p.map fun l => .lst (l.map .int)
section
variable {Φ : Phi} {γ : List S2} {e1 e2 : IE}
theorem att_v {C : Addr} {fs : List (Str × D)} {f : Str} {d : D} (h : ev Φ γ false e1 = some (.val (.obj C fs))) (hf : Φ.fld C f = true) (hl : fs.lookup f = some d) : ev Φ γ false (.att e1 f) = some (.val d) := by
  rw [ev_att, h, and_val, tst_f]
  show (if Φ.fld C f then (fs.lookup f).map RR.val else none) = _
  rw [if_pos hf, hl] <;> rfl
theorem sub_ti {xs : List Int} {i : Int} (h1 : ev Φ γ false e1 = some (.val (.tup (xs.map .int)))) (h2 : ev Φ γ false e2 = some (.val (.int i))) (h0 : 0 ≤ i) (h : i.toNat < xs.length) : ev Φ γ false (.sub e1 e2) = some (.val (.int (xs.getD i.toNat 0))) := sub_v h1 h2 (by show (atI _ i).map RR.val = _; rw [atI_int h0 h]; rfl)
theorem tup_2 {d1 d2 : D} (h1 : ev Φ γ false e1 = some (.val d1)) (h2 : ev Φ γ false e2 = some (.val d2)) : ev Φ γ false (.tup [e1, e2]) = some (.val (.tup [d1, d2])) := by
  rw [ev_tup, evL_cons, h1, and_val, evL_cons, h2, and_val, evL_nil, tst_f] <;> rfl
end
theorem rngD_mem {a : Int} {m : Nat} {d : D} (h : d ∈ rngD a m) : ∃ i : Int, d = .int i ∧ a ≤ i ∧ i < a + m := by
  unfold rngD at h
  obtain ⟨x, hx, rfl⟩ := List.mem_map.mp h
  have := List.mem_range.mp hx
  exact ⟨_, rfl, by omega, by omega⟩
theorem rngD_len (a : Int) (m : Nat) : (rngD a m).length = m := by unfold rngD; rw [List.length_map, List.length_range]
section
variable {Φ : Phi} {γ : List S2} {e1 e2 : IE}
theorem lcGo_fil {F : D → Option (Option D)} {p : D → Bool} : ∀ {items : List D}, (∀ d ∈ items, F d = some (if p d then some d else none)) → lcGo F items = some (items.filter p)
  | [], _ => by unfold lcGo; rfl
  | d :: r, h => by
    unfold lcGo
    rw [h d (List.mem_cons_self ..), lcGo_fil fun x hx => h x (List.mem_cons_of_mem _ hx), List.filter_cons]
    cases p d <;> rfl
theorem lc_fil {items : List D} {p : D → Bool} {elt c : IE} {tg : List Nat} {k : IK} {its : List IE} (hs : (evD Φ γ its).bind (itms k) = some items) (hz : items.length ≤ 50000) (he : ∀ d ∈ items, ∃ γ2, put tg d (blk γ tg) = some γ2 ∧ ev Φ γ2 true c = some (.val (.bl (p d))) ∧ ev Φ γ2 false elt = some (.val d)) : ev Φ γ false (.lc elt tg k its [c]) = some (.new (items.filter p)) := by
  rw [ev_lc, tst_f, hs]
  show (if items.length ≤ 50000 then _ else _) = _
  rw [if_pos hz, lcGo_fil (p := p) fun d hd => ?_]
  · rfl
  · obtain ⟨γ2, h1, h2, h3⟩ := he d hd
    rw [h1]
    dsimp only
    rw [evC_cons, h2, h3]
    cases p d <;> rfl
theorem len_n {ds : List D} (h : ev Φ γ false e1 = some (.new ds)) : ev Φ γ false (.bi .len [e1]) = some (.val (.int ds.length)) := bi1_n h rfl
theorem eq_s {a b : Str} {t : Bool} (h1 : ev Φ γ false e1 = some (.val (.str a))) (h2 : ev Φ γ false e2 = some (.val (.str b))) : ev Φ γ t (.cmp .Eq e1 e2) = some (.val (.bl (decide (a = b)))) := cmp_v h1 h2 rfl
end
def pD (p : Int × Int) : D := .tup [.int p.1, .int p.2]
section
variable {Φ : Phi} {γ : List S2} {e1 e2 : IE} {t : Bool}
theorem inb_v {d : D} {ty n : String} {q : Bool} (h : ev Φ γ false e1 = some (.val d)) (ht : d.tyN = some ty) (hk : kitB ty n = some q) : ev Φ γ t (.inb e1 n) = some (.val (.bl q)) := by
  rw [ev_inb, h, and_val, ht]
  dsimp only
  rw [hk]
  rfl
theorem isc_v {d c : D} {q : Bool} (h : ev Φ γ false e1 = some (.val d)) (hk : iscD c d = some q) : ev Φ γ t (.isc false e1 c) = some (.val (.bl q)) := by
  rw [ev_isc, h, and_val, hk]
  rfl
theorem ne_b {p q r : Bool} (h1 : ev Φ γ false e1 = some (.val (.bl p))) (h2 : ev Φ γ false e2 = some (.val (.bl q))) (h : (!decide (p = q)) = r) : ev Φ γ t (.cmp .NotEq e1 e2) = some (.val (.bl r)) := cmp_v h1 h2 (by subst h; rfl)
theorem ne_i {p q : Int} {r : Bool} (h1 : ev Φ γ false e1 = some (.val (.int p))) (h2 : ev Φ γ false e2 = some (.val (.int q))) (h : (!decide (p = q)) = r) : ev Φ γ t (.cmp .NotEq e1 e2) = some (.val (.bl r)) := cmp_v h1 h2 (by subst h; rfl)
theorem fnT {f : Nat} {as : List IE} {q : Bool} (h : ev Φ γ false (.fn f as) = some (.val (.bl q))) : ev Φ γ true (.fn f as) = some (.val (.bl q)) := by
  rw [ev_fn, tst_f] at h
  rw [ev_fn, h]
  rfl
theorem len_t {ds : List D} (h : ev Φ γ false e1 = some (.val (.tup ds))) : ev Φ γ false (.bi .len [e1]) = some (.val (.int ds.length)) := bi1_v h rfl
end
theorem k_ii : kitB "int" "int" = some true := by decide +kernel
theorem k_ib : kitB "int" "bool" = some false := by decide +kernel
theorem k_ti : kitB "tuple" "int" = some false := by decide +kernel
theorem k_ts : kitB "tuple" "str" = some false := by decide +kernel
theorem k_tl : kitB "tuple" "list" = some false := by decide +kernel
theorem k_tt : kitB "tuple" "tuple" = some true := by decide +kernel
theorem k_si : kitB "str" "int" = some false := by decide +kernel
theorem k_ss : kitB "str" "str" = some true := by decide +kernel
theorem ne_ii {Φ : Phi} {γ : List S2} {e1 e2 : IE} {t : Bool} {p q : Int} (h1 : ev Φ γ false e1 = some (.val (.int p))) (h2 : ev Φ γ false e2 = some (.val (.int q))) : ev Φ γ t (.cmp .NotEq e1 e2) = some (.val (.bl (!decide (p = q)))) := cmp_v h1 h2 rfl
section
variable {Φ : Phi} {γ γ1 : List S2} {e1 e2 e3 : IE} {t : Bool}
theorem chn_t {x y z : Int} (h1 : ev Φ γ false e1 = some (.val (.int x))) (h2 : ev Φ γ false e2 = some (.val (.int y))) (h3 : ev Φ γ false e3 = some (.val (.int z))) (a : x ≤ y) (b : y ≤ z) : ev Φ γ t (.chn .LtE .LtE e1 e2 e3) = some (.val (.bl true)) := by
  rw [ev_chn, h1, and_val, h2, and_val]
  have c1 : cmpD .LtE (.int x) (.int y) = some true := by
    show some (decide (x ≤ y)) = _
    rw [decide_eq_true a]
  have c2 : cmpD .LtE (.int y) (.int z) = some true := by
    show some (decide (y ≤ z)) = _
    rw [decide_eq_true b]
  rw [c1]
  dsimp only
  rw [h3, and_val, c2]
  rfl
theorem fld_v {v : Vw} {f : Str} {C : Addr} {fs : List (Str × D)} {d : D} (h : evP Φ γ v e1 = some (γ1, .val d)) (h0 : γ1[0]? = some (.ob C fs)) (hl : fs.length < 1000) (hf : Φ.fld C f = true) : evS Φ (.fld v f e1) γ = some (.nx (γ1.set 0 (.ob C (putFD f d fs)))) := by
  rw [evS_fld, h]
  dsimp only
  rw [h0]
  exact if_pos ⟨hl, hf⟩
end
theorem runI_eq {Φ : Phi} {e : En} {C : Addr} {ds : List D} {γ γ2 : List S2} {fs : List (Str × D)} (h : ds.length + 1 = e.ps.length) (hg : stI e.N C ds = γ) (ho : evSs Φ e.ir γ = some (.nx γ2)) (hr : γ2[0]? = some (.ob C fs)) : runI Φ e C ds = some (.val (.obj C fs)) := by
  unfold runI
  rw [if_pos h, hg, ho, Option.bind_some]
  show (match (γ2[0]? : Option S2) with
    | some (S2.ob C' fs) => if C' = C then some (RR.val (.obj C fs)) else none
    | _ => none) = _
  rw [hr]
  exact if_pos rfl
theorem ints_map : ∀ ks : List Int, ints? (ks.map D.int) = some ks
  | [] => rfl
  | k :: r => by
    rw [List.map_cons]
    unfold ints?
    rw [ints_map r] <;> rfl
theorem lkK (d : D) (l : List (Str × D)) : List.lookup ("kinds" : PySem.Str) (("kinds", d) :: l) = some d := by simp [List.lookup]
section
variable {Φ : Phi} {γ γ1 : List S2} {e e1 e2 ix : IE}
theorem seti_ {v : Vw} {i n : Nat} {j : Int} {d : D} {ds : List D} (h : evP Φ γ v e = some (γ1, .val d)) (hx : ev Φ (γ1.map S2.vwO) false ix = some (.val (.int j))) (hi : γ1[i]? = some (.ow ds)) (hn : ixN ds.length j = some n) : evS Φ (.seti v i ix e) γ = some (.nx (γ1.set i (.ow (ds.set n d)))) := by
  rw [evS_seti, h]
  dsimp only
  rw [hx, hi]
  show (ixN ds.length j).map _ = _
  rw [hn] <;> rfl
end
theorem cut_lo (ds : List D) (a : Nat) (h : a ≤ ds.length) : cutD ds none (some (a : Int)) = ds.take a := by
  unfold cutD
  have e : HT.sIx ds.length ds.length (some (a : Int)) = a := by
    simp [HT.sIx]
    rw [if_neg (by omega)]
    omega
  have e0 : HT.sIx ds.length 0 none = 0 := by simp [HT.sIx]
  rw [e, e0]
  simp
theorem cut_hi (ds : List D) (a : Nat) (h : a ≤ ds.length) : cutD ds (some (a : Int)) none = ds.drop a := by
  unfold cutD
  have e : HT.sIx ds.length 0 (some (a : Int)) = a := by
    simp [HT.sIx]
    rw [if_neg (by omega)]
    omega
  have e0 : HT.sIx ds.length ds.length none = ds.length := by simp [HT.sIx]
  rw [e, e0]
  rw [List.take_of_length_le]
  simp
section
variable {Φ : Phi} {γ γ1 : List S2} {e1 e2 e3 : IE}
theorem evO_v {i : Int} (h : ev Φ γ false e1 = some (.val (.int i))) : evO Φ γ [e1] = some (some i) := by rw [evO_cons, h] <;> rfl
theorem slc_l {ds : List D} {a : Nat} (h1 : ev Φ γ false e1 = some (.val (.lst ds))) (h2 : ev Φ γ false e2 = some (.val (.int (a : Int)))) (h : a ≤ ds.length) : ev Φ γ false (.slc e1 [] [e2]) = some (.new (ds.take a)) := by
  rw [ev_slc, h1, and_val, evO_nil, evO_v h2, tst_f]
  show some (RR.new (cutD ds none (some (a : Int)))) = _
  rw [cut_lo ds a h]
theorem slc_h {ds : List D} {a : Nat} (h1 : ev Φ γ false e1 = some (.val (.lst ds))) (h2 : ev Φ γ false e2 = some (.val (.int (a : Int)))) (h : a ≤ ds.length) : ev Φ γ false (.slc e1 [e2] []) = some (.new (ds.drop a)) := by
  rw [ev_slc, h1, and_val, evO_nil, evO_v h2, tst_f]
  show some (RR.new (cutD ds (some (a : Int)) none)) = _
  rw [cut_hi ds a h]
theorem add_nn {a b : List D} (h1 : ev Φ γ false e1 = some (.new a)) (h2 : ev Φ γ false e2 = some (.new b)) (h : a.length + b.length ≤ 100000) : ev Φ γ false (.bin .Add e1 e2) = some (.new (a ++ b)) := by
  rw [ev_bin, h1, and_new, h2, and_new, tst_f]
  exact if_pos h
theorem tup_3 {d1 d2 d3 : D} (h1 : ev Φ γ false e1 = some (.val d1)) (h2 : ev Φ γ false e2 = some (.val d2)) (h3 : ev Φ γ false e3 = some (.val d3)) : ev Φ γ false (.tup [e1, e2, e3]) = some (.val (.tup [d1, d2, d3])) := by
  rw [ev_tup, evL_cons, h1, and_val, evL_cons, h2, and_val, evL_cons, h3, and_val, evL_nil, tst_f] <;> rfl
end
end Ev
namespace Ev
open PySem PySem.Spec L2 Pd
section
variable {Φ : Phi} {γ γ1 γ2 : List S2} {e1 e2 e3 : IE} {t : Bool} {r : List IS} {v : Vw} {i : Nat} {d d1 d2 d3 : D} {x : RR}
theorem dv (h : ev Φ γ false e1 = some (.val d)) : RR.d? (ev Φ γ false e1) = some d := by rw [h] <;> rfl
theorem dn {ds : List D} (h : ev Φ γ false e1 = some (.new ds)) : RR.d? (ev Φ γ false e1) = some (.lst ds) := by rw [h] <;> rfl
theorem and_d {ra : Option RR} {k : D → Option RR} (h : RR.d? ra = some d) : RR.and ra k = k d := by
  match ra, h with
  | some (.val d), h => cases h; rfl
  | some (.new ds), h => cases h; rfl
theorem fn_1d {f : Nat} (h1 : RR.d? (ev Φ γ false e1) = some d1) : ev Φ γ false (.fn f [e1]) = Φ.call f [d1] := by rw [ev_fn, evL_cons, and_d h1, evL_nil, tst_f]
theorem fn_2d {f : Nat} (h1 : RR.d? (ev Φ γ false e1) = some d1) (h2 : RR.d? (ev Φ γ false e2) = some d2) : ev Φ γ false (.fn f [e1, e2]) = Φ.call f [d1, d2] := by rw [ev_fn, evL_cons, and_d h1, evL_cons, and_d h2, evL_nil, tst_f]
theorem fn_3d {f : Nat} (h1 : RR.d? (ev Φ γ false e1) = some d1) (h2 : RR.d? (ev Φ γ false e2) = some d2) (h3 : RR.d? (ev Φ γ false e3) = some d3) : ev Φ γ false (.fn f [e1, e2, e3]) = Φ.call f [d1, d2, d3] := by rw [ev_fn, evL_cons, and_d h1, evL_cons, and_d h2, evL_cons, and_d h3, evL_nil, tst_f]
theorem bi_d {k : BI} (h1 : RR.d? (ev Φ γ false e1) = some d1) (h : biD k [d1] = some x) : ev Φ γ false (.bi k [e1]) = some x := by rw [ev_bi, evL_cons, and_d h1, evL_nil, tst_f, h]
theorem sub_d (h1 : RR.d? (ev Φ γ false e1) = some d1) (h2 : RR.d? (ev Φ γ false e2) = some d2) (h : subD d1 d2 = some x) : ev Φ γ false (.sub e1 e2) = some x := by rw [ev_sub, and_d h1, and_d h2, tst_f, h]
theorem cmp_d {op : CmpOp} {q : Bool} (h1 : RR.d? (ev Φ γ false e1) = some d1) (h2 : RR.d? (ev Φ γ false e2) = some d2) (h : cmpD op d1 d2 = some q) : ev Φ γ t (.cmp op e1 e2) = some (.val (.bl q)) := by rw [ev_cmp, and_d h1, and_d h2, h] <;> rfl
theorem bin_d {op : Operator} (h1 : RR.d? (ev Φ γ false e1) = some d1) (h2 : RR.d? (ev Φ γ false e2) = some d2) (h : binD op d1 d2 = some x) : ev Φ γ false (.bin op e1 e2) = some x := by rw [ev_bin, and_d h1, and_d h2, tst_f, h]
/-- displays: the elements in turn -/
def evAll (Φ : Phi) (γ : List S2) : List IE → List D → Prop
  | [], [] => True
  | e :: es, d :: ds => RR.d? (ev Φ γ false e) = some d ∧ evAll Φ γ es ds
  | _, _ => False
theorem evL_all {k : List D → Option RR} : ∀ {es : List IE} {ds : List D}, evAll Φ γ es ds → evL Φ γ es k = k ds
  | [], [], _ => by rw [evL_nil]
  | e :: es, d :: ds, h => by rw [evL_cons, and_d h.1, evL_all (k := fun ds => k (d :: ds)) h.2]
  | [], _ :: _, h => h.elim
  | _ :: _, [], h => h.elim
theorem lst_a {es : List IE} {ds : List D} (h : evAll Φ γ es ds) (hl : ds.length ≤ 100000) : ev Φ γ false (.lst es) = some (.new ds) := by rw [ev_lst, tst_f, evL_all h, if_pos hl]
theorem tup_a {es : List IE} {ds : List D} (h : evAll Φ γ es ds) (hl : ds.length ≤ 100000) : ev Φ γ false (.tup es) = some (.val (.tup ds)) := by rw [ev_tup, tst_f, evL_all h, if_pos hl]
theorem fn_a {f : Nat} {es : List IE} {ds : List D} (h : evAll Φ γ es ds) : ev Φ γ false (.fn f es) = Φ.call f ds := by rw [ev_fn, tst_f, evL_all h]
theorem neg_i {i : Int} (h : ev Φ γ false e1 = some (.val (.int i))) : ev Φ γ false (.neg e1) = some (.val (.int (-i))) := by rw [ev_neg, h, and_val, tst_f] <;> rfl
/-- a statement that ends -/
theorem st_xc {s : IS} {C : Addr} {fs : List (Str × D)} (h : evS Φ s γ = some (.xc C fs γ2)) : evSs Φ (s :: r) γ = some (.xc C fs γ2) := by rw [evSs_cons, h]; rfl
theorem reto_ {ds : List D} (h : γ[i]? = some (.ow ds)) : evS Φ (.reto i) γ = some (.rn ds) := by rw [evS_reto, h]
theorem raise_ {C : Nat} {f : Str} (h : evP Φ γ v e1 = some (γ1, .val d)) (hf : Φ.efld C = some f) : evS Φ (.raise v C e1) γ = some (.xc (Φ.ga C) [(f, d)] γ1) := by
  rw [evS_raise, h]
  show (Φ.efld C).map (fun f => Out.xc (Φ.ga C) [(f, d)] γ1) = _
  rw [hf]; rfl
theorem ret_x {C : Addr} {fs : List (Str × D)} (h : evP Φ γ v e1 = some (γ1, .exc C fs)) : evS Φ (.ret v e1) γ = some (.xc C fs γ1) := by rw [evS_ret, h] <;> rfl
theorem exp_x {C : Addr} {fs : List (Str × D)} (h : evP Φ γ v e1 = some (γ1, .exc C fs)) : evS Φ (.exp v e1) γ = some (.xc C fs γ1) := by rw [evS_exp, h] <;> rfl
theorem exp_v (h : evP Φ γ v e1 = some (γ1, .val d)) : evS Φ (.exp v e1) γ = some (.nx γ1) := by rw [evS_exp, h] <;> rfl
theorem nil_ : evSs Φ [] γ = some (.nx γ) := evSs_nil _ _
theorem try_rt {body suite : List IS} {C j : Nat} (h : evSs Φ body γ = some (.rt d)) : evS Φ (.try body C j suite) γ = some (.rt d) := by rw [evS_try, h]
theorem try_nx {body suite : List IS} {C j : Nat} (h : evSs Φ body γ = some (.nx γ1)) : evS Φ (.try body C j suite) γ = some (.nx γ1) := by rw [evS_try, h]
theorem try_xc {body suite : List IS} {C j : Nat} {A : Addr} {fs : List (Str × D)} (h : evSs Φ body γ = some (.xc A fs γ1)) (hx : Φ.isX A C = some true) (h2 : evSs Φ suite (γ1.set j (.ex A fs)) = some (.rt d)) : evS Φ (.try body C j suite) γ = some (.rt d) := by
  rw [evS_try, h]
  dsimp only
  rw [hx]
  dsimp only
  rw [h2]
theorem exa_v {j : Nat} {C : Addr} {fs : List (Str × D)} {f : Str} (h : γ[j]? = some (.ex C fs)) (hx : Φ.xfl C f = true) (hl : fs.lookup f = some d) : ev Φ γ false (.exa j f) = some (.val d) := by
  rw [ev_exa, h, tst_f]
  dsimp only
  rw [if_pos hx, hl] <;> rfl
theorem exi_v {j n : Nat} {C : Addr} {fs : List (Str × D)} {b : Bool} (h : γ[j]? = some (.ex C fs)) (hx : Φ.isX C n = some b) : ev Φ γ t (.exi j n) = some (.val (.bl b)) := by
  rw [ev_exi, h]
  dsimp only
  rw [hx] <;> rfl
theorem exb_v {j : Nat} {n : String} {C : Addr} {fs : List (Str × D)} {b : Bool} (h : γ[j]? = some (.ex C fs)) (hx : Φ.isB C n = some b) : ev Φ γ t (.exb j n) = some (.val (.bl b)) := by
  rw [ev_exb, h]
  dsimp only
  rw [hx] <;> rfl
theorem ins_v {n : Nat} {C : Addr} {fs : List (Str × D)} {b : Bool} (h : ev Φ γ false e1 = some (.val (.obj C fs))) (hx : Φ.isO C n = some b) : ev Φ γ t (.ins e1 n) = some (.val (.bl b)) := by
  rw [ev_ins, h, and_val]
  dsimp only
  rw [hx] <;> rfl
/-- an exception of an expression goes on -/
theorem and_x {C : Addr} {fs : List (Str × D)} {k : D → Option RR} : RR.and (some (.exc C fs)) k = some (.exc C fs) := rfl
theorem tT {q : Bool} {e : IE} (he : ev Φ γ true e = tst true (ev Φ γ false e)) (h : ev Φ γ false e = some (.val (.bl q))) : ev Φ γ true e = some (.val (.bl q)) := by rw [he, h] <;> rfl
end
end Ev
namespace Ev
open PySem PySem.Spec L2 Pd
theorem atI_n {α : Type} (xs : List α) (n : Nat) (h : n < xs.length) : atI xs (n : Int) = some xs[n] := by
  unfold atI ixN
  have : (n : Int) < (xs.length : Int) := by omega
  simp [this]
theorem atI_e {α : Type} (xs : List α) (h : 0 < xs.length) : atI xs (-1) = some (xs[xs.length - 1]'(by omega)) := by
  unfold atI ixN
  have e1 : ¬ (0 : Int) ≤ -1 := by decide
  have e2 : -(xs.length : Int) ≤ -1 := by omega
  have e3 : ((-1 : Int) + xs.length).toNat = xs.length - 1 := by omega
  rw [if_neg e1, if_pos e2, Option.bind_some, e3, List.getElem?_eq_getElem (by omega)]
end Ev
namespace Ev
open PySem PySem.Spec L2 Pd
theorem all_c {Φ : Phi} {γ : List S2} {e : IE} {es : List IE} {d : D} {ds : List D} (h : RR.d? (ev Φ γ false e) = some d) (h2 : evAll Φ γ es ds) : evAll Φ γ (e :: es) (d :: ds) := ⟨h, h2⟩
theorem all_n {Φ : Phi} {γ : List S2} : evAll Φ γ [] [] := trivial
end Ev
end

section
set_option Elab.async false
set_option linter.all false
set_option maxRecDepth 100000
set_option maxHeartbeats 4000000
set_option autoImplicit false
namespace L01
open PySem PySem.Spec L2 Pd Ev

theorem e_cell (g : Nat → Addr) (k : Nat) (ns : List Int) (at_ : Int) (h : 0 ≤ at_) : ∃ c, CA g (k + 1) 3 [.rol (ns.map .int), .int at_] = some (.val (.int c)) := by
  rw [ca_3]
  by_cases hl : at_ < (ns.length : Int)
  · refine ⟨ns[at_.toNat]'(by omega), ?_⟩
    have e : atI (ns.map D.int) at_ = some (.int (ns[at_.toNat]'(by omega))) := by
      unfold atI ixN
      simp [hl, h]
    simp [runF, ir3, ps3, N3, stF, evSs, evS, evP, ev, evL, tst, RR.and, bl?, cmpD, biD, iv, bv, subD, hl, e, Out.then, S2.vwO, Out.toF]
  · refine ⟨0, ?_⟩
    simp [runF, ir3, ps3, N3, stF, evSs, evS, evP, ev, evL, tst, RR.and, bl?, cmpD, biD, iv, bv, subD, hl, Out.then, S2.vwO, Out.toF]
def mixF (c k : Int) : Int :=
  let a := (c + 7919 * k + 13) % 2147483647
  let b := (a * (a + 48271)) % 2147483629
  let d := (b * (b + 69621) + 31 * k) % 2147483647
  d / 9
theorem e_mixed (g : Nat → Addr) (k : Nat) (c j : Int) (h0 : 0 ≤ j) (h1 : j < 100000) : ∃ m, CA g (k + 1) 4 [.int c, .int j] = some (.val (.int m)) := by
  rw [ca_4]
  have m1 : ∀ x : Int, okMul (x % 2147483647) (x % 2147483647 + 48271) := fun x => okMul_s (by omega) (by omega)
  have m2 : ∀ x : Int, okMul (x % 2147483629) (x % 2147483629 + 69621) := fun x => okMul_s (by omega) (by omega)
  have m3 : okMul 7919 j := okMul_s (by omega) (by omega)
  have m4 : okMul 31 j := okMul_s (by omega) (by omega)
  have d1 : okDiv 9 := okDiv_s (by omega) (by omega)
  refine ⟨mixF c j, ?_⟩
  simp [mixF, runF, ir4, ps4, N4, stF, evSs, evS, evP, ev, evL, tst, RR.and, binD, biD, iv, Out.then, setS, frz, m1, m2, m3, m4, d1, Out.toF]
/-- small numbers in a list -/
def drB : List IS := [.ite (.and (.cmp .GtE (.loc 0) (.bin .Pow (.cst (.int 10)) (.cst (.int 18)))) (.cmp .Gt (.loc 4) (.cst (.int 0)))) [.app (.fz [4]) 3 (.bin .Mod (.bi .int [(.loc 4)]) (.loc 2)), .asg (.fz [4]) 4 (.bin .FloorDiv (.loc 4) (.loc 2))] [.app (.fz [5]) 3 (.bin .Mod (.bi .int [(.fn 4 [(.loc 0), (.loc 5)])]) (.loc 2))]]
theorem dr_go (g : Nat → Addr) (k : Nat) (c s : Int) (x : S2) (hs : 0 < s) (hs2 : s < 100000) : ∀ (js : List Int), In 0 100000 js → ∀ (rest : Int) (acc : List Int) (y : S2), acc.length + js.length < 100000 → In 0 s acc → ∃ xs r y2, xs.length = acc.length + js.length ∧ In 0 s xs ∧
    forGo (put [5]) (fun γ => evSs (wc (Phi1 g) (CA g (k + 1))) drB γ) (js.map .int) [.sh (.int c), x, .sh (.int s), .ow (acc.map .int), .sh (.int rest), y] = some (.nx [.sh (.int c), x, .sh (.int s), .ow (xs.map .int), .sh (.int r), y2]) := by
  intro js
  induction js with
  | nil => exact fun _ rest acc y _ ha => ⟨acc, rest, y, by simp, ha, rfl⟩
  | cons j js ih =>
    intro hj rest acc y hz ha
    have p1 : okPow 10 18 := by unfold okPow; decide
    have d1 : okDiv s := okDiv_s hs (by omega)
    have hj0 := hj j (List.mem_cons_self ..)
    have hjs : In 0 100000 js := fun z hz => hj z (List.mem_cons_of_mem _ hz)
    simp only [List.length_cons] at hz
    have step : ∀ v : Int, In 0 s (acc ++ [v % s]) := fun v z hz => by
      rcases List.mem_append.mp hz with hz | hz
      · exact ha z hz
      · rw [List.mem_singleton.mp hz]
        exact ⟨Int.emod_nonneg _ (by omega), Int.emod_lt_of_pos _ hs⟩
    have hlen : ∀ v : Int, (acc ++ [v]).length + js.length < 100000 := fun v => by simp; omega
    have hb : acc.length < 100000 := by omega
    by_cases h : (1000000000000000000 : Int) ≤ c ∧ 0 < rest
    · obtain ⟨xs, r, y2, e1, e2, e3⟩ := ih hjs (rest / s) (acc ++ [rest % s]) (.sh (.int j)) (hlen _) (step _)
      refine ⟨xs, r, y2, by rw [e1]; simp; omega, e2, ?_⟩
      rw [List.map_cons, ← e3]
      simp [drB, forGo, put, evSs, evS, evP, ev, evL, tst, RR.and, binD, biD, iv, bv, cmpD, Out.then, setS, RR.d?, S2.vwO, frz, p1, d1, h.1, h.2, hs, hb]
    · obtain ⟨m, hm⟩ := e_mixed g k c j hj0.1 hj0.2
      obtain ⟨xs, r, y2, e1, e2, e3⟩ := ih hjs rest (acc ++ [m % s]) (.sh (.int j)) (hlen _) (step _)
      refine ⟨xs, r, y2, by rw [e1]; simp; omega, e2, ?_⟩
      rw [List.map_cons, ← e3]
      by_cases h1 : (1000000000000000000 : Int) ≤ c
      · have h2 : ¬ 0 < rest := fun z => h ⟨h1, z⟩
        simp [drB, forGo, put, evSs, evS, evP, ev, evL, tst, RR.and, binD, biD, iv, bv, cmpD, Out.then, setS, RR.d?, S2.vwO, frz, p1, d1, h1, h2, hs, hb, wc_call, hm]
      · simp [drB, forGo, put, evSs, evS, evP, ev, evL, tst, RR.and, binD, biD, iv, bv, cmpD, Out.then, setS, RR.d?, S2.vwO, frz, p1, d1, h1, hs, hb, wc_call, hm]
theorem ir5_eq : ir5 = [.asg .pl 3 (.lst []), .asg .pl 4 (.loc 0), .for [] [5] .rg [(.loc 1)] drB, .reto 3] := rfl
theorem e_draws (g : Nat → Addr) (k : Nat) (c s : Int) (n : Nat) (hs : 0 < s) (hs2 : s < 100000) (hn : n < 1000) : ∃ xs : List Int, xs.length = n ∧ In 0 s xs ∧ CA g (k + 2) 5 [.int c, .int n, .int s] = some (.new (xs.map .int)) := by
  rw [ca_5]
  obtain ⟨xs, r, y2, e1, e2, e3⟩ := dr_go g k c s (.sh (.int n)) hs hs2 ((List.range n).map fun i : Nat => (i : Int)) (rng0_in n hn) c [] .no (by simp; omega) (fun z hz => by cases hz)
  refine ⟨xs, by rw [e1]; simp, e2, ?_⟩
  rw [← rng0, List.map_nil] at e3
  have ok := okr hn
  refine runF_eq (γ := [.sh (.int c), .sh (.int n), .sh (.int s), .no, .no, .no]) (o := .rn (xs.map .int)) rfl rfl ?_ rfl
  show evSs _ ir5 _ = _
  rw [ir5_eq, st_nx (asg_n (ex_pl (ev_new0 _ _))), st_nx (asg_v (ex_pl (show ev _ _ false (.loc 0) = some (.val (.int c)) by rw [ev_loc]; rfl)))]
  rw [st_nx ((for1 (d := .int n) (items := rngD 0 n) (loc_v rfl) (it_rg0 hn)).trans e3)]
  exact st_rn (reto_ rfl)
theorem e_kinds (g : Nat → Addr) (k : Nat) (ns : List Int) (at_ most : Int) (h0 : 0 ≤ at_) (h1 : 2 ≤ most) (h2 : most ≤ 24) : ∃ ks : List Int, 2 ≤ ks.length ∧ (ks.length : Int) ≤ most ∧ In 0 1000 ks ∧ CA g (k + 3) 6 [.rol (ns.map .int), .int at_, .int most] = some (.new (ks.map .int)) := by
  rw [ca_6]
  obtain ⟨c, hc⟩ := e_cell g (k + 1) ns at_ h0
  obtain ⟨c2, hc2⟩ := e_cell g (k + 1) ns (at_ + 1) (by omega)
  obtain ⟨xs, l1, l2, l3⟩ := e_draws g k c 1000 4 (by decide) (by decide) (by decide)
  have a0 := l2.at (i := 0) (by omega)
  have hsz := mod_nn (xs.getD 0 0) (most - 1) (by omega)
  have i8 := mod_nn (xs.getD 1 0) 8 (by decide)
  have i4 := mod_nn (xs.getD 3 0) 4 (by decide)
  have v8 := V8_in.at (i := ((xs.getD 1 0) % 8).toNat) (by show _ < 8; omega)
  have v4 := V4_in.at (i := ((xs.getD 3 0) % 4).toNat) (by show _ < 4; omega)
  obtain ⟨ps, m1, m2, m3⟩ := e_draws g k c2 (V8.getD ((xs.getD 1 0) % 8).toNat 0) (2 + (xs.getD 0 0) % (most - 1)).toNat (by omega) (by omega) (by omega)
  have hcast : ((2 + (xs.getD 0 0) % (most - 1)).toNat : Int) = 2 + (xs.getD 0 0) % (most - 1) := by omega
  rw [hcast] at m3
  refine ⟨kOf (xs.getD 2 0) (V4.getD ((xs.getD 3 0) % 4).toNat 0) ps, by rw [kOf_len, m1]; omega, by rw [kOf_len, m1]; omega, kOf_in _ _ _, ?_⟩
  refine runF_eq (γ := [.sh (.rol (ns.map .int)), .sh (.int at_), .sh (.int most), .no, .no, .no, .no, .no, .no]) (o := .rn _) rfl rfl ?_ rfl
  refine (st_nx (γ2 := [.sh (.rol (ns.map .int)), .sh (.int at_), .sh (.int most), .ow (xs.map .int), .no, .no, .no, .no, .no]) (asg_n (ex_pl ((fn_3 ((fn_2 (loc_v rfl) (loc_v rfl)).trans hc) (cst_v _) (cst_v _)).trans l3)))).trans ?_
  refine (st_nx (γ2 := [.sh (.rol (ns.map .int)), .sh (.int at_), .sh (.int most), .sh (.lst (xs.map .int)), .sh (.int (2 + (xs.getD 0 0) % (most - 1))), .no, .no, .no, .no]) (asg_v (ex_fz (add_i (cst_v _) (mod_i (sub_li (xs := xs) (loc_v rfl) (cst_v (.int 0)) (by decide) (by rw [l1]; decide)) (sub_i (loc_v rfl) (cst_v _)) (by omega)))))).trans ?_
  refine (st_nx (γ2 := [.sh (.rol (ns.map .int)), .sh (.int at_), .sh (.int most), .sh (.lst (xs.map .int)), .sh (.int (2 + (xs.getD 0 0) % (most - 1))), .sh (.int (V8.getD ((xs.getD 1 0) % 8).toNat 0)), .no, .no, .no]) (asg_v (ex_fz (sub_ln (xs := V8) (lst_c (V8.map .int) (by decide)) (mod_i (sub_li (xs := xs) (loc_v rfl) (cst_v (.int 1)) (by decide) (by rw [l1]; decide)) (cst_v _) (by decide)) i8.1 (by show _ < 8; exact (Int.toNat_lt i8.1).mpr i8.2))))).trans ?_
  refine (st_nx (γ2 := [.sh (.rol (ns.map .int)), .sh (.int at_), .sh (.int most), .sh (.lst (xs.map .int)), .sh (.int (2 + (xs.getD 0 0) % (most - 1))), .sh (.int (V8.getD ((xs.getD 1 0) % 8).toNat 0)), .sh (.int (V4.getD ((xs.getD 3 0) % 4).toNat 0)), .no, .no]) (asg_v (ex_fz (sub_ln (xs := V4) (lst_c (V4.map .int) (by decide)) (mod_i (sub_li (xs := xs) (loc_v rfl) (cst_v (.int 3)) (by decide) (by rw [l1]; decide)) (cst_v _) (by decide)) i4.1 (by show _ < 4; exact (Int.toNat_lt i4.1).mpr i4.2))))).trans ?_
  refine (st_nx (γ2 := [.sh (.rol (ns.map .int)), .sh (.int at_), .sh (.int most), .sh (.lst (xs.map .int)), .sh (.int (2 + (xs.getD 0 0) % (most - 1))), .sh (.int (V8.getD ((xs.getD 1 0) % 8).toNat 0)), .sh (.int (V4.getD ((xs.getD 3 0) % 4).toNat 0)), .ow (ps.map .int), .no]) (asg_n (ex_fz ((fn_3 ((fn_2 (loc_v rfl) (add_i (loc_v rfl) (cst_v (.int 1)))).trans hc2) (loc_v rfl) (loc_v rfl)).trans m3)))).trans ?_
  refine st_rn (ret_n (ex_fz ?_))
  rw [← kOf_D]
  refine lc_map (it_vl1 (loc_v rfl)) (by rw [List.length_map, m1]; omega) fun d hd => ?_
  obtain ⟨p, hp, rfl⟩ := List.mem_map.mp hd
  have hp2 := m2 p hp
  refine ⟨_, rfl, mod_i (int_i (add_i (sub_li (xs := xs) (loc_v rfl) (cst_v (.int 2)) (by decide) (by rw [l1]; decide)) (mul_i (loc_v rfl) (loc_v rfl) (okMul_s (by omega) (by omega))))) (cst_v _) (by decide)⟩
end L01
end

section
set_option Elab.async false
set_option linter.all false
set_option maxRecDepth 100000
set_option maxHeartbeats 4000000
set_option autoImplicit false
namespace L01
open PySem PySem.Spec L2 Pd Ev
theorem k_li : kitB "list" "int" = some false := by decide +kernel
theorem k_ls : kitB "list" "str" = some false := by decide +kernel
theorem k_ll : kitB "list" "list" = some true := by decide +kernel
theorem k_lt : kitB "list" "tuple" = some false := by decide +kernel
theorem e_isint (g : Nat → Addr) (k : Nat) (a : Int) : CA g (k + 1) 7 [.int a] = some (.val (.bl true)) := by
  rw [ca_7]
  refine runF_eq (γ := [.sh (.int a)]) (o := .rt (.bl true)) rfl rfl ?_ rfl
  exact st_rt (ret_v (ex_pl (and_t (inb_v (loc_v rfl) rfl k_ii) (not_v (inb_v (loc_v rfl) rfl k_ib)))))
/-- the two told things are the same -/
def Sm (g : Nat → Addr) (k : Nat) (d : D) : Prop := CA g k 8 [d, d] = some (.val (.bl true))
theorem sm_non (g : Nat → Addr) (k : Nat) : Sm g (k + 1) .non := by
  unfold Sm
  rw [ca_8]
  refine runF_eq (γ := [.sh .non, .sh .non, .no]) (o := .rt (.bl true)) rfl rfl ?_ rfl
  exact st_rt ((ite_t (isc_v (loc_v rfl) rfl)).trans (st_rt (ret_v (ex_pl (isc_v (loc_v rfl) rfl)))))
theorem sm_i (g : Nat → Addr) (k : Nat) (a : Int) : Sm g (k + 2) (.int a) := by
  unfold Sm
  rw [ca_8]
  refine runF_eq (γ := [.sh (.int a), .sh (.int a), .no]) (o := .rt (.bl true)) rfl rfl ?_ rfl
  refine (st_nx (ite_f0 (isc_v (loc_v rfl) rfl))).trans ?_
  refine (st_nx (ite_f0 (isc_v (loc_v rfl) rfl))).trans ?_
  refine (st_nx (ite_f0 (isc_v (loc_v rfl) rfl))).trans ?_
  refine st_rt ((ite_t (inb_v (loc_v rfl) rfl k_ii)).trans (st_rt (ret_v (ex_pl (and_t ((fn_1 (d1 := .int a) (loc_v rfl)).trans (e_isint g k a)) (eq_i (loc_v rfl) (loc_v rfl) (decide_eq_true rfl)))))))
theorem sm_s (g : Nat → Addr) (k : Nat) (a : Str) : Sm g (k + 1) (.str a) := by
  unfold Sm
  rw [ca_8]
  refine runF_eq (γ := [.sh (.str a), .sh (.str a), .no]) (o := .rt (.bl true)) rfl rfl ?_ rfl
  refine (st_nx (ite_f0 (isc_v (loc_v rfl) rfl))).trans ?_
  refine (st_nx (ite_f0 (isc_v (loc_v rfl) rfl))).trans ?_
  refine (st_nx (ite_f0 (isc_v (loc_v rfl) rfl))).trans ?_
  refine (st_nx (ite_f0 (inb_v (loc_v rfl) rfl k_si))).trans ?_
  refine st_rt ((ite_t (inb_v (loc_v rfl) rfl k_ss)).trans (st_rt (ret_v (ex_pl (and_t (inb_v (loc_v rfl) rfl k_ss) ((eq_s (loc_v rfl) (loc_v rfl)).trans ?_))))))
  rw [decide_eq_true rfl]
/-- a list or a tuple of these -/
structure Sq (d : D) (ds : List D) : Prop where
  ex : d = .tup ds ∨ d = .lst ds
theorem Sq.sub {d : D} {ds : List D} (h : Sq d ds) (j : Int) : subD d (.int j) = (atI ds j).map .val := by
  rcases h.ex with rfl | rfl <;> rfl
theorem Sq.len {d : D} {ds : List D} (h : Sq d ds) : biD .len [d] = iv ds.length := by
  rcases h.ex with rfl | rfl <;> rfl
def smB : List IS := [.ite (.not (.fn 8 [(.sub (.loc 0) (.loc 2)), (.sub (.loc 1) (.loc 2))])) [.ret .pl (.cst (.bl false))] []]
theorem sm_go (g : Nat → Addr) (k : Nat) (d0 : D) (ds : List D) (hd : Sq d0 ds) (h : ∀ d ∈ ds, Sm g k d) : ∀ (js : List Int), (∀ j ∈ js, 0 ≤ j ∧ j.toNat < ds.length) → ∀ x2 : S2, ∃ y2, forGo (put [2]) (fun γ => evSs (wc (Phi1 g) (CA g k)) smB γ) (js.map .int) [.sh d0, .sh d0, x2] = some (.nx [.sh d0, .sh d0, y2]) := by
  intro js
  induction js with
  | nil => exact fun _ x2 => ⟨x2, by rw [List.map_nil, forGo_nil]⟩
  | cons j js ih =>
    intro hj x2
    obtain ⟨h0, h1⟩ := hj j (List.mem_cons_self ..)
    obtain ⟨y2, e⟩ := ih (fun q hq => hj q (List.mem_cons_of_mem _ hq)) (.sh (.int j))
    refine ⟨y2, ?_⟩
    rw [List.map_cons]
    have ha : atI ds j = some ds[j.toNat] := by
      unfold atI ixN
      have : j < (ds.length : Int) := by omega
      simp [h0, this]
    have hs : subD d0 (.int j) = some (.val ds[j.toNat]) := by
      rw [hd.sub, ha]; rfl
    refine (forGo_nx _ _ _ _ _ _ _ rfl ?_).trans e
    have z : ∀ γ : List S2, γ[0]? = some (.sh d0) → γ[1]? = some (.sh d0) → γ[2]? = some (.sh (.int j)) → ev (wc (Phi1 g) (CA g k)) γ false (.fn 8 [(.sub (.loc 0) (.loc 2)), (.sub (.loc 1) (.loc 2))]) = some (.val (.bl true)) := fun γ a b c => (fn_2 (sub_v (loc_v a) (loc_v c) hs) (sub_v (loc_v b) (loc_v c) hs)).trans (h _ (List.getElem_mem h1))
    exact (st_nx (ite_f0 (not_v (q := true) (fnT (z _ rfl rfl rfl))))).trans (evSs_nil _ _)
theorem sm_q (g : Nat → Addr) (k : Nat) (d0 : D) (ds : List D) (hd : Sq d0 ds) (hz : ds.length < 1000) (h : ∀ d ∈ ds, Sm g k d) : Sm g (k + 1) d0 := by
  unfold Sm
  rw [ca_8]
  obtain ⟨y2, e⟩ := sm_go g k d0 ds hd h ((List.range ds.length).map fun i : Nat => (i : Int)) (fun j hj => by
    obtain ⟨i, hi, rfl⟩ := List.mem_map.mp hj
    have := List.mem_range.mp hi
    exact ⟨by omega, by omega⟩) .no
  rw [← rng0] at e
  obtain ⟨ty, b1, b2, t0, t1, t2, t3, t4, t5⟩ : ∃ ty b1 b2, d0.tyN = some ty ∧ kitB ty "int" = some false ∧ kitB ty "str" = some false ∧ kitB ty "list" = some b1 ∧ kitB ty "tuple" = some b2 ∧ (b1 = true ∨ (b1 = false ∧ b2 = true)) := by
    rcases hd.ex with rfl | rfl
    · exact ⟨_, _, _, rfl, k_ti, k_ts, k_tl, k_tt, .inr ⟨rfl, rfl⟩⟩
    · exact ⟨_, _, _, rfl, k_li, k_ls, k_ll, k_lt, .inl rfl⟩
  have q1 : iscD .non d0 = some false := by rcases hd.ex with rfl | rfl <;> rfl
  have q2 : ∀ b, iscD (.bl b) d0 = some false := fun b => by rcases hd.ex with rfl | rfl <;> rfl
  have hlen : ∀ (γ : List S2) (e : IE), ev (wc (Phi1 g) (CA g k)) γ false e = some (.val d0) → ev (wc (Phi1 g) (CA g k)) γ false (.bi .len [e]) = some (.val (.int ds.length)) := fun γ e he => bi1_v he hd.len
  refine runF_eq (γ := [.sh d0, .sh d0, .no]) (o := .rt (.bl true)) rfl rfl ?_ rfl
  refine (st_nx (ite_f0 (isc_v (loc_v rfl) q1))).trans ?_
  refine (st_nx (ite_f0 (isc_v (loc_v rfl) (q2 true)))).trans ?_
  refine (st_nx (ite_f0 (isc_v (loc_v rfl) (q2 false)))).trans ?_
  refine (st_nx (ite_f0 (inb_v (loc_v rfl) t0 t1))).trans ?_
  refine (st_nx (ite_f0 (inb_v (loc_v rfl) t0 t2))).trans ?_
  refine (st_nx (ite_f0 (or_f (ne_b (inb_v (loc_v rfl) t0 t3) (inb_v (loc_v rfl) t0 t3) (r := false) (by rw [decide_eq_true rfl]; rfl)) (ne_b (inb_v (loc_v rfl) t0 t4) (inb_v (loc_v rfl) t0 t4) (r := false) (by rw [decide_eq_true rfl]; rfl))))).trans ?_
  refine (st_nx (γ2 := [.sh d0, .sh d0, .no]) ?_).trans ?_
  · rcases t5 with rfl | ⟨rfl, rfl⟩
    · exact ite_f0 (and_f (not_v (q := true) (inb_v (loc_v rfl) t0 t3)))
    · exact ite_f0 (and_t (not_v (q := false) (inb_v (loc_v rfl) t0 t3)) (not_v (q := true) (inb_v (loc_v rfl) t0 t4)))
  refine (st_nx (ite_f0 (ne_i (hlen _ _ (loc_v rfl)) (hlen _ _ (loc_v rfl)) (by rw [decide_eq_true rfl]; rfl)))).trans ?_
  refine (st_nx ((for1 (d := .int (ds.length : Int)) (body := smB) (items := rngD 0 ds.length) (hlen _ _ (loc_v rfl)) (it_rg0 hz)).trans e)).trans ?_
  exact st_rt (ret_v (ex_pl (cst_v _)))
/-- things of at most this depth -/
def Gd : Nat → D → Prop
  | 0, d => (∃ i, d = .int i) ∨ (∃ s, d = .str s) ∨ d = .non
  | n + 1, d => Gd n d ∨ ∃ ds, Sq d ds ∧ ds.length < 1000 ∧ ∀ x ∈ ds, Gd n x
theorem sm_of (g : Nat → Addr) : ∀ (n k : Nat) (d : D), Gd n d → Sm g (k + 2 + n) d
  | 0, k, d, h => by
    rcases h with ⟨i, rfl⟩ | ⟨s, rfl⟩ | rfl
    · exact sm_i g k i
    · exact sm_s g (k + 1) s
    · exact sm_non g (k + 1)
  | n + 1, k, d, h => by
    rcases h with h | ⟨ds, q, hz, hh⟩
    · have z := sm_of g n (k + 1) d h
      rw [show k + 2 + (n + 1) = k + 1 + 2 + n by omega]
      exact z
    · exact sm_q g (k + 2 + n) d ds q hz fun x hx => sm_of g n k x (hh x hx)
theorem gd_i (n : Nat) (i : Int) : Gd n (.int i) := by
  induction n with
  | zero => exact .inl ⟨i, rfl⟩
  | succ n ih => exact .inl ih
theorem gd_s (n : Nat) (i : Str) : Gd n (.str i) := by
  induction n with
  | zero => exact .inr (.inl ⟨i, rfl⟩)
  | succ n ih => exact .inl ih
theorem gd_non (n : Nat) : Gd n .non := by
  induction n with
  | zero => exact .inr (.inr rfl)
  | succ n ih => exact .inl ih
theorem gd_t {n : Nat} {ds : List D} (hz : ds.length < 1000) (h : ∀ x ∈ ds, Gd n x) : Gd (n + 1) (.tup ds) := .inr ⟨ds, ⟨.inl rfl⟩, hz, h⟩
theorem gd_l {n : Nat} {ds : List D} (hz : ds.length < 1000) (h : ∀ x ∈ ds, Gd n x) : Gd (n + 1) (.lst ds) := .inr ⟨ds, ⟨.inr rfl⟩, hz, h⟩
theorem gd_li {n : Nat} {ks : List Int} (hz : ks.length < 1000) : Gd (n + 1) (.lst (ks.map .int)) := gd_l (by rw [List.length_map]; exact hz) fun x hx => by
  obtain ⟨i, _, rfl⟩ := List.mem_map.mp hx
  exact gd_i n i
theorem gd_ti {n : Nat} {ks : List Int} (hz : ks.length < 1000) : Gd (n + 1) (.tup (ks.map .int)) := gd_t (by rw [List.length_map]; exact hz) fun x hx => by
  obtain ⟨i, _, rfl⟩ := List.mem_map.mp hx
  exact gd_i n i
/-- _law_same of equal things -/
theorem same_d {g : Nat → Addr} {k n m : Nat} {γ : List S2} {e1 e2 : IE} {d : D} (hm : m = k + 2 + n) (h1 : RR.d? (ev (wc (Phi1 g) (CA g m)) γ false e1) = some d) (h2 : RR.d? (ev (wc (Phi1 g) (CA g m)) γ false e2) = some d) (h : Gd n d) : ev (wc (Phi1 g) (CA g m)) γ false (.fn 8 [e1, e2]) = some (.val (.bl true)) := by
  subst hm
  rw [fn_2d h1 h2, wc_call]
  exact sm_of g n k d h
end L01
end

section
set_option Elab.async false
set_option linter.all false
set_option maxRecDepth 100000
set_option maxHeartbeats 4000000
set_option autoImplicit false
namespace L01
open PySem PySem.Spec L2 Pd Ev
def FX : List (List Int) := [[7, 7], [999, 0], [0, 999], [1, 2, 1], [1, 2, 3], [1, 2, 1, 2], [1, 2, 1, 3, 1], [1, 2, 1, 2, 1], [0, 1, 2, 0, 0, 2, 1, 0], [1, 1, 2, 1, 1, 0, 0, 1, 0, 1, 0, 1, 0, 0], List.replicate 24 500, (List.range 24).map fun i : Nat => 976 + (i : Int), [3, 4, 3, 4, 3, 4, 3, 4, 3, 4, 3, 4, 3, 4, 3, 4, 3, 4, 3, 4, 3, 4, 3, 4], [5, 5, 5, 6], [6, 5, 5, 5], [8, 8, 8, 8, 8, 8, 8, 8, 8, 8, 8, 9, 9, 8, 8, 8, 8, 8, 8, 8, 8, 8, 8, 8]]
theorem FX_ok : ∀ p ∈ FX, 2 ≤ p.length ∧ p.length ≤ 24 ∧ In 0 1000 p := by unfold FX Ev.In; decide
theorem fx_run (Φ : Phi) (a : D) : evSs Φ (ir9.take 3) [.sh a, .no] = some (.nx [.sh a, .ow (ll FX)]) := by kernel_rfl
theorem evSs_app (Φ : Phi) : ∀ (a b : List IS) (γ : List S2), evSs Φ (a ++ b) γ = Out.then (evSs Φ a γ) (evSs Φ b)
  | [], b, γ => by rw [evSs_nil, then_nx] <;> rfl
  | s :: a, b, γ => by
    rw [List.cons_append, evSs_cons, evSs_cons]
    cases evS Φ s γ with
    | none => rfl
    | some o => cases o with
      | nx γ2 => rw [then_nx, then_nx, evSs_app Φ a b γ2]
      | _ => rfl
theorem e_fixed (g : Nat → Addr) (k : Nat) (a : Int) : ∃ ks : List Int, 2 ≤ ks.length ∧ ks.length ≤ 24 ∧ In 0 1000 ks ∧ CA g (k + 1) 9 [.int a] = some (.val (.lst (ks.map .int))) := by
  rw [ca_9]
  have im := mod_nn a 16 (by decide)
  have hi : (a % 16).toNat < FX.length := by show _ < 16; exact (Int.toNat_lt im.1).mpr im.2
  have hm : FX.getD (a % 16).toNat [] ∈ FX := by
    rw [List.getD_eq_getElem?_getD, List.getElem?_eq_getElem hi]
    exact List.getElem_mem hi
  obtain ⟨p1, p2, p3⟩ := FX_ok _ hm
  refine ⟨FX.getD (a % 16).toNat [], p1, p2, p3, ?_⟩
  refine runF_eq (γ := [.sh (.int a), .no]) (o := .rt _) rfl rfl ?_ rfl
  show evSs _ (ir9.take 3 ++ [.ret (.fz [1]) (.sub (.loc 1) (.bin .Mod (.bi .int [(.loc 0)]) (.cst (.int 16))))]) _ = _
  rw [evSs_app, fx_run, then_nx]
  refine st_rt (ret_v (ex_fz (sub_v (d1 := .lst (ll FX)) (d2 := .int (a % 16)) (loc_v rfl) (mod_i (int_i (loc_v rfl)) (cst_v _) (by decide)) ?_)))
  show (atI (ll FX) (a % 16)).map RR.val = _
  have z : atI (ll FX) (a % 16) = some (.lst ((FX.getD (a % 16).toNat []).map .int)) := by
    have e : ∃ n : Nat, a % 16 = n := ⟨(a % 16).toNat, by omega⟩
    obtain ⟨n, e⟩ := e
    rw [e] at hi ⊢
    have hi : n < 16 := hi
    rw [atI_n _ n (by unfold ll; rw [List.length_map]; exact hi), List.getD_eq_getElem?_getD, Int.toNat_natCast, List.getElem?_eq_getElem (show n < FX.length from hi)]
    unfold ll
    rw [List.getElem_map] <;> rfl
  rw [z]
  rfl
end L01
end

section
set_option Elab.async false
set_option linter.all false
set_option maxRecDepth 100000
set_option maxHeartbeats 4000000
set_option autoImplicit false
namespace L01
open PySem PySem.Spec L2 Pd Ev
/-- a good row -/
structure Row (ks : List Int) : Prop where
  lo : 2 ≤ ks.length
  hi : ks.length ≤ 24
  inn : Ev.In 0 1000 ks
theorem e_first (g : Nat → Addr) (k : Nat) (ns : List Int) : ∃ ks r, Row ks ∧ CA g (k + 4) 10 [.rol (ns.map .int)] = some r ∧ (r = .val (.lst (ks.map .int)) ∨ r = .new (ks.map .int)) := by
  rw [ca_10]
  obtain ⟨c, hc⟩ := e_cell g (k + 2) ns 0 (by decide)
  obtain ⟨xs, l1, l2, l3⟩ := e_draws g (k + 1) c 1000 3 (by decide) (by decide) (by decide)
  have s1 : evS (wc (Phi1 g) (CA g (k + 3))) (.asg .pl 1 (.fn 5 [(.fn 3 [(.loc 0), (.cst (.int 0))]), (.cst (.int 3)), (.cst (.int 1000))])) [.sh (.rol (ns.map .int)), .no] = some (.nx [.sh (.rol (ns.map .int)), .ow (xs.map .int)]) :=
    asg_n (ex_pl ((fn_3 ((fn_2 (loc_v rfl) (cst_v _)).trans hc) (cst_v _) (cst_v _)).trans l3))
  have m0 : ∀ γ : List S2, γ[1]? = some (.sh (.lst (xs.map .int))) → ∀ i : Nat, i < 3 → ev (wc (Phi1 g) (CA g (k + 3))) γ false (.sub (.loc 1) (.cst (.int i))) = some (.val (.int (xs.getD i 0))) := fun γ h i hi => by
    have z := sub_li (Φ := wc (Phi1 g) (CA g (k + 3))) (xs := xs) (loc_v h) (cst_v (.int (i : Int))) (Int.natCast_nonneg i) (by rw [l1, Int.toNat_natCast]; exact hi)
    rw [Int.toNat_natCast] at z
    exact z
  have h6 : ∀ γ : List S2, γ[1]? = some (.sh (.lst (xs.map .int))) → ev (wc (Phi1 g) (CA g (k + 3))) γ false (.bin .Mod (.bi .int [(.sub (.loc 1) (.cst (.int 0)))]) (.cst (.int 6))) = some (.val (.int (xs.getD 0 0 % 6))) := fun γ h => mod_i (int_i (m0 γ h 0 (by decide))) (cst_v _) (by decide)
  have a0 := l2.at (i := 0) (by omega)
  have a1 := l2.at (i := 1) (by omega)
  have a2 := l2.at (i := 2) (by omega)
  generalize xs.getD 0 0 = x0 at *
  by_cases q1 : x0 % 6 < 2
  · obtain ⟨ks, p1, p2, p3, p4⟩ := e_fixed g (k + 2) (xs.getD 1 0)
    refine ⟨ks, .val (.lst (ks.map .int)), ⟨p1, p2, p3⟩, ?_, .inl rfl⟩
    refine runF_eq (γ := [.sh (.rol (ns.map .int)), .no]) (o := .rt _) rfl rfl ?_ rfl
    refine (st_nx s1).trans ?_
    refine st_rt ((ite_t (lt_i (h6 _ rfl) (cst_v _) (decide_eq_true q1))).trans ?_)
    refine st_rt (ret_v (ex_fz ?_))
    exact (fn_1 (m0 [.sh (.rol (ns.map .int)), .sh (.lst (xs.map .int))] rfl 1 (by decide))).trans p4
  · by_cases q2 : x0 % 6 = 2
    · obtain ⟨c2, hc2⟩ := e_cell g (k + 2) ns 2 (by decide)
      have i23 := mod_nn (xs.getD 2 0) 23 (by decide)
      obtain ⟨ks, p1, p2, p3⟩ := e_draws g (k + 1) c2 1000 (2 + xs.getD 2 0 % 23).toNat (by decide) (by decide) (by omega)
      rw [show (((2 + xs.getD 2 0 % 23).toNat : Nat) : Int) = 2 + xs.getD 2 0 % 23 by omega] at p3
      refine ⟨ks, .new (ks.map .int), ⟨by omega, by omega, p2⟩, ?_, .inr rfl⟩
      refine runF_eq (γ := [.sh (.rol (ns.map .int)), .no]) (o := .rn _) rfl rfl ?_ rfl
      refine (st_nx s1).trans ?_
      refine (st_nx (ite_f0 (lt_i (h6 _ rfl) (cst_v _) (decide_eq_false q1)))).trans ?_
      refine st_rn ((ite_t (eq_i (h6 _ rfl) (cst_v _) (decide_eq_true q2))).trans ?_)
      exact st_rn (ret_n (ex_fz ((fn_3 ((fn_2 (loc_v rfl) (cst_v _)).trans hc2) (add_i (cst_v (.int 2)) (mod_i (int_i (m0 [.sh (.rol (ns.map .int)), .sh (.lst (xs.map .int))] rfl 2 (by decide))) (cst_v _) (by decide))) (cst_v _)).trans p3)))
    · have i2 := mod_nn (xs.getD 1 0) 2 (by decide)
      obtain ⟨mo, hm1, hm2, hm3⟩ : ∃ mo : Int, 2 ≤ mo ∧ mo ≤ 24 ∧ atI ([9, 24] : List Int) (xs.getD 1 0 % 2) = some mo := by
        have : xs.getD 1 0 % 2 = 0 ∨ xs.getD 1 0 % 2 = 1 := by omega
        rcases this with e | e <;> rw [e]
        · exact ⟨9, by decide, by decide, rfl⟩
        · exact ⟨24, by decide, by decide, rfl⟩
      obtain ⟨ks, p1, p2, p3, p4⟩ := e_kinds g k ns 1 mo (by decide) hm1 hm2
      refine ⟨ks, .new (ks.map .int), ⟨p1, by omega, p3⟩, ?_, .inr rfl⟩
      refine runF_eq (γ := [.sh (.rol (ns.map .int)), .no]) (o := .rn _) rfl rfl ?_ rfl
      refine (st_nx s1).trans ?_
      refine (st_nx (ite_f0 (lt_i (h6 _ rfl) (cst_v _) (decide_eq_false q1)))).trans ?_
      refine (st_nx (ite_f0 (eq_i (h6 _ rfl) (cst_v _) (decide_eq_false q2)))).trans ?_
      refine st_rn (ret_n (ex_fz ((fn_3 (loc_v rfl) (cst_v _) (sub_n (ds := [.int 9, .int 24]) (d2 := .int (xs.getD 1 0 % 2)) (x := .val (.int mo)) (lst_c [.int 9, .int 24] (by decide)) (mod_i (int_i (m0 [.sh (.rol (ns.map .int)), .sh (.lst (xs.map .int))] rfl 1 (by decide))) (cst_v _) (by decide)) ?_)).trans p4)))
      show (atI _ _).map RR.val = _
      have z : atI ([.int 9, .int 24] : List D) (xs.getD 1 0 % 2) = some (.int mo) := by
        have : xs.getD 1 0 % 2 = 0 ∨ xs.getD 1 0 % 2 = 1 := by omega
        rcases this with e | e <;> rw [e] at hm3 ⊢ <;> cases hm3 <;> rfl
      rw [z] <;> rfl
end L01
end

section
set_option Elab.async false
set_option linter.all false
set_option maxRecDepth 100000
set_option maxHeartbeats 4000000
set_option autoImplicit false
namespace L01
open PySem PySem.Spec L2 Pd Ev
/-- an entry of drawn numbers -/
theorem at_c {Φ : Phi} {γ : List S2} {xs : List Int} {j i : Nat} (h : γ[j]? = some (.sh (.lst (xs.map .int)))) (hi : i < xs.length) : ev Φ γ false (.sub (.loc j) (.cst (.int (i : Int)))) = some (.val (.int (xs.getD i 0))) := by
  have z := sub_li (Φ := Φ) (xs := xs) (loc_v h) (cst_v (.int (i : Int))) (Int.natCast_nonneg i) (by rw [Int.toNat_natCast]; exact hi)
  rw [Int.toNat_natCast] at z
  exact z
theorem at_cm {Φ : Phi} {γ : List S2} {xs : List Int} {j i : Nat} {m : Int} (h : γ[j]? = some (.sh (.lst (xs.map .int)))) (hi : i < xs.length) (hm : 0 < m) : ev Φ γ false (.bin .Mod (.bi .int [.sub (.loc j) (.cst (.int (i : Int)))]) (.cst (.int m))) = some (.val (.int (xs.getD i 0 % m))) := mod_i (int_i (at_c h hi)) (cst_v _) hm
def spB : List IS := [.ite (.cmp .Gt (.loc 3) (.cst (.int 0))) [.seti (.fz [6, 7, 8]) 4 (.bin .Mod (.bi .int [(.sub (.loc 2) (.bin .Add (.cst (.int 4)) (.loc 8)))]) (.loc 3)) (.sub (.loc 6) (.sub (.loc 7) (.loc 8)))] []]
theorem sp_go (Φ : Phi) (a0 a1 far : S2) (sh bs ss : List Int) (z : Int) (hsh : sh.length = 8) (hb : bs.length = 6) (hs : ss.length = 3) (hs2 : Ev.In 0 6 ss) : ∀ (js : List Int), Ev.In 0 3 js → ∀ (rs : List Int), (rs.length : Int) = z → ∀ x6 x7 x8 : S2, (x6 = .ow (bs.map .int) ∨ x6 = .sh (.lst (bs.map .int))) → (x7 = .ow (ss.map .int) ∨ x7 = .sh (.lst (ss.map .int))) →
    ∃ (rs' : List Int) (y6 y7 y8 : S2), rs'.length = rs.length ∧ forGo (put [8]) (fun γ => evSs Φ spB γ) (js.map .int) [a0, a1, .sh (.lst (sh.map .int)), .sh (.int z), .ow (rs.map .int), far, x6, x7, x8] = some (.nx [a0, a1, .sh (.lst (sh.map .int)), .sh (.int z), .ow (rs'.map .int), far, y6, y7, y8]) := by
  intro js
  induction js with
  | nil => exact fun _ rs _ x6 x7 x8 _ _ => ⟨rs, x6, x7, x8, rfl, by rw [List.map_nil, forGo_nil]⟩
  | cons j js ih =>
    intro hj rs hz x6 x7 x8 h6 h7
    have hj0 := hj j (List.mem_cons_self ..)
    have hjs : Ev.In 0 3 js := fun q hq => hj q (List.mem_cons_of_mem _ hq)
    rw [List.map_cons]
    by_cases hp : 0 < z
    · have hss := hs2.at (i := j.toNat) (by omega)
      have hm := mod_nn (sh.getD (4 + j).toNat 0) z hp
      obtain ⟨rs', y6, y7, y8, l, e⟩ := ih hjs (rs.set (sh.getD (4 + j).toNat 0 % z).toNat (bs.getD (ss.getD j.toNat 0).toNat 0)) (by rw [List.length_set]; exact hz) (.sh (.lst (bs.map .int))) (.sh (.lst (ss.map .int))) (.sh (.int j)) (.inr rfl) (.inr rfl)
      refine ⟨rs', y6, y7, y8, by rw [l, List.length_set], ?_⟩
      have hf : frz [a0, a1, .sh (.lst (sh.map .int)), .sh (.int z), .ow (rs.map .int), far, x6, x7, .sh (.int j)] [6, 7, 8] = [a0, a1, .sh (.lst (sh.map .int)), .sh (.int z), .ow (rs.map .int), far, .sh (.lst (bs.map .int)), .sh (.lst (ss.map .int)), .sh (.int j)] := by
        rcases h6 with rfl | rfl <;> rcases h7 with rfl | rfl <;> rfl
      refine (forGo_nx _ _ _ _ _ [a0, a1, .sh (.lst (sh.map .int)), .sh (.int z), .ow (rs.map .int), far, x6, x7, .sh (.int j)] _ rfl ?_).trans e
      refine (st_nx ((ite_t (gt_i (loc_v rfl) (cst_v _) (decide_eq_true hp))).trans ((st_nx (seti_ (j := sh.getD (4 + j).toNat 0 % z) (ds := rs.map .int) (n := (sh.getD (4 + j).toNat 0 % z).toNat) (d := .int (bs.getD (ss.getD j.toNat 0).toNat 0)) (ex_fz ?_) ?_ ?_ ?_)).trans (evSs_nil _ _)))).trans ?_
      · rw [hf]
        exact sub_li (xs := bs) (loc_v rfl) (sub_li (xs := ss) (loc_v rfl) (loc_v rfl) hj0.1 (by omega)) hss.1 (by omega)
      · rw [hf]
        exact mod_i (int_i (sub_li (xs := sh) (loc_v rfl) (add_i (cst_v (.int 4)) (loc_v (d := .int j) rfl)) (by omega) (by omega))) (loc_v rfl) hp
      · rw [hf]; rfl
      · unfold ixN
        rw [List.length_map, if_pos hm.1, if_pos (by omega)]
      · rw [hf, evSs_nil, List.map_set]
        rfl
    · obtain ⟨rs', y6, y7, y8, l, e⟩ := ih hjs rs hz x6 x7 (.sh (.int j)) h6 h7
      refine ⟨rs', y6, y7, y8, l, ?_⟩
      refine (forGo_nx _ _ _ _ _ _ _ rfl ?_).trans e
      refine (st_nx (γ2 := [a0, a1, .sh (.lst (sh.map .int)), .sh (.int z), .ow (rs.map .int), far, x6, x7, .sh (.int j)]) ?_).trans (evSs_nil _ _)
      exact ite_f0 (gt_i (loc_v rfl) (cst_v _) (decide_eq_false hp))
end L01
end

section
set_option Elab.async false
set_option linter.all false
set_option maxRecDepth 100000
set_option maxHeartbeats 4000000
set_option autoImplicit false
namespace L01
open PySem PySem.Spec L2 Pd Ev
theorem p40 {Φ : Phi} {γ : List S2} : ev Φ γ false (.bin .Pow (.cst (.int 10)) (.cst (.int 40))) = some (.val (.int (10 ^ 40))) := bin_v (cst_v _) (cst_v _) (by
  have h : okPow 10 40 := by unfold okPow; decide
  show (if okPow 10 40 then some (RR.val (.int ((10 : Int) ^ 40))) else none) = _
  exact if_pos h)
/-- x // 6 % 6 and the like -/
theorem at_cd {Φ : Phi} {γ : List S2} {xs : List Int} {j i : Nat} {a m : Int} (h : γ[j]? = some (.sh (.lst (xs.map .int)))) (hi : i < xs.length) (ha : 0 < a) (ha2 : a.natAbs < 1000000000000) (hm : 0 < m) : ev Φ γ false (.bin .Mod (.bin .FloorDiv (.bi .int [.sub (.loc j) (.cst (.int (i : Int)))]) (.cst (.int a))) (.cst (.int m))) = some (.val (.int (xs.getD i 0 / a % m))) := mod_i (div_i (int_i (at_c h hi)) (cst_v _) (okDiv_s ha ha2)) (cst_v _) hm
/-- 25 to 300 in one script of eight, else 0 to 27 -/
def szF (a b c : Int) : Int := if b % 8 = 0 then 25 + c % 276 else a % 28
theorem szF_in (a b c : Int) : 0 ≤ szF a b c ∧ szF a b c ≤ 300 := by
  unfold szF
  split <;> omega
theorem e_spoilt (g : Nat → Addr) (k : Nat) (ns : List Int) (at_ : Int) (h0 : 0 ≤ at_) : ∃ rs : List Int, rs.length ≤ 300 ∧ CA g (k + 3) 11 [.rol (ns.map .int), .int at_] = some (.val (.lst (rs.map .int))) := by
  rw [ca_11]
  obtain ⟨c, hc⟩ := e_cell g (k + 1) ns at_ h0
  obtain ⟨c2, hc2⟩ := e_cell g (k + 1) ns (at_ + 1) (by omega)
  obtain ⟨c3, hc3⟩ := e_cell g (k + 1) ns (at_ + 2) (by omega)
  obtain ⟨xs, l1, l2, l3⟩ := e_draws g k c 1000 8 (by decide) (by decide) (by decide)
  have hsz := szF_in (xs.getD 0 0) (xs.getD 1 0) (xs.getD 2 0)
  generalize hz : szF (xs.getD 0 0) (xs.getD 1 0) (xs.getD 2 0) = z at hsz
  obtain ⟨rs, r1, r2, r3⟩ := e_draws g k (c2 + 1) 1000 z.toNat (by decide) (by decide) (by omega)
  rw [show ((z.toNat : Nat) : Int) = z by omega] at r3
  have i3 := mod_nn (xs.getD 3 0) 4 (by decide)
  generalize hfar : (1000 + c3 % 10 ^ 40 : Int) = far
  obtain ⟨rs', y6, y7, y8, e1, e2⟩ := sp_go (wc (Phi1 g) (CA g (k + 2))) (.sh (.rol (ns.map .int))) (.sh (.int at_)) (.sh (.int far)) xs [-1, 1000, far, 999 - far, 0, 999] [xs.getD 7 0 % 6, xs.getD 7 0 / 6 % 6, xs.getD 7 0 / 36 % 6] z l1 rfl rfl (by
    intro q hq
    simp only [List.mem_cons, List.not_mem_nil, or_false] at hq
    rcases hq with rfl | rfl | rfl <;> omega) ((List.range (xs.getD 3 0 % 4).toNat).map fun i : Nat => (i : Int)) (fun q hq => by
      obtain ⟨i, hi, rfl⟩ := List.mem_map.mp hq
      have := List.mem_range.mp hi
      omega) rs (by omega) (.ow ([-1, 1000, far, 999 - far, 0, 999].map .int)) (.ow ([xs.getD 7 0 % 6, xs.getD 7 0 / 6 % 6, xs.getD 7 0 / 36 % 6].map .int)) .no (.inl rfl) (.inl rfl)
  rw [← rng0] at e2
  refine ⟨rs', by omega, ?_⟩
  refine runF_eq (γ := [.sh (.rol (ns.map .int)), .sh (.int at_), .no, .no, .no, .no, .no, .no, .no]) (o := .rt _) rfl rfl ?_ rfl
  refine (st_nx (γ2 := [.sh (.rol (ns.map .int)), .sh (.int at_), .ow (xs.map .int), .no, .no, .no, .no, .no, .no]) (asg_n (ex_pl ((fn_3 ((fn_2 (loc_v rfl) (loc_v rfl)).trans hc) (cst_v _) (cst_v _)).trans l3)))).trans ?_
  refine (st_nx (γ2 := [.sh (.rol (ns.map .int)), .sh (.int at_), .sh (.lst (xs.map .int)), .sh (.int (xs.getD 0 0 % 28)), .no, .no, .no, .no, .no]) (asg_v (ex_fz (at_cm (i := 0) rfl (by omega) (by decide))))).trans ?_
  have s3 : evS (wc (Phi1 g) (CA g (k + 2))) (.ite (.cmp .Eq (.bin .Mod (.bi .int [(.sub (.loc 2) (.cst (.int 1)))]) (.cst (.int 8))) (.cst (.int 0))) [.asg (.fz [2]) 3 (.bin .Add (.cst (.int 25)) (.bin .Mod (.bi .int [(.sub (.loc 2) (.cst (.int 2)))]) (.cst (.int 276))))] []) [.sh (.rol (ns.map .int)), .sh (.int at_), .sh (.lst (xs.map .int)), .sh (.int (xs.getD 0 0 % 28)), .no, .no, .no, .no, .no] = some (.nx [.sh (.rol (ns.map .int)), .sh (.int at_), .sh (.lst (xs.map .int)), .sh (.int z), .no, .no, .no, .no, .no]) := by
    rw [← hz]
    unfold szF
    by_cases q : xs.getD 1 0 % 8 = 0
    · rw [if_pos q]
      exact (ite_t (eq_i (at_cm (i := 1) rfl (by omega) (by decide)) (cst_v _) (decide_eq_true q))).trans ((st_nx (asg_v (ex_fz (add_i (cst_v (.int 25)) (at_cm (i := 2) rfl (by omega) (by decide)))))).trans (evSs_nil _ _))
    · rw [if_neg q]
      exact ite_f0 (eq_i (at_cm (i := 1) rfl (by omega) (by decide)) (cst_v _) (decide_eq_false q))
  refine (st_nx s3).trans ?_
  refine (st_nx (γ2 := [.sh (.rol (ns.map .int)), .sh (.int at_), .sh (.lst (xs.map .int)), .sh (.int z), .ow (rs.map .int), .no, .no, .no, .no]) (asg_n (ex_fz ((fn_3 (add_i ((fn_2 (loc_v rfl) (add_i (loc_v (d := .int at_) rfl) (cst_v (.int 1)))).trans hc2) (cst_v (.int 1))) (loc_v rfl) (cst_v _)).trans r3)))).trans ?_
  refine (st_nx (γ2 := [.sh (.rol (ns.map .int)), .sh (.int at_), .sh (.lst (xs.map .int)), .sh (.int z), .ow (rs.map .int), .sh (.int far), .no, .no, .no]) (asg_v (ex_pl (by rw [← hfar]; exact add_i (cst_v (.int 1000)) (mod_i (int_i ((fn_2 (loc_v rfl) (add_i (loc_v (d := .int at_) rfl) (cst_v (.int 2)))).trans hc3)) p40 (by decide)))))).trans ?_
  refine (st_nx (γ2 := [.sh (.rol (ns.map .int)), .sh (.int at_), .sh (.lst (xs.map .int)), .sh (.int z), .ow (rs.map .int), .sh (.int far), .ow ([-1, 1000, far, 999 - far, 0, 999].map .int), .no, .no]) (asg_n (ex_fz (lst_a (ds := [-1, 1000, far, 999 - far, 0, 999].map .int) (all_c (dv (neg_i (cst_v (.int 1)))) <| all_c (dv (cst_v _)) <| all_c (dv (loc_v rfl)) <| all_c (dv (sub_i (cst_v (.int 999)) (loc_v rfl))) <| all_c (dv (cst_v _)) <| all_c (dv (cst_v _)) all_n) (Nat.le_of_ble_eq_true rfl))))).trans ?_
  refine (st_nx (γ2 := [.sh (.rol (ns.map .int)), .sh (.int at_), .sh (.lst (xs.map .int)), .sh (.int z), .ow (rs.map .int), .sh (.int far), .ow ([-1, 1000, far, 999 - far, 0, 999].map .int), .ow ([xs.getD 7 0 % 6, xs.getD 7 0 / 6 % 6, xs.getD 7 0 / 36 % 6].map .int), .no]) (asg_n (ex_fz (lst_a (ds := [xs.getD 7 0 % 6, xs.getD 7 0 / 6 % 6, xs.getD 7 0 / 36 % 6].map .int) (all_c (dv (at_cm (i := 7) rfl (by omega) (by decide))) <| all_c (dv (at_cd (i := 7) rfl (by omega) (by decide) (by decide) (by decide))) <| all_c (dv (at_cd (i := 7) rfl (by omega) (by decide) (by decide) (by decide))) all_n) (Nat.le_of_ble_eq_true rfl))))).trans ?_
  refine (st_nx ((for1 (d := .int (xs.getD 3 0 % 4)) (body := spB) (items := rngD 0 (xs.getD 3 0 % 4).toNat) (at_cm (i := 3) rfl (by omega) (by decide)) ?_).trans e2)).trans ?_
  · have q := it_rg0 (n := (xs.getD 3 0 % 4).toNat) (by omega)
    rw [show (((xs.getD 3 0 % 4).toNat : Nat) : Int) = xs.getD 3 0 % 4 by omega] at q
    exact q
  · exact st_rt (ret_v (ex_fz (loc_v rfl)))
end L01
end

section
set_option Elab.async false
set_option linter.all false
set_option maxRecDepth 100000
set_option maxHeartbeats 4000000
set_option autoImplicit false
namespace L01
open PySem PySem.Spec L2 Pd Ev
def LET : Str := "abcdefghijklmnopqrstuvwxyz"
def OT1 : Str := " !\"#$&'()*+,-./0123456789:;<=>?@ABCDEFGHIJKLMNOPQRSTUVWXYZ[\\]^_`"
def OT2 : Str := "{|}~\naz"
def OTH : Str := OT1 ++ OT2
def ALW : List Nat := LET.cps.toList ++ OTH.cps.toList
def letK (c : Nat) : Int := if 97 ≤ c ∧ c ≤ 122 then (c : Int) - 97 else -1
theorem find_all : ALW.all (fun c => decide (Txt.find LET ⟨#[c]⟩ = letK c)) = true := by kernel_rfl
theorem find_k {c : Nat} (h : c ∈ ALW) : Txt.find LET ⟨#[c]⟩ = letK c := of_decide_eq_true (List.all_eq_true.mp find_all c h)
theorem LET_len : LET.cps.toList.length = 26 := by kernel_rfl
theorem OTH_len : OTH.cps.toList.length = 71 := by kernel_rfl
theorem let_ok (c : Nat) : (leS "a" ⟨#[c]⟩ && leS ⟨#[c]⟩ "z") = decide (97 ≤ c ∧ c ≤ 122) := by
  have e1 : ("a" : Str).cps.toList = [97] := by decide +kernel
  have e2 : ("z" : Str).cps.toList = [122] := by decide +kernel
  unfold leS
  rw [e1, e2]
  show (!decide ([c] < [97]) && !decide ([122] < [c])) = _
  simp only [List.cons_lt_cons_iff, List.not_lt_nil, and_false, or_false]
  by_cases h1 : c < 97 <;> by_cases h2 : 122 < c <;> simp [h1, h2] <;> omega
def chD (c : Nat) : D := .str ⟨#[c]⟩
theorem e_letter (g : Nat → Addr) (k : Nat) (c : Nat) : CA g (k + 1) 1 [chD c] = some (.val (.int (letK c))) := by
  rw [ca_1]
  have hq := let_ok c
  have hc : ev (wc (Phi1 g) (CA g k)) ([.sh (chD c)].map S2.vwO) true (.chn .LtE .LtE (.cst (.str ("a" : PySem.Str))) (.loc 0) (.cst (.str ("z" : PySem.Str)))) = some (.val (.bl (decide (97 ≤ c ∧ c ≤ 122)))) := by
    rw [← hq, ev_chn, cst_v, and_val, loc_v (d := chD c) rfl, and_val]
    show (match some (leS "a" ⟨#[c]⟩) with
      | none => none
      | some false => bv false
      | some true => RR.and (ev _ _ false (.cst (.str ("z" : PySem.Str)))) fun z => (cmpD .LtE (chD c) z).bind bv) = _
    cases leS "a" ⟨#[c]⟩
    · rfl
    · rw [cst_v, and_val]; rfl
  refine runF_eq (γ := [.sh (chD c)]) (o := .rt _) rfl rfl ?_ rfl
  unfold letK
  by_cases h : 97 ≤ c ∧ c ≤ 122
  · rw [if_pos h]
    rw [decide_eq_true h] at hc
    exact st_rt ((ite_t hc).trans (st_rt (ret_v (ex_pl (sub_i (bi1_v (loc_v (d := chD c) rfl) (show biD .ord [chD c] = some (.val (.int c)) from rfl)) (bi1_v (cst_v _) (show biD .ord [.str ("a" : PySem.Str)] = some (.val (.int 97)) by kernel_rfl)))))))
  · rw [if_neg h]
    rw [decide_eq_false h] at hc
    refine (st_nx (ite_f0 hc)).trans (st_rt (ret_v (ex_pl (neg_i (cst_v (.int 1))))))
theorem join1 : ∀ cs : List Nat, TL.joinL [] (cs.map fun c => [c]) = cs
  | [] => rfl
  | [c] => rfl
  | c :: d :: r => by
    have z := join1 (d :: r)
    show [c] ++ [] ++ TL.joinL [] ((d :: r).map fun c => [c]) = _
    rw [z]; rfl
theorem strs_ch : ∀ cs : List Nat, strs? (cs.map chD) = some (cs.map fun c => (⟨#[c]⟩ : Str))
  | [] => rfl
  | c :: r => by
    rw [List.map_cons]
    show (strs? (r.map chD)).map ((⟨#[c]⟩ : Str) :: ·) = _
    rw [strs_ch r] <;> rfl
theorem sum_ch : ∀ cs : List Nat, ((cs.map fun c => (⟨#[c]⟩ : Str)).map (·.length)).sum = cs.length
  | [] => rfl
  | c :: r => by
    rw [List.map_cons, List.map_cons, List.sum_cons, sum_ch r, List.length_cons]
    show 1 + r.length = _
    omega
theorem join_ch (cs : List Nat) (h : cs.length ≤ 1000) : bmD .join (.str "") [.lst (cs.map chD)] = some (.val (.str ⟨cs.toArray⟩)) := by
  have e0 : ("" : Str) = SX.S [] := by decide +kernel
  have e1 : (cs.map fun c => (⟨#[c]⟩ : Str)) = (cs.map fun c => [c]).map SX.S := by
    rw [List.map_map]
    rfl
  show (strs? (cs.map chD)).bind (fun xs => if (xs.map (·.length)).sum + xs.length * ("" : Str).length ≤ 16777216 then some (RR.val (.str (Txt.join "" xs))) else none) = _
  rw [strs_ch, Option.bind_some, sum_ch, if_pos (by rw [show ("" : Str).length = 0 by decide +kernel]; omega), e0, e1, SX.join_S, join1]
theorem sgn_ch (cs : List Nat) : sgn ⟨cs.toArray⟩ = cs.map chD := rfl
end L01
end

section
set_option Elab.async false
set_option linter.all false
set_option maxRecDepth 100000
set_option maxHeartbeats 4000000
set_option autoImplicit false
namespace L01
open PySem PySem.Spec L2 Pd Ev
theorem mem_oth {c : Nat} (h : c ∈ OTH.cps.toList) : c ∈ ALW := List.mem_append.mpr (.inr h)
theorem mem_let {c : Nat} (h : c ∈ LET.cps.toList) : c ∈ ALW := List.mem_append.mpr (.inl h)
theorem sub_str {u : Str} {n : Nat} (hn : n < u.cps.toList.length) (hl : u.length ≤ 100000) : ∃ c, c ∈ u.cps.toList ∧ subD (.str u) (.int (n : Int)) = some (.val (chD c)) := by
  refine ⟨_, List.getElem_mem hn, ?_⟩
  show (if u.length ≤ 100000 then (atI u.cps.toList (n : Int)).map fun n => RR.val (.str ⟨#[n]⟩) else none) = _
  rw [if_pos hl, atI_n _ n hn]
  rfl
def lnB : List IS := [.ite (.cmp .Gt (.loc 5) (.cst (.int 0))) [.seti (.fz [3, 4, 8]) 7 (.bin .Mod (.bi .int [(.sub (.loc 4) (.bin .Add (.cst (.int 4)) (.loc 8)))]) (.loc 5)) (.sub (.loc 3) (.bin .Mod (.bi .int [(.sub (.loc 4) (.bin .Add (.cst (.int 7)) (.loc 8)))]) (.bi .len [(.loc 3)])))] []]
theorem ln_go (Φ : Phi) (a0 a1 a2 a6 a9 : S2) (sh : List Int) (z : Int) (hsh : sh.length = 10) : ∀ (js : List Int), Ev.In 0 3 js → ∀ (cs : List Nat), (cs.length : Int) = z → (∀ c ∈ cs, c ∈ ALW) → ∀ x8 : S2,
    ∃ (cs' : List Nat) (y8 : S2), cs'.length = cs.length ∧ (∀ c ∈ cs', c ∈ ALW) ∧ forGo (put [8]) (fun γ => evSs Φ lnB γ) (js.map .int) [a0, a1, a2, .sh (.str OTH), .sh (.lst (sh.map .int)), .sh (.int z), a6, .ow (cs.map chD), x8, a9] = some (.nx [a0, a1, a2, .sh (.str OTH), .sh (.lst (sh.map .int)), .sh (.int z), a6, .ow (cs'.map chD), y8, a9]) := by
  intro js
  induction js with
  | nil => exact fun _ cs _ hc x8 => ⟨cs, x8, rfl, hc, by rw [List.map_nil, forGo_nil]⟩
  | cons j js ih =>
    intro hj cs hz hc x8
    have hj0 := hj j (List.mem_cons_self ..)
    have hjs : Ev.In 0 3 js := fun q hq => hj q (List.mem_cons_of_mem _ hq)
    rw [List.map_cons]
    by_cases hp : 0 < z
    · have hm := mod_nn (sh.getD (4 + j).toNat 0) z hp
      have hm2 := mod_nn (sh.getD (7 + j).toNat 0) 71 (by decide)
      obtain ⟨c, c1, c2⟩ := sub_str (u := OTH) (n := (sh.getD (7 + j).toNat 0 % 71).toNat) (by rw [OTH_len]; omega) (by have := OTH_len; show OTH.cps.size ≤ _; rw [← Array.length_toList]; omega)
      rw [show ((sh.getD (7 + j).toNat 0 % 71).toNat : Int) = sh.getD (7 + j).toNat 0 % 71 by omega] at c2
      obtain ⟨cs', y8, l, l2, e⟩ := ih hjs (cs.set (sh.getD (4 + j).toNat 0 % z).toNat c) (by rw [List.length_set]; exact hz) (fun q hq => by
        rcases List.mem_or_eq_of_mem_set hq with h | h
        · exact hc q h
        · rw [h]; exact mem_oth c1) (.sh (.int j))
      refine ⟨cs', y8, by rw [l, List.length_set], l2, ?_⟩
      refine (forGo_nx _ _ _ _ _ [a0, a1, a2, .sh (.str OTH), .sh (.lst (sh.map .int)), .sh (.int z), a6, .ow (cs.map chD), .sh (.int j), a9] _ rfl ?_).trans e
      have hln : ∀ γ : List S2, γ[3]? = some (.sh (.str OTH)) → ev Φ γ false (.bi .len [(.loc 3)]) = some (.val (.int 71)) := fun γ h => bi1_v (loc_v h) (by
        show (if OTH.length ≤ 100000 then iv OTH.length else none) = _
        have e : OTH.length = 71 := by rw [← OTH_len, Array.length_toList]; rfl
        rw [e]; rfl)
      refine (st_nx ((ite_t (gt_i (loc_v rfl) (cst_v _) (decide_eq_true hp))).trans ((st_nx (seti_ (γ1 := [a0, a1, a2, .sh (.str OTH), .sh (.lst (sh.map .int)), .sh (.int z), a6, .ow (cs.map chD), .sh (.int j), a9]) (j := sh.getD (4 + j).toNat 0 % z) (ds := cs.map chD) (n := (sh.getD (4 + j).toNat 0 % z).toNat) (d := chD c) (ex_fz ?_) ?_ rfl ?_)).trans (evSs_nil _ _)))).trans ?_
      · exact sub_v (loc_v rfl) (mod_i (int_i (sub_li (xs := sh) (loc_v rfl) (add_i (cst_v (.int 7)) (loc_v (d := .int j) rfl)) (by omega) (by omega))) (hln _ rfl) (by decide)) c2
      · exact mod_i (int_i (sub_li (xs := sh) (loc_v rfl) (add_i (cst_v (.int 4)) (loc_v (d := .int j) rfl)) (by omega) (by omega))) (loc_v rfl) hp
      · unfold ixN
        rw [List.length_map, if_pos hm.1, if_pos (by omega)]
      · rw [evSs_nil, List.map_set]
        rfl
    · obtain ⟨cs', y8, l, l2, e⟩ := ih hjs cs hz hc (.sh (.int j))
      refine ⟨cs', y8, l, l2, ?_⟩
      refine (forGo_nx _ _ _ _ _ _ _ rfl ?_).trans e
      refine (st_nx (γ2 := [a0, a1, a2, .sh (.str OTH), .sh (.lst (sh.map .int)), .sh (.int z), a6, .ow (cs.map chD), .sh (.int j), a9]) ?_).trans (evSs_nil _ _)
      exact ite_f0 (gt_i (loc_v rfl) (cst_v _) (decide_eq_false hp))
end L01
end

section
set_option Elab.async false
set_option linter.all false
set_option maxRecDepth 100000
set_option maxHeartbeats 4000000
set_option autoImplicit false
namespace L01
open PySem PySem.Spec L2 Pd Ev
def M4 : List Int := [2, 3, 26, 26]
theorem M4_in : Ev.In 1 27 M4 := by unfold Ev.In M4; decide
def lnF : D → D
  | .int p => chD (LET.cps.toList.getD p.toNat 0)
  | d => d
theorem oth_add {Φ : Phi} {γ : List S2} {e1 e2 : IE} (h1 : ev Φ γ false e1 = some (.val (.str OT1))) (h2 : ev Φ γ false e2 = some (.val (.str OT2))) : ev Φ γ false (.bin .Add e1 e2) = some (.val (.str OTH)) := bin_v h1 h2 (by
  show (if OT1.length + OT2.length ≤ 100000 then some (RR.val (.str (OT1 ++ OT2))) else none) = _
  exact if_pos (by decide +kernel))
theorem let_at {n : Nat} (hn : n < 26) : subD (.str LET) (.int (n : Int)) = some (.val (chD (LET.cps.toList.getD n 0))) := by
  have hl : n < LET.cps.toList.length := by rw [LET_len]; exact hn
  show (if LET.length ≤ 100000 then (atI LET.cps.toList (n : Int)).map fun n => RR.val (.str ⟨#[n]⟩) else none) = _
  rw [if_pos (by show LET.cps.size ≤ _; rw [← Array.length_toList, LET_len]; decide), atI_n _ n hl, List.getD_eq_getElem?_getD, List.getElem?_eq_getElem hl]
  rfl
theorem e_line (g : Nat → Addr) (k : Nat) (ns : List Int) (at_ : Int) (h0 : 0 ≤ at_) : ∃ cs : List Nat, cs.length ≤ 300 ∧ (∀ c ∈ cs, c ∈ ALW) ∧ CA g (k + 3) 12 [.rol (ns.map .int), .int at_] = some (.val (.str ⟨cs.toArray⟩)) := by
  rw [ca_12]
  obtain ⟨c, hc⟩ := e_cell g (k + 1) ns at_ h0
  obtain ⟨c2, hc2⟩ := e_cell g (k + 1) ns (at_ + 1) (by omega)
  obtain ⟨xs, l1, l2, l3⟩ := e_draws g k (c + 2) 1000 10 (by decide) (by decide) (by decide)
  have hsz := szF_in (xs.getD 0 0) (xs.getD 1 0) (xs.getD 2 0)
  generalize hz : szF (xs.getD 0 0) (xs.getD 1 0) (xs.getD 2 0) = z at hsz
  have i4 := mod_nn (xs.getD 2 0) 4 (by decide)
  have i3 := mod_nn (xs.getD 3 0) 4 (by decide)
  have m4 := M4_in.at (i := (xs.getD 2 0 % 4).toNat) (by show _ < 4; omega)
  generalize hm : M4.getD (xs.getD 2 0 % 4).toNat 0 = m at m4
  obtain ⟨ps, r1, r2, r3⟩ := e_draws g k (c2 + 3) m z.toNat (by omega) (by omega) (by omega)
  rw [show ((z.toNat : Nat) : Int) = z by omega] at r3
  obtain ⟨cs, y8, e1, e2, e3⟩ := ln_go (wc (Phi1 g) (CA g (k + 2))) (.sh (.rol (ns.map .int))) (.sh (.int at_)) (.sh (.str LET)) (.sh (.int m)) .no xs z l1 ((List.range (xs.getD 3 0 % 4).toNat).map fun i : Nat => (i : Int)) (fun q hq => by
      obtain ⟨i, hi, rfl⟩ := List.mem_map.mp hq
      have := List.mem_range.mp hi
      omega) (ps.map fun p => LET.cps.toList.getD p.toNat 0) (by rw [List.length_map]; omega) (fun q hq => by
      obtain ⟨p, hp, rfl⟩ := List.mem_map.mp hq
      have b := r2 p hp
      have hl : p.toNat < LET.cps.toList.length := by rw [LET_len]; omega
      rw [List.getD_eq_getElem?_getD, List.getElem?_eq_getElem hl]
      exact mem_let (List.getElem_mem hl)) .no
  rw [← rng0] at e3
  rw [List.length_map] at e1
  refine ⟨cs, by omega, e2, ?_⟩
  have hmap : (ps.map D.int).map lnF = (ps.map fun p => LET.cps.toList.getD p.toNat 0).map chD := by
    rw [List.map_map, List.map_map]
    rfl
  refine runF_eq (γ := [.sh (.rol (ns.map .int)), .sh (.int at_), .no, .no, .no, .no, .no, .no, .no, .no]) (o := .rt _) rfl rfl ?_ rfl
  refine (st_nx (γ2 := [.sh (.rol (ns.map .int)), .sh (.int at_), .sh (.str LET), .no, .no, .no, .no, .no, .no, .no]) (asg_v (ex_pl (cst_v _)))).trans ?_
  refine (st_nx (γ2 := [.sh (.rol (ns.map .int)), .sh (.int at_), .sh (.str LET), .sh (.str OT1), .no, .no, .no, .no, .no, .no]) (asg_v (ex_pl (cst_v _)))).trans ?_
  refine (st_nx (γ2 := [.sh (.rol (ns.map .int)), .sh (.int at_), .sh (.str LET), .sh (.str OTH), .no, .no, .no, .no, .no, .no]) (asg_v (ex_fz (oth_add (loc_v rfl) (cst_v _))))).trans ?_
  refine (st_nx (γ2 := [.sh (.rol (ns.map .int)), .sh (.int at_), .sh (.str LET), .sh (.str OTH), .ow (xs.map .int), .no, .no, .no, .no, .no]) (asg_n (ex_pl ((fn_3 (add_i ((fn_2 (loc_v rfl) (loc_v rfl)).trans hc) (cst_v (.int 2))) (cst_v _) (cst_v _)).trans l3)))).trans ?_
  refine (st_nx (γ2 := [.sh (.rol (ns.map .int)), .sh (.int at_), .sh (.str LET), .sh (.str OTH), .sh (.lst (xs.map .int)), .sh (.int (xs.getD 0 0 % 28)), .no, .no, .no, .no]) (asg_v (ex_fz (at_cm (i := 0) rfl (by omega) (by decide))))).trans ?_
  refine (st_nx (γ2 := [.sh (.rol (ns.map .int)), .sh (.int at_), .sh (.str LET), .sh (.str OTH), .sh (.lst (xs.map .int)), .sh (.int (xs.getD 0 0 % 28)), .sh (.int m), .no, .no, .no]) (asg_v (ex_fz (by rw [← hm]; exact sub_ln (xs := M4) (lst_c (M4.map .int) (by decide)) (at_cm (i := 2) rfl (by omega) (by decide)) i4.1 (by show _ < 4; omega))))).trans ?_
  have s3 : evS (wc (Phi1 g) (CA g (k + 2))) (.ite (.cmp .Eq (.bin .Mod (.bi .int [(.sub (.loc 4) (.cst (.int 1)))]) (.cst (.int 8))) (.cst (.int 0))) [.asg (.fz [4]) 5 (.bin .Add (.cst (.int 25)) (.bin .Mod (.bi .int [(.sub (.loc 4) (.cst (.int 2)))]) (.cst (.int 276))))] []) [.sh (.rol (ns.map .int)), .sh (.int at_), .sh (.str LET), .sh (.str OTH), .sh (.lst (xs.map .int)), .sh (.int (xs.getD 0 0 % 28)), .sh (.int m), .no, .no, .no] = some (.nx [.sh (.rol (ns.map .int)), .sh (.int at_), .sh (.str LET), .sh (.str OTH), .sh (.lst (xs.map .int)), .sh (.int z), .sh (.int m), .no, .no, .no]) := by
    rw [← hz]
    unfold szF
    by_cases q : xs.getD 1 0 % 8 = 0
    · rw [if_pos q]
      exact (ite_t (eq_i (at_cm (i := 1) rfl (by omega) (by decide)) (cst_v _) (decide_eq_true q))).trans ((st_nx (asg_v (ex_fz (add_i (cst_v (.int 25)) (at_cm (i := 2) rfl (by omega) (by decide)))))).trans (evSs_nil _ _))
    · rw [if_neg q]
      exact ite_f0 (eq_i (at_cm (i := 1) rfl (by omega) (by decide)) (cst_v _) (decide_eq_false q))
  refine (st_nx s3).trans ?_
  refine (st_nx (γ2 := [.sh (.rol (ns.map .int)), .sh (.int at_), .sh (.str LET), .sh (.str OTH), .sh (.lst (xs.map .int)), .sh (.int z), .sh (.int m), .ow ((ps.map fun p => LET.cps.toList.getD p.toNat 0).map chD), .no, .no]) (asg_n (ex_fz ?_))).trans ?_
  · rw [← hmap]
    refine lc_map (items := ps.map .int) ?_ (by rw [List.length_map]; omega) fun d hd => ?_
    · have hf : ev (wc (Phi1 g) (CA g (k + 2))) [.sh (.rol (ns.map .int)), .sh (.int at_), .sh (.str LET), .sh (.str OTH), .sh (.lst (xs.map .int)), .sh (.int z), .sh (.int m), .no, .no, .no] false (.fn 5 [(.bin .Add (.fn 3 [(.loc 0), (.bin .Add (.loc 1) (.cst (.int 1)))]) (.cst (.int 3))), (.loc 5), (.loc 6)]) = some (.new (ps.map .int)) := (fn_3 (add_i ((fn_2 (loc_v rfl) (add_i (loc_v (d := .int at_) rfl) (cst_v (.int 1)))).trans hc2) (cst_v (.int 3))) (loc_v rfl) (loc_v rfl)).trans r3
      show (evD _ [.sh (.rol (ns.map .int)), .sh (.int at_), .sh (.str LET), .sh (.str OTH), .sh (.lst (xs.map .int)), .sh (.int z), .sh (.int m), .no, .no, .no] _).bind _ = _
      rw [evD1_n hf, Option.bind_some]
      rfl
    · obtain ⟨p, hp, rfl⟩ := List.mem_map.mp hd
      have b := r2 p hp
      have z := let_at (n := p.toNat) (by omega)
      rw [show ((p.toNat : Nat) : Int) = p by omega] at z
      exact ⟨_, rfl, sub_v (loc_v rfl) (loc_v rfl) z⟩
  refine (st_nx ((for1 (d := .int (xs.getD 3 0 % 4)) (body := lnB) (items := rngD 0 (xs.getD 3 0 % 4).toNat) (at_cm (i := 3) rfl (by omega) (by decide)) ?_).trans e3)).trans ?_
  · have q := it_rg0 (n := (xs.getD 3 0 % 4).toNat) (by omega)
    rw [show (((xs.getD 3 0 % 4).toNat : Nat) : Int) = xs.getD 3 0 % 4 by omega] at q
    exact q
  · refine st_rt (ret_v (ex_fz ?_))
    have hj := join_ch cs (by omega)
    have hb : bmT .join (.str ("" : PySem.Str)) = true := rfl
    rw [ev_bm, cst_v, and_val, if_pos hb, evL_cons, loc_v (d := .lst (cs.map chD)) rfl, and_val, evL_nil, tst_f]
    exact hj
end L01
end

section
set_option Elab.async false
set_option linter.all false
set_option maxRecDepth 100000
set_option maxHeartbeats 4000000
set_option autoImplicit false
namespace Ev
open PySem PySem.Spec L2 Pd
/-! ### steps with what comes left open: for a tactic that runs -/
section
variable {Φ : Phi} {γ γ1 γ2 : List S2} {t : Bool} {e e1 e2 e3 : IE} {es : List IE} {d d1 d2 d3 : D} {ds : List D} {x x1 x2 : RR} {p q : Bool} {v : Vw} {i j : Nat} {r a b : List IS} {o : Option Out}
theorem q_d (h : ev Φ γ false e = some x) (h2 : RR.d? (some x) = some d) : RR.d? (ev Φ γ false e) = some d := by rw [h]; exact h2
theorem q_locT (h : γ[j]? = some (.sh (.bl q))) : ev Φ γ t (.loc j) = some (.val (.bl q)) := by rw [ev_loc, h]; cases t <;> rfl
theorem q_bin {op : Operator} (h1 : RR.d? (ev Φ γ false e1) = some d1) (h2 : RR.d? (ev Φ γ false e2) = some d2) (h : binD op d1 d2 = some x) : ev Φ γ false (.bin op e1 e2) = some x := bin_d h1 h2 h
theorem q_not (h1 : ev Φ γ t e1 = some (.val (.bl q))) : ev Φ γ t (.not e1) = some (.val (.bl (!q))) := not_v h1
theorem q_and (h1 : ev Φ γ t e1 = some (.val (.bl p))) (h2 : p = true → ev Φ γ t e2 = some (.val (.bl q))) : ev Φ γ t (.and e1 e2) = some (.val (.bl (p && q))) := by
  cases p with
  | true => rw [ev_and, h1, and_val, Bool.true_and]; exact h2 rfl
  | false => rw [ev_and, h1, and_val]; rfl
theorem q_or (h1 : ev Φ γ t e1 = some (.val (.bl p))) (h2 : p = false → ev Φ γ t e2 = some (.val (.bl q))) : ev Φ γ t (.or e1 e2) = some (.val (.bl (p || q))) := by
  cases p with
  | false => rw [ev_or, h1, and_val, Bool.false_or]; exact h2 rfl
  | true => rw [ev_or, h1, and_val]; rfl
theorem q_isc {c : D} {n : Bool} (h : RR.d? (ev Φ γ false e) = some d) (hk : iscD c d = some q) : ev Φ γ t (.isc n e c) = some (.val (.bl (if n then !q else q))) := by
  rw [ev_isc, and_d h, hk]; rfl
theorem q_inb {ty n : String} (h : RR.d? (ev Φ γ false e) = some d) (ht : d.tyN = some ty) (hk : kitB ty n = some q) : ev Φ γ t (.inb e n) = some (.val (.bl q)) := by
  rw [ev_inb, and_d h, ht]
  dsimp only
  rw [hk]; rfl
theorem q_fn {f : Nat} (h : evAll Φ γ es ds) (hc : Φ.call f ds = some x) : ev Φ γ false (.fn f es) = some x := by rw [fn_a h, hc]
theorem q_fnT {f : Nat} (h : evAll Φ γ es ds) (hc : Φ.call f ds = some (.val (.bl q))) : ev Φ γ t (.fn f es) = some (.val (.bl q)) := by
  rw [ev_fn, evL_all h, hc]; cases t <;> rfl
theorem q_fnk {f n : Nat} {kvs : List IE} {ws : List D} (h : evAll Φ γ es ds) (h2 : evAll Φ γ kvs ws) (hc : Φ.call f ((Φ.arr n).map (paD ds ws)) = some x) : ev Φ γ false (.fnk f n es kvs) = some x := by rw [ev_fnk, tst_f, evL_all h, evL_all h2, hc]
theorem q_mk {f n : Nat} {kvs : List IE} {ws : List D} (h : evAll Φ γ es ds) (h2 : evAll Φ γ kvs ws) (hc : Φ.call f ((Φ.arr n).map (paD ds ws)) = some x) : ev Φ γ false (.mk f n es kvs) = some x := by rw [ev_mk, tst_f, evL_all h, evL_all h2, hc]
theorem q_mth {m n : Nat} {C : Addr} {fs : List (Str × D)} {kvs : List IE} {ws : List D} (h0 : RR.d? (ev Φ γ false e) = some (.obj C fs)) (hm : Φ.meth C m = some (Φ.pf n)) (hn : (fs.lookup (Φ.mn m)).isNone = true) (h : evAll Φ γ es ds) (h2 : evAll Φ γ kvs ws) (hc : Φ.call (Φ.pf n) (.obj C fs :: (Φ.arr n).map (paD ds ws)) = some x) : ev Φ γ false (.mth e m n es kvs) = some x := by
  rw [ev_mth, tst_f, and_d h0]
  dsimp only
  rw [if_pos ⟨hm, hn⟩, evL_all h, evL_all h2, hc]
theorem q_cm {c m n : Nat} {kvs : List IE} {ws : List D} (hm : Φ.cmeth c m = some (Φ.pf n)) (h : evAll Φ γ es ds) (h2 : evAll Φ γ kvs ws) (hc : Φ.call (Φ.pf n) (.adr (Φ.ga c) :: (Φ.arr n).map (paD ds ws)) = some x) : ev Φ γ false (.cm c m n es kvs) = some x := by
  rw [ev_cm, tst_f, if_pos hm, evL_all h, evL_all h2, hc]
theorem q_lmk {C : Addr} {f : Nat} (hi : γ[i]? = some (.sh (.adr C))) (hf : Φ.ctor C = some f) (h : evAll Φ γ es ds) (hc : Φ.call f ds = some x) : ev Φ γ false (.lmk i es) = some x := by
  rw [ev_lmk, tst_f, hi]
  dsimp only
  rw [hf]
  dsimp only
  rw [evL_all h, hc]
theorem q_bi {k : BI} (h : evAll Φ γ es ds) (hb : biD k ds = some x) : ev Φ γ false (.bi k es) = some x := by rw [ev_bi, tst_f, evL_all h, hb]
theorem q_bm {k : BM} (h0 : RR.d? (ev Φ γ false e) = some d) (ht : bmT k d = true) (h : evAll Φ γ es ds) (hb : bmD k d ds = some x) : ev Φ γ false (.bm k e es) = some x := by
  rw [ev_bm, tst_f, and_d h0, if_pos ht, evL_all h, hb]
theorem q_att {C : Addr} {fs : List (Str × D)} {f : Str} (h : RR.d? (ev Φ γ false e) = some (.obj C fs)) (hf : Φ.fld C f = true) (hl : fs.lookup f = some d) : ev Φ γ false (.att e f) = some (.val d) := by
  rw [ev_att, and_d h, tst_f]
  dsimp only
  rw [if_pos hf, hl]; rfl
theorem q_con {c : Nat} {f : Str} (h : Φ.ccon c f = some d) : ev Φ γ false (.con c f) = some (.val d) := by rw [ev_con, tst_f, h]; rfl
theorem q_glo {n : Nat} (h : Φ.glob n = some d) : ev Φ γ false (.glo n) = some (.val d) := by rw [ev_glo, tst_f, h]; rfl
theorem q_sub (h1 : RR.d? (ev Φ γ false e1) = some d1) (h2 : RR.d? (ev Φ γ false e2) = some d2) (h : subD d1 d2 = some x) : ev Φ γ false (.sub e1 e2) = some x := sub_d h1 h2 h
theorem q_rev (h1 : RR.d? (ev Φ γ false e1) = some (.tup ds)) : ev Φ γ false (.rev e1) = some (.val (.tup ds.reverse)) := by
  rw [ev_rev, and_d h1, tst_f]
theorem q_slc {lo hi : List IE} {l h' : Option Int} (h1 : RR.d? (ev Φ γ false e1) = some d1) (h2 : evO Φ γ lo = some l) (h3 : evO Φ γ hi = some h') (h : slcD d1 l h' = some x) : ev Φ γ false (.slc e1 lo hi) = some x := by
  rw [ev_slc, and_d h1, tst_f, h2, h3]; exact h
theorem q_o1 {n : Int} (h : RR.d? (ev Φ γ false e) = some (.int n)) : evO Φ γ [e] = some (some n) := by rw [evO_cons, h]
theorem q_chn {op op' : CmpOp} (h1 : RR.d? (ev Φ γ false e1) = some d1) (h2 : RR.d? (ev Φ γ false e2) = some d2) (hp : cmpD op d1 d2 = some p) (h3 : RR.d? (ev Φ γ false e3) = some d3) (hq : cmpD op' d2 d3 = some q) : ev Φ γ t (.chn op op' e1 e2 e3) = some (.val (.bl (p && q))) := by
  rw [ev_chn, and_d h1, and_d h2, hp]
  cases p with
  | false => rfl
  | true =>
    dsimp only
    rw [and_d h3, hq]; rfl
theorem q_itr {C : Addr} {fs : List (Str × D)} {f : Str} (h : RR.d? (ev Φ γ false e) = some (.obj C fs)) (hi : Φ.itf C = some f) (hl : fs.lookup f = some (.tup ds)) : ev Φ γ false (.itr e) = some (.val (.tup ds)) := by
  rw [ev_itr, and_d h, tst_f]
  dsimp only
  rw [hi]
  dsimp only
  rw [hl]
theorem q_ins {n : Nat} {C : Addr} {fs : List (Str × D)} (h : RR.d? (ev Φ γ false e) = some (.obj C fs)) (hx : Φ.isO C n = some q) : ev Φ γ t (.ins e n) = some (.val (.bl q)) := by
  rw [ev_ins, and_d h]
  dsimp only
  rw [hx]; rfl
theorem q_ifeT (h : ev Φ γ true e1 = some (.val (.bl q))) (hq : q = true) (h2 : ev Φ γ false e2 = some x) : ev Φ γ false (.ife e1 e2 e3) = some x := by subst hq; exact ife_t h h2
theorem q_ifeF (h : ev Φ γ true e1 = some (.val (.bl q))) (hq : q = false) (h2 : ev Φ γ false e3 = some x) : ev Φ γ false (.ife e1 e2 e3) = some x := by subst hq; exact ife_f h h2
theorem q_neg (h : RR.d? (ev Φ γ false e) = some d) (hn : negD d = some x) : ev Φ γ false (.neg e) = some x := by rw [ev_neg, and_d h, tst_f, hn]
theorem q_lst (h : evAll Φ γ es ds) (hl : ds.length ≤ 100000) : ev Φ γ false (.lst es) = some (.new ds) := lst_a h hl
theorem q_tup (h : evAll Φ γ es ds) (hl : ds.length ≤ 100000) : ev Φ γ false (.tup es) = some (.val (.tup ds)) := tup_a h hl
theorem q_tst (h : ev Φ γ false e = some x) (he : ev Φ γ true e = tst true (ev Φ γ false e)) (hx : tst true (some x) = some (.val (.bl q))) : ev Φ γ true e = some (.val (.bl q)) := by rw [he, h, hx]
theorem q_locX (h : γ[j]? = some (.sh d)) (hx : tst true (some (.val d)) = some (.val (.bl q))) : ev Φ γ true (.loc j) = some (.val (.bl q)) := by rw [ev_loc, h]; exact hx
/-! statements -/
theorem p_pl (h : ev Φ γ false e = some x) : evP Φ γ .pl e = some (γ, x) := ex_pl h
theorem p_fz {us : List Nat} (h : ev Φ (frz γ us) false e = some x) : evP Φ γ (.fz us) e = some (frz γ us, x) := ex_fz h
theorem p_vw (h : ev Φ (γ.map S2.vwL) false e = some x) (hn : x.na = true) : evP Φ γ .vw e = some (γ, x) := ex_vw h hn
theorem p_vo (h : ev Φ (γ.map S2.vwO) false e = some x) (hn : x.sc = true) : evP Φ γ .vo e = some (γ, x) := ex_vo h hn
theorem s_asg (h : evP Φ γ v e = some (γ1, x)) (h2 : setS i γ1 x = some (.nx γ2)) (k : evSs Φ r γ2 = o) : evSs Φ (.asg v i e :: r) γ = o := by
  rw [evSs_cons, evS_asg, h]
  dsimp only
  rw [h2, then_nx, k]
theorem s_asgs {tg : List Nat} (h : evP Φ γ v e = some (γ1, .val d)) (hp : put tg d γ1 = some γ2) (k : evSs Φ r γ2 = o) : evSs Φ (.asgs v tg e :: r) γ = o := (st_nx (asgs_v h hp)).trans k
theorem s_iteT (h : ev Φ (γ.map S2.vwO) true e = some (.val (.bl q))) (hq : q = true) (h2 : evSs Φ a γ = some (.nx γ2)) (k : evSs Φ r γ2 = o) : evSs Φ (.ite e a b :: r) γ = o := by
  subst hq
  exact (st_nx ((ite_t h).trans h2)).trans k
theorem s_iteF (h : ev Φ (γ.map S2.vwO) true e = some (.val (.bl q))) (hq : q = false) (h2 : evSs Φ b γ = some (.nx γ2)) (k : evSs Φ r γ2 = o) : evSs Φ (.ite e a b :: r) γ = o := by
  subst hq
  exact (st_nx ((ite_f h).trans h2)).trans k
theorem s_iteF0 (h : ev Φ (γ.map S2.vwO) true e = some (.val (.bl q))) (hq : q = false) (k : evSs Φ r γ = o) : evSs Φ (.ite e a [] :: r) γ = o := by
  subst hq
  exact (st_nx (ite_f0 h)).trans k
/-- an if that ends the run -/
theorem s_iteE (h : ev Φ (γ.map S2.vwO) true e = some (.val (.bl q))) (hq : q = true) (h2 : evSs Φ a γ = o) (hn : ∀ γ', o ≠ some (.nx γ')) : evSs Φ (.ite e a b :: r) γ = o := by
  subst hq
  rw [evSs_cons, ite_t h, h2]
  unfold Out.then
  split
  · exact absurd rfl (hn _)
  · rfl
theorem s_ret (h : evP Φ γ v e = some (γ1, .val d)) : evSs Φ (.ret v e :: r) γ = some (.rt d) := st_rt (ret_v h)
theorem s_retn (h : evP Φ γ v e = some (γ1, .new ds)) : evSs Φ (.ret v e :: r) γ = some (.rn ds) := st_rn (ret_n h)
theorem s_reto (h : γ[i]? = some (.ow ds)) : evSs Φ (.reto i :: r) γ = some (.rn ds) := st_rn (reto_ h)
theorem s_app (h : evP Φ γ v e = some (γ1, x)) (hd : RR.d? (some x) = some d) (hi : γ1[i]? = some (.ow ds)) (hl : ds.length < 100000) (k : evSs Φ r (γ1.set i (.ow (ds ++ [d]))) = o) : evSs Φ (.app v i e :: r) γ = o := (st_nx (app_ h hd hi hl)).trans k
theorem s_exp (h : evP Φ γ v e = some (γ1, .val d)) (k : evSs Φ r γ1 = o) : evSs Φ (.exp v e :: r) γ = o := (st_nx (exp_v h)).trans k
theorem s_nil : evSs Φ [] γ = some (.nx γ) := evSs_nil _ _
theorem s_nil' (h : γ = γ2) : evSs Φ [] γ = some (.nx γ2) := by rw [h]; exact evSs_nil _ _
theorem s_cont : evSs Φ (.cont :: r) γ = some (.ct γ) := by rw [evSs_cons, evS_cont]; rfl
theorem s_brk : evSs Φ (.brk :: r) γ = some (.bk γ) := by rw [evSs_cons, evS_brk]; rfl
theorem s_pass (k : evSs Φ r γ = o) : evSs Φ (.pass :: r) γ = o := by rw [evSs_cons, evS_pass, then_nx, k]
theorem s_for1 {us tg : List Nat} {k : IK} {body : List IS} {items : List D} (h : RR.d? (ev Φ (frz γ us) false e) = some d) (hi : itms k [d] = some items) (hg : forGo (put tg) (fun γ1 => evSs Φ body γ1) items (frz γ us) = some (.nx γ2)) (kk : evSs Φ r γ2 = o) : evSs Φ (.for us tg k [e] body :: r) γ = o := by
  rw [evSs_cons, evS_for, evD_cons, evD_nil, h]
  dsimp only
  rw [Option.bind_some, hi]
  dsimp only
  rw [hg, then_nx, kk]
theorem s_for2 {us tg : List Nat} {k : IK} {body : List IS} {items : List D} (h : RR.d? (ev Φ (frz γ us) false e) = some d) (h2 : RR.d? (ev Φ (frz γ us) false e2) = some d2) (hi : itms k [d, d2] = some items) (hg : forGo (put tg) (fun γ1 => evSs Φ body γ1) items (frz γ us) = some (.nx γ2)) (kk : evSs Φ r γ2 = o) : evSs Φ (.for us tg k [e, e2] body :: r) γ = o := by
  rw [evSs_cons, evS_for, evD_cons, evD_cons, evD_nil, h, h2]
  dsimp only
  rw [Option.bind_some, hi]
  dsimp only
  rw [hg, then_nx, kk]
theorem s_seti {ix : IE} {n : Nat} {jj : Int} (h : evP Φ γ v e = some (γ1, x)) (hd : RR.d? (some x) = some d) (hx : ev Φ (γ1.map S2.vwO) false ix = some (.val (.int jj))) (hi : γ1[i]? = some (.ow ds)) (hn : ixN ds.length jj = some n) (k : evSs Φ r (γ1.set i (.ow (ds.set n d))) = o) : evSs Φ (.seti v i ix e :: r) γ = o := by
  rw [evSs_cons, evS_seti, h]
  dsimp only
  rw [hd, hx, hi]
  dsimp only [RR.d?]
  rw [hn, Option.map_some, then_nx, k]
theorem subD_l {xs : List Int} {n : Int} (h0 : 0 ≤ n) (h : n.toNat < xs.length) : subD (.lst (xs.map .int)) (.int n) = some (.val (.int (xs.getD n.toNat 0))) := by
  show (atI _ n).map RR.val = _
  rw [atI_int h0 h]; rfl
theorem subD_t {xs : List Int} {n : Int} (h0 : 0 ≤ n) (h : n.toNat < xs.length) : subD (.tup (xs.map .int)) (.int n) = some (.val (.int (xs.getD n.toNat 0))) := by
  show (atI _ n).map RR.val = _
  rw [atI_int h0 h]; rfl
theorem q_be {Φ : Phi} {γ : List S2} {t : Bool} {e : IE} {p q : Bool} (h : ev Φ γ t e = some (.val (.bl q))) (hq : q = p) : ev Φ γ t e = some (.val (.bl p)) := by rw [h, hq]
theorem forGo_xc (p : D → List S2 → Option (List S2)) (f : List S2 → Option Out) (d : D) (r : List D) (γ γ1 γ2 : List S2) {C : Addr} {fs : List (Str × D)} (h : p d γ = some γ1) (h2 : f γ1 = some (.xc C fs γ2)) : forGo p f (d :: r) γ = some (.xc C fs γ2) := by
  rw [forGo_cons p f d r γ γ1 h, h2]
theorem forGo_rt (p : D → List S2 → Option (List S2)) (f : List S2 → Option Out) (d : D) (r : List D) (γ γ1 : List S2) {x : D} (h : p d γ = some γ1) (h2 : f γ1 = some (.rt x)) : forGo p f (d :: r) γ = some (.rt x) := by
  rw [forGo_cons p f d r γ γ1 h, h2]
theorem forGo_ct (p : D → List S2 → Option (List S2)) (f : List S2 → Option Out) (d : D) (r : List D) (γ γ1 γ2 : List S2) (h : p d γ = some γ1) (h2 : f γ1 = some (.ct γ2)) : forGo p f (d :: r) γ = forGo p f r γ2 := by
  rw [forGo_cons p f d r γ γ1 h, h2]
/-- a loop that ends the run -/
theorem s_forE {Φ : Phi} {γ : List S2} {e : IE} {d : D} {us tg : List Nat} {k : IK} {body r : List IS} {items : List D} {o : Out} (h : RR.d? (ev Φ (frz γ us) false e) = some d) (hi : itms k [d] = some items) (hg : forGo (put tg) (fun γ1 => evSs Φ body γ1) items (frz γ us) = some o) (hn : ∀ γ', o ≠ .nx γ') : evSs Φ (.for us tg k [e] body :: r) γ = some o := by
  rw [evSs_cons, evS_for, evD_cons, evD_nil, h]
  dsimp only
  rw [Option.bind_some, hi]
  dsimp only
  rw [hg]
  cases o with
  | nx γ' => exact absurd rfl (hn γ')
  | _ => rfl
theorem q_call {Φ : Phi} {g : Nat → List D → Option RR} {f : Nat} {ds : List D} {x : RR} (h : g f ds = some x) : (wc Φ g).call f ds = some x := h
theorem binD_mod {i j : Int} (h : 0 < j) : binD .Mod (.int i) (.int j) = some (.val (.int (i % j))) := if_pos h
theorem binD_mul {i j : Int} (h1 : i.natAbs < 1000000000000) (h2 : j.natAbs < 1000000000000) : binD .Mult (.int i) (.int j) = some (.val (.int (i * j))) := if_pos (okMul_s h1 h2)
theorem binD_div {i j : Int} (h1 : 0 < j) (h2 : j.natAbs < 1000000000000) : binD .FloorDiv (.int i) (.int j) = some (.val (.int (i / j))) := if_pos (okDiv_s h1 h2)
end
end Ev
end

section
set_option Elab.async false
set_option linter.all false
set_option maxRecDepth 100000
set_option maxHeartbeats 4000000
set_option autoImplicit false
namespace L01
open PySem PySem.Spec L2 Pd Ev
local macro_rules | `(tactic| exists 905) => `(tactic| first | decide | omega | (with_reducible assumption))
local macro_rules | `(tactic| exists 904) => `(tactic| first
  | (with_reducible assumption)
  | ((with_reducible apply q_call); with_reducible assumption)
  | ((with_reducible apply binD_mod); (exists 905))
  | ((with_reducible apply binD_mul); (exists 905); (exists 905))
  | ((with_reducible apply binD_div); (exists 905); (exists 905))
  | ((with_reducible apply subD_l); (exists 905); (exists 905))
  | ((with_reducible apply subD_t); (exists 905); (exists 905))
  | exact rfl
  | decide)
local macro_rules | `(tactic| exists 902) => `(tactic| ((with_reducible apply q_d); (exists 901); (exact rfl)))
local macro_rules | `(tactic| exists 903) => `(tactic| first
  | (with_reducible exact all_n)
  | ((with_reducible apply all_c); (exists 902); (exists 903)))
local macro_rules | `(tactic| exists 901) => `(tactic| first
  | ((with_reducible apply loc_v); exact rfl)
  | (with_reducible exact cst_v _)
  | ((with_reducible apply q_bin); (exists 902); (exists 902); (exists 904))
  | ((with_reducible apply q_sub); (exists 902); (exists 902); (exists 904))
  | ((with_reducible apply q_bi); (exists 903); (exists 904))
  | ((with_reducible apply q_fn); (exists 903); (exists 904))
  | ((with_reducible apply cmp_d); (exists 902); (exists 902); (exists 904))
  | ((with_reducible apply q_not); (exists 901))
  | ((with_reducible apply q_neg); (exists 902); (exact rfl))
  | ((with_reducible apply q_att); (exists 902); (exists 904); (exists 904))
  | ((with_reducible apply q_con); (exact rfl))
  | ((with_reducible apply q_glo); (exact rfl))
  | ((with_reducible apply q_tup); (exists 903); (exact Nat.le_of_ble_eq_true rfl))
  | ((with_reducible apply q_lst); (exists 903); (exact Nat.le_of_ble_eq_true rfl))
  | ((with_reducible apply q_isc); (exists 902); (exists 904))
  | ((with_reducible apply q_inb); (exists 902); (exact rfl); (exists 904))
  | ((with_reducible apply q_chn); (exists 902); (exists 902); (exists 904); (exists 902); (exists 904))
  | ((with_reducible apply q_and); (exists 901); (intro; exists 901))
  | ((with_reducible apply q_or); (exists 901); (intro; exists 901))
  | ((with_reducible apply q_ins); (exists 902); (exists 904))
  | ((with_reducible apply q_mk); (exists 903); (exists 903); (exists 904))
  | ((with_reducible apply q_fnk); (exists 903); (exists 903); (exists 904))
  | ((with_reducible apply q_mth); (exists 902); (exists 904); (exists 904); (exists 903); (exists 903); (exists 904))
  | ((with_reducible apply q_cm); (exists 904); (exists 903); (exists 903); (exists 904))
  | ((with_reducible apply q_lmk); (exact rfl); (exists 904); (exists 903); (exists 904))
  | ((with_reducible apply q_itr); (exists 902); (exists 904); (exists 904))
  | ((with_reducible apply q_rev); (exists 902))
  | ((with_reducible apply q_bm); (exists 902); (exact rfl); (exists 903); (exists 904))
  | ((with_reducible apply q_slc); (exists 902); (exists 908); (exists 908); (exists 904))
  | ((with_reducible apply exa_v); (exact rfl); (exists 904); (exists 904))
  | ((with_reducible apply exi_v); (exact rfl); (exists 904))
  | ((with_reducible apply exb_v); (exact rfl); (exists 904))
  | ((with_reducible apply q_fnT); (exists 903); (exists 904))
  | ((with_reducible apply q_locT); exact rfl)
  | ((with_reducible apply q_locX); (exact rfl); (exact rfl))
  | (with_reducible assumption))
local macro_rules | `(tactic| exists 908) => `(tactic| first
  | (with_reducible exact evO_nil _ _)
  | ((with_reducible apply q_o1); (exists 902)))
local macro_rules | `(tactic| exists 906) => `(tactic| first
  | ((with_reducible apply p_pl); (exists 901))
  | ((with_reducible apply p_fz); (exists 901))
  | ((with_reducible apply p_vw); (exists 901); (exact rfl))
  | ((with_reducible apply p_vo); (exists 901); (exact rfl)))
local macro_rules | `(tactic| exists 907) => `(tactic| first
  | (with_reducible exact s_nil)
  | ((with_reducible apply s_nil'); exact rfl)
  | ((with_reducible apply s_asg); (exists 906); (exact rfl))
  | ((with_reducible apply s_app); (exists 906); (exact rfl); (exact rfl); (exists 905))
  | ((with_reducible apply s_exp); (exists 906))
  | ((with_reducible apply s_ret); (exists 906))
  | ((with_reducible apply s_retn); (exists 906))
  | ((with_reducible apply s_reto); (exact rfl)))
def nI (l : List Nat) : List D := l.map fun (k : Nat) => D.int (k : Int)
/-- the places with unlike beads -/
def brk (ks : List Int) : List Nat := (List.range ks.length).filter fun k => !decide (ks.getD k 0 = ks.getD ((k + 1) % ks.length) 0)
def unP (ks : List Int) : D → Bool
  | .int x => !decide (ks.getD x.toNat 0 = ks.getD ((x + 1) % (ks.length : Int)).toNat 0)
  | _ => false
theorem modN (a n : Nat) : ((a : Int) % (n : Int)).toNat = a % n := by
  rw [← Int.natCast_emod, Int.toNat_natCast]
theorem fil_nI (p : D → Bool) (n : Nat) : (rngD 0 n).filter p = nI ((List.range n).filter fun k => p (.int (k : Int))) := by
  rw [rng0, List.map_map]
  unfold nI
  rw [List.filter_map] <;> rfl
theorem un_brk (ks : List Int) : (rngD 0 ks.length).filter (unP ks) = nI (brk ks) := by
  rw [fil_nI]
  unfold brk unP
  congr 1
theorem e_unlike (g : Nat → Addr) (k : Nat) (ks : List Int) (h1 : 2 ≤ ks.length) (h2 : ks.length ≤ 24) : CA g (k + 1) 2 [.tup (ks.map .int)] = some (.new (nI (brk ks))) := by
  rw [← un_brk, ca_2]
  generalize CA g k = cf
  refine runF_eq (γ := [.sh (.tup (ks.map .int)), .no, .no]) (o := .rn _) rfl rfl ?_ rfl
  unfold ir2
  have hl : biD .len [.tup (ks.map .int)] = some (.val (.int ks.length)) := by
    show iv ((ks.map D.int).length) = _
    rw [List.length_map]; rfl
  exists 907
  refine st_rn (ret_n (ex_fz (lc_fil (items := rngD 0 ks.length) (p := unP ks) ?_ (by rw [Ev.rngD_len]; omega) fun d hd => ?_)))
  · rw [evD1_v (d := .int ks.length) (loc_v rfl), Option.bind_some]
    exact it_rg0 (by omega)
  · obtain ⟨x, rfl, q1, q2⟩ := rngD_mem hd
    have hm := mod_nn (x + 1) ks.length (by omega)
    have hmt : ((x + 1) % (ks.length : Int)).toNat < ks.length := by
      generalize (x + 1) % (ks.length : Int) = z at *
      omega
    refine ⟨_, rfl, ?_, loc_v rfl⟩
    exists 901
end L01
end

section
set_option Elab.async false
set_option linter.all false
set_option maxRecDepth 100000
set_option maxHeartbeats 4000000
set_option autoImplicit false
namespace L01
open PySem PySem.Spec L2 Pd Ev
local macro_rules | `(tactic| exists 905) => `(tactic| first | decide | omega | (with_reducible assumption))
local macro_rules | `(tactic| exists 904) => `(tactic| first
  | (with_reducible assumption)
  | ((with_reducible apply q_call); with_reducible assumption)
  | ((with_reducible apply binD_mod); (exists 905))
  | ((with_reducible apply binD_mul); (exists 905); (exists 905))
  | ((with_reducible apply binD_div); (exists 905); (exists 905))
  | ((with_reducible apply subD_l); (exists 905); (exists 905))
  | ((with_reducible apply subD_t); (exists 905); (exists 905))
  | exact rfl
  | decide)
local macro_rules | `(tactic| exists 902) => `(tactic| ((with_reducible apply q_d); (exists 901); (exact rfl)))
local macro_rules | `(tactic| exists 903) => `(tactic| first
  | (with_reducible exact all_n)
  | ((with_reducible apply all_c); (exists 902); (exists 903)))
local macro_rules | `(tactic| exists 901) => `(tactic| first
  | ((with_reducible apply loc_v); exact rfl)
  | (with_reducible exact cst_v _)
  | ((with_reducible apply q_bin); (exists 902); (exists 902); (exists 904))
  | ((with_reducible apply q_sub); (exists 902); (exists 902); (exists 904))
  | ((with_reducible apply q_bi); (exists 903); (exists 904))
  | ((with_reducible apply q_fn); (exists 903); (exists 904))
  | ((with_reducible apply cmp_d); (exists 902); (exists 902); (exists 904))
  | ((with_reducible apply q_not); (exists 901))
  | ((with_reducible apply q_neg); (exists 902); (exact rfl))
  | ((with_reducible apply q_att); (exists 902); (exists 904); (exists 904))
  | ((with_reducible apply q_con); (exact rfl))
  | ((with_reducible apply q_glo); (exact rfl))
  | ((with_reducible apply q_tup); (exists 903); (exact Nat.le_of_ble_eq_true rfl))
  | ((with_reducible apply q_lst); (exists 903); (exact Nat.le_of_ble_eq_true rfl))
  | ((with_reducible apply q_isc); (exists 902); (exists 904))
  | ((with_reducible apply q_inb); (exists 902); (exact rfl); (exists 904))
  | ((with_reducible apply q_chn); (exists 902); (exists 902); (exists 904); (exists 902); (exists 904))
  | ((with_reducible apply q_and); (exists 901); (intro; exists 901))
  | ((with_reducible apply q_or); (exists 901); (intro; exists 901))
  | ((with_reducible apply q_ins); (exists 902); (exists 904))
  | ((with_reducible apply q_mk); (exists 903); (exists 903); (exists 904))
  | ((with_reducible apply q_fnk); (exists 903); (exists 903); (exists 904))
  | ((with_reducible apply q_mth); (exists 902); (exists 904); (exists 904); (exists 903); (exists 903); (exists 904))
  | ((with_reducible apply q_cm); (exists 904); (exists 903); (exists 903); (exists 904))
  | ((with_reducible apply q_lmk); (exact rfl); (exists 904); (exists 903); (exists 904))
  | ((with_reducible apply q_itr); (exists 902); (exists 904); (exists 904))
  | ((with_reducible apply q_rev); (exists 902))
  | ((with_reducible apply q_bm); (exists 902); (exact rfl); (exists 903); (exists 904))
  | ((with_reducible apply q_slc); (exists 902); (exists 908); (exists 908); (exists 904))
  | ((with_reducible apply exa_v); (exact rfl); (exists 904); (exists 904))
  | ((with_reducible apply exi_v); (exact rfl); (exists 904))
  | ((with_reducible apply exb_v); (exact rfl); (exists 904))
  | ((with_reducible apply q_fnT); (exists 903); (exists 904))
  | ((with_reducible apply q_locT); exact rfl)
  | ((with_reducible apply q_locX); (exact rfl); (exact rfl))
  | (with_reducible assumption))
local macro_rules | `(tactic| exists 908) => `(tactic| first
  | (with_reducible exact evO_nil _ _)
  | ((with_reducible apply q_o1); (exists 902)))
local macro_rules | `(tactic| exists 906) => `(tactic| first
  | ((with_reducible apply p_pl); (exists 901))
  | ((with_reducible apply p_fz); (exists 901))
  | ((with_reducible apply p_vw); (exists 901); (exact rfl))
  | ((with_reducible apply p_vo); (exists 901); (exact rfl)))
local macro_rules | `(tactic| exists 907) => `(tactic| first
  | (with_reducible exact s_nil)
  | ((with_reducible apply s_nil'); exact rfl)
  | ((with_reducible apply s_asg); (exists 906); (exact rfl))
  | ((with_reducible apply s_app); (exists 906); (exact rfl); (exact rfl); (exists 905))
  | ((with_reducible apply s_exp); (exists 906))
  | ((with_reducible apply s_ret); (exists 906))
  | ((with_reducible apply s_retn); (exists 906))
  | ((with_reducible apply s_reto); (exact rfl)))
def badK (x : Int) : Bool := !(decide (0 ≤ x) && decide (x ≤ 999))
theorem badK_f {x : Int} : badK x = false ↔ 0 ≤ x ∧ x < 1000 := by
  unfold badK
  by_cases a : 0 ≤ x <;> by_cases b : x ≤ 999 <;> simp [a, b] <;> omega
/-- what a bad row is refused with -/
def dueF (ks : List Int) : Option D := if ks.length < 2 ∨ 24 < ks.length then some .non else ((List.range ks.length).find? fun i => badK (ks.getD i 0)).map fun i => .int (i : Int)
theorem Row.due {ks : List Int} (h : Row ks) : dueF ks = none := by
  unfold dueF
  rw [if_neg (by have := h.lo; have := h.hi; omega)]
  have : ((List.range ks.length).find? fun i => badK (ks.getD i 0)) = none := by
    rw [List.find?_eq_none]
    intro i hi
    have hi := List.mem_range.mp hi
    have := h.inn.at hi
    rw [badK_f.mpr this]
    decide
  rw [this]; rfl
theorem due_row {ks : List Int} (h : dueF ks = none) : Row ks := by
  unfold dueF at h
  split at h
  · cases h
  · next q =>
    have h : ((List.range ks.length).find? fun i => badK (ks.getD i 0)) = none := by
      cases z : (List.range ks.length).find? fun i => badK (ks.getD i 0) with
      | none => rfl
      | some a => rw [z] at h; cases h
    rw [List.find?_eq_none] at h
    refine ⟨by omega, by omega, fun x hx => ?_⟩
    obtain ⟨i, hi, rfl⟩ := List.getElem_of_mem hx
    have z := h i (List.mem_range.mpr hi)
    rw [List.getD_eq_getElem?_getD, List.getElem?_eq_getElem hi] at z
    exact badK_f.mp (by simpa using z)
def inB : List IS := [.ite (.not (.chn .LtE .LtE (.cst (.int 0)) (.loc 3) (.con 0 ("TOP_KIND" : PySem.Str)))) [.raise (.fz [2]) 2 (.loc 2)] []]
theorem in_go (g : Nat → Addr) (cf : Nat → List D → Option RR) (ks : List Int) (fs : List (Str × D)) (x : D) : ∀ (is : List Nat) (x2 x3 : S2), ∃ y2 y3, forGo (put [2, 3]) (fun γ => evSs (wc (Phi1 g) cf) inB γ) (is.map fun (i : Nat) => pD ((i : Int), ks.getD i 0)) [.ob (g 0) fs, .sh x, x2, x3] = match is.find? fun i => badK (ks.getD i 0) with
    | none => some (.nx [.ob (g 0) fs, .sh x, y2, y3])
    | some i => some (.xc (g 2) [("at", .int (i : Int))] [.ob (g 0) fs, .sh x, y2, y3]) := by
  intro is
  induction is with
  | nil => exact fun x2 x3 => ⟨x2, x3, by rw [List.map_nil, forGo_nil]; rfl⟩
  | cons i is ih =>
    intro x2 x3
    rw [List.map_cons]
    have hb : ev (wc (Phi1 g) cf) ([.ob (g 0) fs, .sh x, .sh (.int (i : Int)), .sh (.int (ks.getD i 0))].map S2.vwO) true (.not (.chn .LtE .LtE (.cst (.int 0)) (.loc 3) (.con 0 ("TOP_KIND" : PySem.Str)))) = some (.val (.bl (badK (ks.getD i 0)))) := by
      refine q_be (q := !(decide (0 ≤ ks.getD i 0) && decide (ks.getD i 0 ≤ 999))) ?_ rfl
      exists 901
    by_cases hi : badK (ks.getD i 0) = true
    · refine ⟨.sh (.int (i : Int)), .sh (.int (ks.getD i 0)), ?_⟩
      rw [List.find?_cons_of_pos (p := fun i => badK (ks.getD i 0)) hi]
      dsimp only
      rw [hi] at hb
      exact forGo_xc _ _ _ _ _ _ _ rfl (st_xc ((ite_t hb).trans (st_xc (raise_ (f := "at") (ex_fz (loc_v (d := .int (i : Int)) rfl)) rfl))))
    · have hi : badK (ks.getD i 0) = false := by simpa using hi
      obtain ⟨y2, y3, e⟩ := ih (.sh (.int (i : Int))) (.sh (.int (ks.getD i 0)))
      refine ⟨y2, y3, ?_⟩
      rw [List.find?_cons_of_neg (p := fun i => badK (ks.getD i 0)) (by rw [hi]; decide)]
      refine (forGo_nx _ _ _ _ _ _ _ rfl ?_).trans e
      rw [hi] at hb
      exact (st_nx (ite_f0 hb)).trans (evSs_nil _ _)
def f1 (ks : List Int) : List (Str × D) := [("kinds", .tup (ks.map .int))]
def f2 (ks : List Int) : List (Str × D) := [("kinds", .tup (ks.map .int)), ("size", .int ks.length)]
def f3 (ks : List Int) : List (Str × D) := [("kinds", .tup (ks.map .int)), ("size", .int ks.length), ("unlike_pairs", .int ((brk ks).length : Nat))]
def endU (ks : List Int) : Int := if ks.getD 0 0 ≠ ks.getD (ks.length - 1) 0 then 1 else 0
def f4 (ks : List Int) : List (Str × D) := [("kinds", .tup (ks.map .int)), ("size", .int ks.length), ("unlike_pairs", .int ((brk ks).length : Nat)), ("ends_unlike", .int (endU ks))]
def f5 (ks : List Int) : List (Str × D) := [("kinds", .tup (ks.map .int)), ("size", .int ks.length), ("unlike_pairs", .int ((brk ks).length : Nat)), ("ends_unlike", .int (endU ks)), ("variety", .int ((kinds ks).length : Nat))]
def SO (g : Nat → Addr) (ks : List Int) : D := .obj (g 0) (f5 ks)
/-- a list or a tuple of these numbers -/
structure SqI (X : D) (ks : List Int) : Prop where
  ex : X = .tup (ks.map .int) ∨ X = .lst (ks.map .int)
theorem SqI.len {X : D} {ks : List Int} (h : SqI X ks) : biD .len [X] = some (.val (.int ks.length)) := by
  rcases h.ex with rfl | rfl <;> (show iv ((ks.map D.int).length) = _; rw [List.length_map]; rfl)
theorem SqI.tup {X : D} {ks : List Int} (h : SqI X ks) : biD .tuple [X] = some (.val (.tup (ks.map .int))) := by
  rcases h.ex with rfl | rfl <;> rfl
theorem SqI.lst {X : D} {ks : List Int} (h : SqI X ks) : biD .list [X] = some (.new (ks.map .int)) := by
  rcases h.ex with rfl | rfl <;> rfl
theorem SqI.en {X : D} {ks : List Int} (h : SqI X ks) : itms .en [X] = some (enD (ks.map .int)) := by
  rcases h.ex with rfl | rfl <;> rfl
theorem en_D (ks : List Int) : enD (ks.map D.int) = (List.range ks.length).map fun (i : Nat) => pD ((i : Int), ks.getD i 0) := by
  unfold enD
  rw [List.length_map]
  apply List.map_congr_left
  intro i hi
  have := List.mem_range.mp hi
  show D.tup [.int (i : Int), (ks.map D.int).getD i .non] = _
  rw [List.getD_eq_getElem?_getD, List.getElem?_map, List.getElem?_eq_getElem this]
  show _ = D.tup [.int (i : Int), .int (ks.getD i 0)]
  rw [List.getD_eq_getElem?_getD, List.getElem?_eq_getElem this] <;> rfl
theorem ca_in {g : Nat → Addr} {k : Nat} {ds : List D} : CA g (k + 1) 24 ds = runI (wc (Phi1 g) (CA g k)) ⟨N24, ps24, ir24, some 0⟩ (g 0) ds := rfl
theorem sub_last {ks : List Int} (h : 0 < ks.length) : subD (.tup (ks.map .int)) (.int (-1)) = some (.val (.int (ks.getD (ks.length - 1) 0))) := by
  show (atI (ks.map D.int) (-1)).map RR.val = _
  rw [atI_e _ (by rw [List.length_map]; exact h), Option.map_some, List.getD_eq_getElem?_getD, List.getElem?_eq_getElem (by omega), List.getElem_map]
  simp
theorem fldk (g : Nat → Addr) (cf : Nat → List D → Option RR) (f : Str) (h : f ∈ fldL) : (wc (Phi1 g) cf).fld (g 0) f = true := by
  show ((g 0 == g 0) && fldL.contains f) = true
  rw [List.contains_iff_mem.mpr h]
  simp
theorem runI_xc {Φ : Phi} {e : En} {C CE : Addr} {ds : List D} {γ γ2 : List S2} {fs : List (Str × D)} (h : ds.length + 1 = e.ps.length) (hg : stI e.N C ds = γ) (ho : evSs Φ e.ir γ = some (.xc CE fs γ2)) : runI Φ e C ds = some (.exc CE fs) := by
  unfold runI
  rw [if_pos h, hg, ho, Option.bind_some]
  rfl
end L01
end

section
set_option Elab.async false
set_option linter.all false
set_option maxRecDepth 100000
set_option maxHeartbeats 4000000
set_option autoImplicit false
namespace L01
open PySem PySem.Spec L2 Pd Ev
local macro_rules | `(tactic| exists 905) => `(tactic| first | decide | omega | (with_reducible assumption))
local macro_rules | `(tactic| exists 904) => `(tactic| first
  | (with_reducible assumption)
  | ((with_reducible apply q_call); with_reducible assumption)
  | ((with_reducible apply binD_mod); (exists 905))
  | ((with_reducible apply binD_mul); (exists 905); (exists 905))
  | ((with_reducible apply binD_div); (exists 905); (exists 905))
  | ((with_reducible apply subD_l); (exists 905); (exists 905))
  | ((with_reducible apply subD_t); (exists 905); (exists 905))
  | exact rfl
  | decide)
local macro_rules | `(tactic| exists 902) => `(tactic| ((with_reducible apply q_d); (exists 901); (exact rfl)))
local macro_rules | `(tactic| exists 903) => `(tactic| first
  | (with_reducible exact all_n)
  | ((with_reducible apply all_c); (exists 902); (exists 903)))
local macro_rules | `(tactic| exists 901) => `(tactic| first
  | ((with_reducible apply loc_v); exact rfl)
  | (with_reducible exact cst_v _)
  | ((with_reducible apply q_bin); (exists 902); (exists 902); (exists 904))
  | ((with_reducible apply q_sub); (exists 902); (exists 902); (exists 904))
  | ((with_reducible apply q_bi); (exists 903); (exists 904))
  | ((with_reducible apply q_fn); (exists 903); (exists 904))
  | ((with_reducible apply cmp_d); (exists 902); (exists 902); (exists 904))
  | ((with_reducible apply q_not); (exists 901))
  | ((with_reducible apply q_neg); (exists 902); (exact rfl))
  | ((with_reducible apply q_att); (exists 902); (exists 904); (exists 904))
  | ((with_reducible apply q_con); (exact rfl))
  | ((with_reducible apply q_glo); (exact rfl))
  | ((with_reducible apply q_tup); (exists 903); (exact Nat.le_of_ble_eq_true rfl))
  | ((with_reducible apply q_lst); (exists 903); (exact Nat.le_of_ble_eq_true rfl))
  | ((with_reducible apply q_isc); (exists 902); (exists 904))
  | ((with_reducible apply q_inb); (exists 902); (exact rfl); (exists 904))
  | ((with_reducible apply q_chn); (exists 902); (exists 902); (exists 904); (exists 902); (exists 904))
  | ((with_reducible apply q_and); (exists 901); (intro; exists 901))
  | ((with_reducible apply q_or); (exists 901); (intro; exists 901))
  | ((with_reducible apply q_ins); (exists 902); (exists 904))
  | ((with_reducible apply q_mk); (exists 903); (exists 903); (exists 904))
  | ((with_reducible apply q_fnk); (exists 903); (exists 903); (exists 904))
  | ((with_reducible apply q_mth); (exists 902); (exists 904); (exists 904); (exists 903); (exists 903); (exists 904))
  | ((with_reducible apply q_cm); (exists 904); (exists 903); (exists 903); (exists 904))
  | ((with_reducible apply q_lmk); (exact rfl); (exists 904); (exists 903); (exists 904))
  | ((with_reducible apply q_itr); (exists 902); (exists 904); (exists 904))
  | ((with_reducible apply q_rev); (exists 902))
  | ((with_reducible apply q_bm); (exists 902); (exact rfl); (exists 903); (exists 904))
  | ((with_reducible apply q_slc); (exists 902); (exists 908); (exists 908); (exists 904))
  | ((with_reducible apply exa_v); (exact rfl); (exists 904); (exists 904))
  | ((with_reducible apply exi_v); (exact rfl); (exists 904))
  | ((with_reducible apply exb_v); (exact rfl); (exists 904))
  | ((with_reducible apply q_fnT); (exists 903); (exists 904))
  | ((with_reducible apply q_locT); exact rfl)
  | ((with_reducible apply q_locX); (exact rfl); (exact rfl))
  | (with_reducible assumption))
local macro_rules | `(tactic| exists 908) => `(tactic| first
  | (with_reducible exact evO_nil _ _)
  | ((with_reducible apply q_o1); (exists 902)))
local macro_rules | `(tactic| exists 906) => `(tactic| first
  | ((with_reducible apply p_pl); (exists 901))
  | ((with_reducible apply p_fz); (exists 901))
  | ((with_reducible apply p_vw); (exists 901); (exact rfl))
  | ((with_reducible apply p_vo); (exists 901); (exact rfl)))
local macro_rules | `(tactic| exists 907) => `(tactic| first
  | (with_reducible exact s_nil)
  | ((with_reducible apply s_nil'); exact rfl)
  | ((with_reducible apply s_asg); (exists 906); (exact rfl))
  | ((with_reducible apply s_app); (exists 906); (exact rfl); (exact rfl); (exists 905))
  | ((with_reducible apply s_exp); (exists 906))
  | ((with_reducible apply s_ret); (exists 906))
  | ((with_reducible apply s_retn); (exists 906))
  | ((with_reducible apply s_reto); (exact rfl)))
theorem len_tI (ks : List Int) : biD .len [.tup (ks.map .int)] = some (.val (.int ks.length)) := SqI.len ⟨.inl rfl⟩
theorem len_lI (ks : List Int) : biD .len [.lst (ks.map .int)] = some (.val (.int ks.length)) := SqI.len ⟨.inr rfl⟩
theorem kinds_len (ks : List Int) (h : ks.length ≤ 24) : biD .lset [.tup (ks.map .int)] = some (.val (.int ((kinds ks).length : Nat))) := by
  show (ints? (ks.map D.int)).bind _ = _
  rw [ints_map, Option.bind_some]
  exact if_pos (by omega)
theorem e_init (g : Nat → Addr) (k : Nat) (ks : List Int) (hr : Row ks) (X : D) (hX : SqI X ks) : CA g (k + 2) 24 [X] = some (.val (SO g ks)) := by
  have h1 := hr.lo
  have h2 := hr.hi
  have hd := hr.due
  unfold dueF at hd
  rw [if_neg (by omega)] at hd
  have hd : ((List.range ks.length).find? fun i => badK (ks.getD i 0)) = none := by
    cases z : (List.range ks.length).find? fun i => badK (ks.getD i 0) with
    | none => rfl
    | some a => rw [z] at hd; cases hd
  have hu := e_unlike g k ks h1 h2
  rw [ca_in]
  generalize CA g (k + 1) = cf at *
  obtain ⟨y2, y3, e⟩ := in_go g cf ks [] X (List.range ks.length) .no .no
  rw [hd] at e
  dsimp only at e
  rw [← en_D] at e
  refine runI_eq (γ := [.ob (g 0) [], .sh X, .no, .no]) (γ2 := [.ob (g 0) (f5 ks), .sh X, y2, y3]) rfl rfl ?_ rfl
  have a1 := hX.len
  have a2 := hX.tup
  have a3 := hX.en
  have b1 := len_tI ks
  have b2 := kinds_len ks h2
  have b3 := sub_last (ks := ks) (by omega)
  have b4 : subD (.tup (ks.map .int)) (.int 0) = some (.val (.int (ks.getD 0 0))) := subD_t (by decide) (by show 0 < _; omega)
  have b5 : biD .len [.lst (nI (brk ks))] = some (.val (.int ((brk ks).length : Nat))) := by
    show iv ((nI (brk ks)).length) = _
    unfold nI
    rw [List.length_map]; rfl
  have fk := fldk g cf "kinds" (by decide +kernel)
  unfold ir24
  apply s_iteF0
  · exists 901
  · rw [decide_eq_true (show (2 : Int) ≤ ks.length by omega), decide_eq_true (show (ks.length : Int) ≤ 24 by omega)]
    rfl
  refine (st_nx ((for1 (body := inB) (items := enD (ks.map .int)) (loc_v (d := X) rfl) a3).trans e)).trans ?_
  refine (st_nx (γ2 := [.ob (g 0) (f1 ks), .sh X, y2, y3]) (fld_v (f := "kinds") (C := g 0) (fs := []) (ex_pl (bi1_v (loc_v (d := X) rfl) a2)) rfl (by decide) fk)).trans ?_
  refine (st_nx (γ2 := [.ob (g 0) (f2 ks), .sh X, y2, y3]) (fld_v (f := "size") (C := g 0) (fs := f1 ks) (ex_vo (x := .val (.int ks.length)) (by exists 901) rfl) rfl (by show 1 < 1000; decide) (fldk g cf _ (by decide +kernel)))).trans ?_
  refine (st_nx (γ2 := [.ob (g 0) (f3 ks), .sh X, y2, y3]) (fld_v (f := "unlike_pairs") (C := g 0) (fs := f2 ks) (ex_vo (x := .val (.int ((brk ks).length : Nat))) (by exists 901) rfl) rfl (by show 2 < 1000; decide) (fldk g cf _ (by decide +kernel)))).trans ?_
  have cmp : ∀ (γ : List S2) (t : Bool), γ[0]? = some (.sh (.obj (g 0) (f3 ks))) → ev (wc (Phi1 g) cf) γ t (.cmp .NotEq (.sub (.att (.loc 0) ("kinds" : PySem.Str)) (.cst (.int 0))) (.sub (.att (.loc 0) ("kinds" : PySem.Str)) (.neg (.cst (.int 1))))) = some (.val (.bl (!decide (ks.getD 0 0 = ks.getD (ks.length - 1) 0)))) := fun γ t h => by
    have hl : ev (wc (Phi1 g) cf) γ false (.loc 0) = some (.val (.obj (g 0) (f3 ks))) := loc_v h
    exists 901
  refine (st_nx (γ2 := [.ob (g 0) (f4 ks), .sh X, y2, y3]) (fld_v (f := "ends_unlike") (C := g 0) (fs := f3 ks) (d := .int (endU ks)) (ex_vo ?_ rfl) rfl (by show 3 < 1000; decide) (fldk g cf _ (by decide +kernel)))).trans ?_
  · unfold endU
    by_cases q : ks.getD 0 0 = ks.getD (ks.length - 1) 0
    · rw [if_neg (fun z => z q)]
      exact ife_f ((cmp _ true rfl).trans (by rw [decide_eq_true q] <;> rfl)) (cst_v _)
    · rw [if_pos q]
      exact ife_t ((cmp _ true rfl).trans (by rw [decide_eq_false q] <;> rfl)) (cst_v _)
  · refine (st_nx (fld_v (f := "variety") (C := g 0) (fs := f4 ks) (ex_vo (x := .val (.int ((kinds ks).length : Nat))) (by exists 901) rfl) rfl (by show 4 < 1000; decide) (fldk g cf _ (by decide +kernel)))).trans ?_
    rw [evSs_nil]
    rfl
theorem e_init_bad (g : Nat → Addr) (k : Nat) (ks : List Int) (d : D) (hd : dueF ks = some d) (X : D) (hX : SqI X ks) : CA g (k + 1) 24 [X] = some (.exc (g 2) [("at", d)]) := by
  rw [ca_in]
  generalize CA g k = cf at *
  have a1 := hX.len
  have a3 := hX.en
  unfold dueF at hd
  split at hd
  · next q =>
    cases hd
    refine runI_xc (γ := [.ob (g 0) [], .sh X, .no, .no]) (γ2 := [.ob (g 0) [], .sh X, .no, .no]) rfl rfl ?_
    unfold ir24
    refine st_xc ((ite_t ?_).trans (st_xc (raise_ (f := "at") (ex_pl (cst_v _)) rfl)))
    apply q_be
    exists 901
    by_cases z : (2 : Int) ≤ ks.length
    · rw [decide_eq_true z, decide_eq_false (show ¬ (ks.length : Int) ≤ 24 by omega)]
      rfl
    · rw [decide_eq_false z]
      rfl
  · next q =>
    obtain ⟨y2, y3, e⟩ := in_go g cf ks [] X (List.range ks.length) .no .no
    cases z : (List.range ks.length).find? fun i => badK (ks.getD i 0) with
    | none => rw [z] at hd; cases hd
    | some i =>
      rw [z] at hd e
      cases hd
      dsimp only at e
      rw [← en_D] at e
      refine runI_xc (γ := [.ob (g 0) [], .sh X, .no, .no]) (γ2 := [.ob (g 0) [], .sh X, y2, y3]) rfl rfl ?_
      unfold ir24
      apply s_iteF0
      · exists 901
      · rw [decide_eq_true (show (2 : Int) ≤ ks.length by omega), decide_eq_true (show (ks.length : Int) ≤ 24 by omega)]
        rfl
      exact st_xc ((for1 (body := inB) (items := enD (ks.map .int)) (loc_v (d := X) rfl) a3).trans e)
end L01
end

section
set_option Elab.async false
set_option linter.all false
set_option maxRecDepth 100000
set_option maxHeartbeats 4000000
set_option autoImplicit false
namespace L01
open PySem PySem.Spec L2 Pd Ev
local macro_rules | `(tactic| exists 905) => `(tactic| first | decide | omega | (with_reducible assumption))
local macro_rules | `(tactic| exists 904) => `(tactic| first
  | (with_reducible assumption)
  | ((with_reducible apply q_call); with_reducible assumption)
  | ((with_reducible apply binD_mod); (exists 905))
  | ((with_reducible apply binD_mul); (exists 905); (exists 905))
  | ((with_reducible apply binD_div); (exists 905); (exists 905))
  | ((with_reducible apply subD_l); (exists 905); (exists 905))
  | ((with_reducible apply subD_t); (exists 905); (exists 905))
  | exact rfl
  | decide)
local macro_rules | `(tactic| exists 902) => `(tactic| ((with_reducible apply q_d); (exists 901); (exact rfl)))
local macro_rules | `(tactic| exists 903) => `(tactic| first
  | (with_reducible exact all_n)
  | ((with_reducible apply all_c); (exists 902); (exists 903)))
local macro_rules | `(tactic| exists 901) => `(tactic| first
  | ((with_reducible apply loc_v); exact rfl)
  | (with_reducible exact cst_v _)
  | ((with_reducible apply q_bin); (exists 902); (exists 902); (exists 904))
  | ((with_reducible apply q_sub); (exists 902); (exists 902); (exists 904))
  | ((with_reducible apply q_bi); (exists 903); (exists 904))
  | ((with_reducible apply q_fn); (exists 903); (exists 904))
  | ((with_reducible apply cmp_d); (exists 902); (exists 902); (exists 904))
  | ((with_reducible apply q_not); (exists 901))
  | ((with_reducible apply q_neg); (exists 902); (exact rfl))
  | ((with_reducible apply q_att); (exists 902); (exists 904); (exists 904))
  | ((with_reducible apply q_con); (exact rfl))
  | ((with_reducible apply q_glo); (exact rfl))
  | ((with_reducible apply q_tup); (exists 903); (exact Nat.le_of_ble_eq_true rfl))
  | ((with_reducible apply q_lst); (exists 903); (exact Nat.le_of_ble_eq_true rfl))
  | ((with_reducible apply q_isc); (exists 902); (exists 904))
  | ((with_reducible apply q_inb); (exists 902); (exact rfl); (exists 904))
  | ((with_reducible apply q_chn); (exists 902); (exists 902); (exists 904); (exists 902); (exists 904))
  | ((with_reducible apply q_and); (exists 901); (intro; exists 901))
  | ((with_reducible apply q_or); (exists 901); (intro; exists 901))
  | ((with_reducible apply q_ins); (exists 902); (exists 904))
  | ((with_reducible apply q_mk); (exists 903); (exists 903); (exists 904))
  | ((with_reducible apply q_fnk); (exists 903); (exists 903); (exists 904))
  | ((with_reducible apply q_mth); (exists 902); (exists 904); (exists 904); (exists 903); (exists 903); (exists 904))
  | ((with_reducible apply q_cm); (exists 904); (exists 903); (exists 903); (exists 904))
  | ((with_reducible apply q_lmk); (exact rfl); (exists 904); (exists 903); (exists 904))
  | ((with_reducible apply q_itr); (exists 902); (exists 904); (exists 904))
  | ((with_reducible apply q_rev); (exists 902))
  | ((with_reducible apply q_bm); (exists 902); (exact rfl); (exists 903); (exists 904))
  | ((with_reducible apply q_slc); (exists 902); (exists 908); (exists 908); (exists 904))
  | ((with_reducible apply exa_v); (exact rfl); (exists 904); (exists 904))
  | ((with_reducible apply exi_v); (exact rfl); (exists 904))
  | ((with_reducible apply exb_v); (exact rfl); (exists 904))
  | ((with_reducible apply q_fnT); (exists 903); (exists 904))
  | ((with_reducible apply q_locT); exact rfl)
  | ((with_reducible apply q_locX); (exact rfl); (exact rfl))
  | (with_reducible assumption))
local macro_rules | `(tactic| exists 908) => `(tactic| first
  | (with_reducible exact evO_nil _ _)
  | ((with_reducible apply q_o1); (exists 902)))
local macro_rules | `(tactic| exists 906) => `(tactic| first
  | ((with_reducible apply p_pl); (exists 901))
  | ((with_reducible apply p_fz); (exists 901))
  | ((with_reducible apply p_vw); (exists 901); (exact rfl))
  | ((with_reducible apply p_vo); (exists 901); (exact rfl)))
local macro_rules | `(tactic| exists 907) => `(tactic| first
  | (with_reducible exact s_nil)
  | ((with_reducible apply s_nil'); exact rfl)
  | ((with_reducible apply s_asg); (exists 906); (exact rfl))
  | ((with_reducible apply s_app); (exists 906); (exact rfl); (exact rfl); (exists 905))
  | ((with_reducible apply s_exp); (exists 906))
  | ((with_reducible apply s_ret); (exists 906))
  | ((with_reducible apply s_retn); (exists 906))
  | ((with_reducible apply s_reto); (exact rfl)))
/-- def 0: check_bead -/
theorem e_check (g : Nat → Addr) (k : Nat) (b n : Int) (h : 0 ≤ b ∧ b < n) : CA g (k + 1) 0 [.int b, .int n] = some (.val .non) := by
  rw [ca_0]
  generalize CA g k = cf at *
  refine runF_eq (γ := [.sh (.int b), .sh (.int n)]) (o := .nx [.sh (.int b), .sh (.int n)]) rfl rfl ?_ rfl
  unfold ir0
  apply s_iteF0
  · exists 901
  · rw [decide_eq_true h.1, decide_eq_true h.2]; rfl
  · exists 907
theorem e_check_bad (g : Nat → Addr) (k : Nat) (b n : Int) (h : ¬ (0 ≤ b ∧ b < n)) : CA g (k + 1) 0 [.int b, .int n] = some (.exc (g 3) [("bead", .int b)]) := by
  rw [ca_0]
  generalize CA g k = cf at *
  refine runF_eq (γ := [.sh (.int b), .sh (.int n)]) (o := .xc (g 3) [("bead", .int b)] [.sh (.int b), .sh (.int n)]) rfl rfl ?_ rfl
  unfold ir0
  refine st_xc ((ite_t ?_).trans (st_xc (raise_ (f := "bead") (ex_pl (loc_v (d := .int b) rfl)) rfl)))
  apply q_be
  exists 901
  by_cases z : 0 ≤ b
  · rw [decide_eq_true z, decide_eq_false (show ¬ b < n by omega)]; rfl
  · rw [decide_eq_false z]; rfl
/-- def 25: from_letters -/
def letD : D → D
  | .str s => match s.cps.toList with
    | [c] => .int (letK c)
    | _ => .non
  | d => d
theorem e_letters (g : Nat → Addr) (k : Nat) (cs : List Nat) (hc : cs.length ≤ 300) (r : RR) (hi : CA g (k + 1) 24 [.lst ((cs.map letK).map .int)] = some r) : CA g (k + 2) 25 [.adr (g 0), .str ⟨cs.toArray⟩] = some r := by
  rw [ca_25]
  have hl : ∀ c, CA g (k + 1) 1 [chD c] = some (.val (.int (letK c))) := fun c => e_letter g k c
  generalize CA g (k + 1) = cf at *
  have hlc : ev (wc (Phi1 g) cf) (frz [.sh (.adr (g 0)), .sh (.str ⟨cs.toArray⟩), .no] [2]) false (.lc (.fn 1 [(.loc 2)]) [2] .vl [(.loc 1)] []) = some (.new ((cs.map letK).map .int)) := by
    have z := lc_map (Φ := wc (Phi1 g) cf) (γ := frz [.sh (.adr (g 0)), .sh (.str ⟨cs.toArray⟩), .no] [2]) (elt := .fn 1 [(.loc 2)]) (tg := [2]) (k := .vl) (its := [.loc 1]) (items := cs.map chD) (f := letD) (by
      rw [evD1_v (d := .str ⟨cs.toArray⟩) (loc_v rfl), Option.bind_some]
      rfl) (by rw [List.length_map]; omega) fun d hd => by
        obtain ⟨c, _, rfl⟩ := List.mem_map.mp hd
        refine ⟨_, rfl, ?_⟩
        have := hl c
        show ev _ _ false _ = some (.val (.int (letK c)))
        have hq : ev (wc (Phi1 g) cf) ((blk (frz [.sh (.adr (g 0)), .sh (.str ⟨cs.toArray⟩), .no] [2]) [2]).set 2 (.sh (chD c))) false (.loc 2) = some (.val (chD c)) := loc_v rfl
        exact (fn_1 hq).trans this
    rw [z, List.map_map, List.map_map]
    rfl
  refine runF_eq (γ := [.sh (.adr (g 0)), .sh (.str ⟨cs.toArray⟩), .no]) (o := match r with
    | .val d => .rt d
    | .new ds => .rn ds
    | .exc C fs => .xc C fs (frz [.sh (.adr (g 0)), .sh (.str ⟨cs.toArray⟩), .no] [2])) rfl rfl ?_ (by cases r <;> rfl)
  unfold ir25
  have hm : ev (wc (Phi1 g) cf) (frz [.sh (.adr (g 0)), .sh (.str ⟨cs.toArray⟩), .no] [2]) false (.lmk 0 [(.lc (.fn 1 [(.loc 2)]) [2] .vl [(.loc 1)] [])]) = some r := by
    refine q_lmk (C := g 0) (f := 24) rfl ?_ (all_c (dn hlc) all_n) hi
    show (if g 0 = g 0 then some 24 else none) = some 24
    rw [if_pos rfl]
  cases r with
  | val d => exact st_rt (ret_v (ex_fz hm))
  | new ds => exact st_rn (ret_n (ex_fz hm))
  | exc C fs => exact st_xc (ret_x (ex_fz hm))
end L01
end

section
set_option Elab.async false
set_option linter.all false
set_option maxRecDepth 100000
set_option maxHeartbeats 4000000
set_option autoImplicit false
namespace L01
open PySem PySem.Spec L2 Pd Ev
local macro_rules | `(tactic| exists 905) => `(tactic| first | decide | omega | (with_reducible assumption))
local macro_rules | `(tactic| exists 904) => `(tactic| first
  | (with_reducible assumption)
  | ((with_reducible apply q_call); with_reducible assumption)
  | ((with_reducible apply binD_mod); (exists 905))
  | ((with_reducible apply binD_mul); (exists 905); (exists 905))
  | ((with_reducible apply binD_div); (exists 905); (exists 905))
  | ((with_reducible apply subD_l); (exists 905); (exists 905))
  | ((with_reducible apply subD_t); (exists 905); (exists 905))
  | exact rfl
  | decide)
local macro_rules | `(tactic| exists 902) => `(tactic| ((with_reducible apply q_d); (exists 901); (exact rfl)))
local macro_rules | `(tactic| exists 903) => `(tactic| first
  | (with_reducible exact all_n)
  | ((with_reducible apply all_c); (exists 902); (exists 903)))
local macro_rules | `(tactic| exists 901) => `(tactic| first
  | ((with_reducible apply loc_v); exact rfl)
  | (with_reducible exact cst_v _)
  | ((with_reducible apply q_bin); (exists 902); (exists 902); (exists 904))
  | ((with_reducible apply q_sub); (exists 902); (exists 902); (exists 904))
  | ((with_reducible apply q_bi); (exists 903); (exists 904))
  | ((with_reducible apply q_fn); (exists 903); (exists 904))
  | ((with_reducible apply cmp_d); (exists 902); (exists 902); (exists 904))
  | ((with_reducible apply q_not); (exists 901))
  | ((with_reducible apply q_neg); (exists 902); (exact rfl))
  | ((with_reducible apply q_att); (exists 902); (exists 904); (exists 904))
  | ((with_reducible apply q_con); (exact rfl))
  | ((with_reducible apply q_glo); (exact rfl))
  | ((with_reducible apply q_tup); (exists 903); (exact Nat.le_of_ble_eq_true rfl))
  | ((with_reducible apply q_lst); (exists 903); (exact Nat.le_of_ble_eq_true rfl))
  | ((with_reducible apply q_isc); (exists 902); (exists 904))
  | ((with_reducible apply q_inb); (exists 902); (exact rfl); (exists 904))
  | ((with_reducible apply q_chn); (exists 902); (exists 902); (exists 904); (exists 902); (exists 904))
  | ((with_reducible apply q_and); (exists 901); (intro; exists 901))
  | ((with_reducible apply q_or); (exists 901); (intro; exists 901))
  | ((with_reducible apply q_ins); (exists 902); (exists 904))
  | ((with_reducible apply q_mk); (exists 903); (exists 903); (exists 904))
  | ((with_reducible apply q_fnk); (exists 903); (exists 903); (exists 904))
  | ((with_reducible apply q_mth); (exists 902); (exists 904); (exists 904); (exists 903); (exists 903); (exists 904))
  | ((with_reducible apply q_cm); (exists 904); (exists 903); (exists 903); (exists 904))
  | ((with_reducible apply q_lmk); (exact rfl); (exists 904); (exists 903); (exists 904))
  | ((with_reducible apply q_itr); (exists 902); (exists 904); (exists 904))
  | ((with_reducible apply q_rev); (exists 902))
  | ((with_reducible apply q_bm); (exists 902); (exact rfl); (exists 903); (exists 904))
  | ((with_reducible apply q_slc); (exists 902); (exists 908); (exists 908); (exists 904))
  | ((with_reducible apply exa_v); (exact rfl); (exists 904); (exists 904))
  | ((with_reducible apply exi_v); (exact rfl); (exists 904))
  | ((with_reducible apply exb_v); (exact rfl); (exists 904))
  | ((with_reducible apply q_fnT); (exists 903); (exists 904))
  | ((with_reducible apply q_locT); exact rfl)
  | ((with_reducible apply q_locX); (exact rfl); (exact rfl))
  | (with_reducible assumption))
local macro_rules | `(tactic| exists 908) => `(tactic| first
  | (with_reducible exact evO_nil _ _)
  | ((with_reducible apply q_o1); (exists 902)))
local macro_rules | `(tactic| exists 906) => `(tactic| first
  | ((with_reducible apply p_pl); (exists 901))
  | ((with_reducible apply p_fz); (exists 901))
  | ((with_reducible apply p_vw); (exists 901); (exact rfl))
  | ((with_reducible apply p_vo); (exists 901); (exact rfl)))
local macro_rules | `(tactic| exists 907) => `(tactic| first
  | (with_reducible exact s_nil)
  | ((with_reducible apply s_nil'); exact rfl)
  | ((with_reducible apply s_asg); (exists 906); (exact rfl))
  | ((with_reducible apply s_app); (exists 906); (exact rfl); (exact rfl); (exists 905))
  | ((with_reducible apply s_exp); (exists 906))
  | ((with_reducible apply s_ret); (exists 906))
  | ((with_reducible apply s_retn); (exists 906))
  | ((with_reducible apply s_reto); (exact rfl)))
/-- def 27: mirrored -/
theorem e_mirrored (g : Nat → Addr) (k : Nat) (ks : List Int) (hr : Row ks) : CA g (k + 3) 27 [SO g ks] = some (.val (SO g ks.reverse)) := by
  have hi := e_init g k ks.reverse ⟨by rw [List.length_reverse]; exact hr.lo, by rw [List.length_reverse]; exact hr.hi, fun x hx => hr.inn x (List.mem_reverse.mp hx)⟩ (.tup (ks.reverse.map .int)) ⟨.inl rfl⟩
  rw [ca_27]
  generalize CA g (k + 2) = cf at *
  refine runF_eq (γ := [.sh (SO g ks)]) (o := .rt (SO g ks.reverse)) rfl rfl ?_ rfl
  have fk := fldk g cf "kinds" (by decide +kernel)
  unfold ir27
  have hk : ev (wc (Phi1 g) cf) [.sh (SO g ks)] false (.att (.loc 0) ("kinds" : PySem.Str)) = some (.val (.tup (ks.map .int))) := att_v (loc_v rfl) fk (lkK _ _)
  have hv : ev (wc (Phi1 g) cf) [.sh (SO g ks)] false (.rev (.att (.loc 0) ("kinds" : PySem.Str))) = some (.val (.tup (ks.reverse.map .int))) := by
    rw [ev_rev, hk, and_val, tst_f, List.map_reverse]
  exact st_rt (ret_v (ex_pl (q_mk (all_c (dv hv) all_n) all_n hi)))
theorem row_turn {ks : List Int} (hr : Row ks) (b : Nat) (hb : b ≤ ks.length) : Row (ks.drop b ++ ks.take b) := by
  have h1 := hr.lo
  have h2 := hr.hi
  have e : (ks.drop b ++ ks.take b).length = ks.length := by rw [List.length_append, List.length_drop, List.length_take]; omega
  exact ⟨by omega, by omega, fun x hx => hr.inn x (by
    rcases List.mem_append.mp hx with h | h
    · exact List.mem_of_mem_drop h
    · exact List.mem_of_mem_take h)⟩
/-- def 28: turned -/
theorem e_turned (g : Nat → Addr) (k : Nat) (ks : List Int) (hr : Row ks) (b : Nat) (hb : b < ks.length) : CA g (k + 3) 28 [SO g ks, .int (b : Int)] = some (.val (SO g (ks.drop b ++ ks.take b))) := by
  have h2 := hr.hi
  have hi := e_init g k (ks.drop b ++ ks.take b) (row_turn hr b (by omega)) (.tup ((ks.drop b ++ ks.take b).map .int)) ⟨.inl rfl⟩
  have hc := e_check g (k + 1) b ks.length ⟨by omega, by omega⟩
  rw [ca_28]
  generalize CA g (k + 2) = cf at *
  refine runF_eq (γ := [.sh (SO g ks), .sh (.int (b : Int))]) (o := .rt (SO g (ks.drop b ++ ks.take b))) rfl rfl ?_ rfl
  unfold ir28
  have hk : ev (wc (Phi1 g) cf) [.sh (SO g ks), .sh (.int (b : Int))] false (.att (.loc 0) ("kinds" : PySem.Str)) = some (.val (.tup (ks.map .int))) := att_v (loc_v rfl) (fldk g cf "kinds" (by decide +kernel)) (lkK _ _)
  have hs : ev (wc (Phi1 g) cf) [.sh (SO g ks), .sh (.int (b : Int))] false (.att (.loc 0) ("size" : PySem.Str)) = some (.val (.int ks.length)) := att_v (loc_v rfl) (fldk g cf "size" (by decide +kernel)) (by rfl)
  refine (st_nx (exp_v (d := .non) (ex_pl (q_fn (all_c (dv (loc_v (d := .int (b : Int)) rfl)) (all_c (dv hs) all_n)) hc)))).trans ?_
  have s1 : slcD (.tup (ks.map .int)) (some (b : Int)) none = some (.val (.tup ((ks.map .int).drop b))) := by
    show some (RR.val (.tup (cutD (ks.map .int) (some (b : Int)) none))) = _
    rw [cut_hi _ _ (by rw [List.length_map]; omega)]
  have s2 : slcD (.tup (ks.map .int)) none (some (b : Int)) = some (.val (.tup ((ks.map .int).take b))) := by
    show some (RR.val (.tup (cutD (ks.map .int) none (some (b : Int))))) = _
    rw [cut_lo _ _ (by rw [List.length_map]; omega)]
  have ad : binD .Add (.tup ((ks.map .int).drop b)) (.tup ((ks.map .int).take b)) = some (.val (.tup ((ks.drop b ++ ks.take b).map .int))) := by
    rw [List.map_append, List.map_drop, List.map_take]
    exact if_pos (by rw [List.length_drop, List.length_take, List.length_map]; omega)
  have hv : ev (wc (Phi1 g) cf) [.sh (SO g ks), .sh (.int (b : Int))] false (.bin .Add (.slc (.att (.loc 0) ("kinds" : PySem.Str)) [(.loc 1)] []) (.slc (.att (.loc 0) ("kinds" : PySem.Str)) [] [(.loc 1)])) = some (.val (.tup ((ks.drop b ++ ks.take b).map .int))) :=
    q_bin (dv (q_slc (dv hk) (q_o1 (dv (loc_v rfl))) (evO_nil _ _) s1)) (dv (q_slc (dv hk) (evO_nil _ _) (q_o1 (dv (loc_v rfl))) s2)) ad
  exact st_rt (ret_v (ex_pl (q_mk (all_c (dv hv) all_n) all_n hi)))
theorem e_turned_bad (g : Nat → Addr) (k : Nat) (ks : List Int) (b : Int) (hb : ¬ (0 ≤ b ∧ b < ks.length)) : CA g (k + 2) 28 [SO g ks, .int b] = some (.exc (g 3) [("bead", .int b)]) := by
  have hc := e_check_bad g k b ks.length hb
  rw [ca_28]
  generalize CA g (k + 1) = cf at *
  refine runF_eq (γ := [.sh (SO g ks), .sh (.int b)]) (o := .xc (g 3) [("bead", .int b)] [.sh (SO g ks), .sh (.int b)]) rfl rfl ?_ rfl
  unfold ir28
  have hs : ev (wc (Phi1 g) cf) [.sh (SO g ks), .sh (.int b)] false (.att (.loc 0) ("size" : PySem.Str)) = some (.val (.int ks.length)) := att_v (loc_v rfl) (fldk g cf "size" (by decide +kernel)) (by rfl)
  exact st_xc (exp_x (ex_pl (q_fn (all_c (dv (loc_v (d := .int b) rfl)) (all_c (dv hs) all_n)) hc)))
/-- def 13: what is due -/
def dueD (ks : List Int) : D := match dueF ks with
  | none => .non
  | some d => .tup [.str "BadStrand", d]
def duB : List IS := [.ite (.or (.cmp .Lt (.sub (.loc 0) (.loc 1)) (.cst (.int 0))) (.cmp .Gt (.sub (.loc 0) (.loc 1)) (.cst (.int 999)))) [.ret (.fz [1]) (.tup [(.cst (.str ("BadStrand" : PySem.Str))), (.loc 1)])] []]
theorem du_go (Φ : Phi) (ks : List Int) : ∀ (is : List Nat), (∀ i ∈ is, i < ks.length) → ∀ (x1 : S2), ∃ y1, forGo (put [1]) (fun γ => evSs Φ duB γ) (is.map fun (i : Nat) => D.int (i : Int)) [.sh (.lst (ks.map .int)), x1] = match is.find? fun i => badK (ks.getD i 0) with
    | none => some (.nx [.sh (.lst (ks.map .int)), y1])
    | some i => some (.rt (.tup [.str "BadStrand", .int (i : Int)])) := by
  intro is
  induction is with
  | nil => exact fun _ x1 => ⟨x1, by rw [List.map_nil, forGo_nil]; rfl⟩
  | cons i is ih =>
    intro hh x1
    have hi := hh i (List.mem_cons_self ..)
    rw [List.map_cons]
    have hsb : subD (.lst (ks.map .int)) (.int (i : Int)) = some (.val (.int (ks.getD i 0))) := by
      have z := subD_l (xs := ks) (n := (i : Int)) (by omega) (by rw [Int.toNat_natCast]; exact hi)
      rw [Int.toNat_natCast] at z
      exact z
    have hb : ev Φ ([.sh (.lst (ks.map .int)), .sh (.int (i : Int))].map S2.vwO) true (.or (.cmp .Lt (.sub (.loc 0) (.loc 1)) (.cst (.int 0))) (.cmp .Gt (.sub (.loc 0) (.loc 1)) (.cst (.int 999)))) = some (.val (.bl (badK (ks.getD i 0)))) := by
      apply q_be
      exists 901
      generalize ks.getD i 0 = z
      unfold badK
      by_cases a : z < 0 <;> by_cases b : 999 < z <;> simp [a, b] <;> omega
    by_cases hq : badK (ks.getD i 0) = true
    · refine ⟨x1, ?_⟩
      rw [List.find?_cons_of_pos (p := fun i => badK (ks.getD i 0)) hq]
      dsimp only
      rw [hq] at hb
      refine forGo_rt _ _ _ _ _ _ rfl (st_rt ((ite_t hb).trans ?_))
      exists 907
    · have hq : badK (ks.getD i 0) = false := by simpa using hq
      obtain ⟨y1, e⟩ := ih (fun q hq => hh q (List.mem_cons_of_mem _ hq)) (.sh (.int (i : Int)))
      refine ⟨y1, ?_⟩
      rw [List.find?_cons_of_neg (p := fun i => badK (ks.getD i 0)) (by rw [hq]; decide)]
      refine (forGo_nx _ _ _ _ _ _ _ rfl ?_).trans e
      rw [hq] at hb
      exact (st_nx (ite_f0 hb)).trans (evSs_nil _ _)
theorem e_due (g : Nat → Addr) (k : Nat) (ks : List Int) (h3 : ks.length ≤ 300) : CA g (k + 1) 13 [.lst (ks.map .int)] = some (.val (dueD ks)) := by
  rw [ca_13]
  generalize CA g k = cf at *
  have hl := len_lI ks
  obtain ⟨y1, e⟩ := du_go (wc (Phi1 g) cf) ks (List.range ks.length) (fun i hi => List.mem_range.mp hi) .no
  have er : ((List.range ks.length).map fun (i : Nat) => D.int (i : Int)) = rngD 0 ks.length := by rw [rng0, List.map_map]; rfl
  rw [er] at e
  refine runF_eq (γ := [.sh (.lst (ks.map .int)), .no]) (o := .rt (dueD ks)) rfl rfl ?_ rfl
  unfold ir13
  unfold dueD dueF
  by_cases q : ks.length < 2 ∨ 24 < ks.length
  · rw [if_pos q]
    apply s_iteE
    · exists 901
    · by_cases z : ks.length < 2
      · rw [decide_eq_true (show (ks.length : Int) < 2 by omega)]; rfl
      · rw [decide_eq_false (show ¬ (ks.length : Int) < 2 by omega), decide_eq_true (show (24 : Int) < ks.length by omega)]; rfl
    · exists 907
    · intro _ h; cases h
  · rw [if_neg q]
    apply s_iteF0
    · exists 901
    · rw [decide_eq_false (show ¬ (ks.length : Int) < 2 by omega), decide_eq_false (show ¬ (24 : Int) < ks.length by omega)]; rfl
    cases z : (List.range ks.length).find? fun i => badK (ks.getD i 0) with
    | none =>
      rw [z] at e
      refine s_for1 (body := duB) (items := rngD 0 ks.length) (dv (bi1_v (loc_v rfl) hl)) (it_rg0 (by omega)) e ?_
      show _ = some (Out.rt D.non)
      exists 907
    | some i =>
      rw [z] at e
      exact s_forE (body := duB) (items := rngD 0 ks.length) (dv (bi1_v (loc_v rfl) hl)) (it_rg0 (by omega)) e (fun _ h => by cases h)
end L01
end

section
set_option Elab.async false
set_option linter.all false
set_option maxRecDepth 100000
set_option maxHeartbeats 4000000
set_option autoImplicit false
namespace L01
open PySem PySem.Spec L2 Pd Ev
local macro_rules | `(tactic| exists 905) => `(tactic| first | decide | omega | (with_reducible assumption))
local macro_rules | `(tactic| exists 904) => `(tactic| first
  | (with_reducible assumption)
  | ((with_reducible apply q_call); with_reducible assumption)
  | ((with_reducible apply binD_mod); (exists 905))
  | ((with_reducible apply binD_mul); (exists 905); (exists 905))
  | ((with_reducible apply binD_div); (exists 905); (exists 905))
  | ((with_reducible apply subD_l); (exists 905); (exists 905))
  | ((with_reducible apply subD_t); (exists 905); (exists 905))
  | exact rfl
  | decide)
local macro_rules | `(tactic| exists 902) => `(tactic| ((with_reducible apply q_d); (exists 901); (exact rfl)))
local macro_rules | `(tactic| exists 903) => `(tactic| first
  | (with_reducible exact all_n)
  | ((with_reducible apply all_c); (exists 902); (exists 903)))
local macro_rules | `(tactic| exists 901) => `(tactic| first
  | ((with_reducible apply loc_v); exact rfl)
  | (with_reducible exact cst_v _)
  | ((with_reducible apply q_bin); (exists 902); (exists 902); (exists 904))
  | ((with_reducible apply q_sub); (exists 902); (exists 902); (exists 904))
  | ((with_reducible apply q_bi); (exists 903); (exists 904))
  | ((with_reducible apply q_fn); (exists 903); (exists 904))
  | ((with_reducible apply cmp_d); (exists 902); (exists 902); (exists 904))
  | ((with_reducible apply q_not); (exists 901))
  | ((with_reducible apply q_neg); (exists 902); (exact rfl))
  | ((with_reducible apply q_att); (exists 902); (exists 904); (exists 904))
  | ((with_reducible apply q_con); (exact rfl))
  | ((with_reducible apply q_glo); (exact rfl))
  | ((with_reducible apply q_tup); (exists 903); (exact Nat.le_of_ble_eq_true rfl))
  | ((with_reducible apply q_lst); (exists 903); (exact Nat.le_of_ble_eq_true rfl))
  | ((with_reducible apply q_isc); (exists 902); (exists 904))
  | ((with_reducible apply q_inb); (exists 902); (exact rfl); (exists 904))
  | ((with_reducible apply q_chn); (exists 902); (exists 902); (exists 904); (exists 902); (exists 904))
  | ((with_reducible apply q_and); (exists 901); (intro; exists 901))
  | ((with_reducible apply q_or); (exists 901); (intro; exists 901))
  | ((with_reducible apply q_ins); (exists 902); (exists 904))
  | ((with_reducible apply q_mk); (exists 903); (exists 903); (exists 904))
  | ((with_reducible apply q_fnk); (exists 903); (exists 903); (exists 904))
  | ((with_reducible apply q_mth); (exists 902); (exists 904); (exists 904); (exists 903); (exists 903); (exists 904))
  | ((with_reducible apply q_cm); (exists 904); (exists 903); (exists 903); (exists 904))
  | ((with_reducible apply q_lmk); (exact rfl); (exists 904); (exists 903); (exists 904))
  | ((with_reducible apply q_itr); (exists 902); (exists 904); (exists 904))
  | ((with_reducible apply q_rev); (exists 902))
  | ((with_reducible apply q_bm); (exists 902); (exact rfl); (exists 903); (exists 904))
  | ((with_reducible apply q_slc); (exists 902); (exists 908); (exists 908); (exists 904))
  | ((with_reducible apply exa_v); (exact rfl); (exists 904); (exists 904))
  | ((with_reducible apply exi_v); (exact rfl); (exists 904))
  | ((with_reducible apply exb_v); (exact rfl); (exists 904))
  | ((with_reducible apply q_fnT); (exists 903); (exists 904))
  | ((with_reducible apply q_locT); exact rfl)
  | ((with_reducible apply q_locX); (exact rfl); (exact rfl))
  | (with_reducible assumption))
local macro_rules | `(tactic| exists 908) => `(tactic| first
  | (with_reducible exact evO_nil _ _)
  | ((with_reducible apply q_o1); (exists 902)))
local macro_rules | `(tactic| exists 906) => `(tactic| first
  | ((with_reducible apply p_pl); (exists 901))
  | ((with_reducible apply p_fz); (exists 901))
  | ((with_reducible apply p_vw); (exists 901); (exact rfl))
  | ((with_reducible apply p_vo); (exists 901); (exact rfl)))
local macro_rules | `(tactic| exists 907) => `(tactic| first
  | (with_reducible exact s_nil)
  | ((with_reducible apply s_nil'); exact rfl)
  | ((with_reducible apply s_asg); (exists 906); (exact rfl))
  | ((with_reducible apply s_app); (exists 906); (exact rfl); (exact rfl); (exists 905))
  | ((with_reducible apply s_exp); (exists 906))
  | ((with_reducible apply s_ret); (exists 906))
  | ((with_reducible apply s_retn); (exists 906))
  | ((with_reducible apply s_reto); (exact rfl)))
section
variable {Φ : Phi} {γ : List S2} {e1 e2 : IE} {d1 : D} {C : Addr} {fs : List (Str × D)}
theorem tup_x2 (h1 : RR.d? (ev Φ γ false e1) = some d1) (h2 : ev Φ γ false e2 = some (.exc C fs)) : ev Φ γ false (.tup [e1, e2]) = some (.exc C fs) := by
  rw [ev_tup, evL_cons, and_d h1, evL_cons, h2, and_x, tst_f]
theorem att_x {f : Str} (h2 : ev Φ γ false e2 = some (.exc C fs)) : ev Φ γ false (.att e2 f) = some (.exc C fs) := by
  rw [ev_att, h2, and_x, tst_f]
end
section
variable {g : Nat → Addr} {cf : Nat → List D → Option RR}
theorem x22 : (wc (Phi1 g) cf).isX (g 2) 2 = some true := by
  show (if g 2 = g 2 then _ else _) = _
  rw [if_pos rfl]; rfl
theorem x21 : (wc (Phi1 g) cf).isX (g 2) 1 = some true := by
  show (if g 2 = g 2 then _ else _) = _
  rw [if_pos rfl]; rfl
theorem x23 : (wc (Phi1 g) cf).isX (g 2) 3 = some false := by
  show (if g 2 = g 2 then _ else _) = _
  rw [if_pos rfl]; rfl
theorem x25 : (wc (Phi1 g) cf).isX (g 2) 5 = some false := by
  show (if g 2 = g 2 then _ else _) = _
  rw [if_pos rfl]; rfl
theorem x33 (hg : g 2 ≠ g 3) : (wc (Phi1 g) cf).isX (g 3) 3 = some true := by
  show (if g 3 = g 2 then _ else if g 3 = g 3 then _ else _) = _
  rw [if_neg (fun h => hg h.symm), if_pos rfl]; rfl
theorem x31 (hg : g 2 ≠ g 3) : (wc (Phi1 g) cf).isX (g 3) 1 = some true := by
  show (if g 3 = g 2 then _ else if g 3 = g 3 then _ else _) = _
  rw [if_neg (fun h => hg h.symm), if_pos rfl]; rfl
theorem x32 (hg : g 2 ≠ g 3) : (wc (Phi1 g) cf).isX (g 3) 2 = some false := by
  show (if g 3 = g 2 then _ else if g 3 = g 3 then _ else _) = _
  rw [if_neg (fun h => hg h.symm), if_pos rfl]; rfl
theorem x34 (hg : g 2 ≠ g 3) : (wc (Phi1 g) cf).isX (g 3) 4 = some false := by
  show (if g 3 = g 2 then _ else if g 3 = g 3 then _ else _) = _
  rw [if_neg (fun h => hg h.symm), if_pos rfl]; rfl
theorem b2 : (wc (Phi1 g) cf).isB (g 2) "ValueError" = some true := by
  show (if g 2 = g 2 ∨ g 2 = g 3 then _ else _) = _
  rw [if_pos (.inl rfl)]; rfl
theorem b3 : (wc (Phi1 g) cf).isB (g 3) "ValueError" = some true := by
  show (if g 3 = g 2 ∨ g 3 = g 3 then _ else _) = _
  rw [if_pos (.inr rfl)]; rfl
theorem xf2 : (wc (Phi1 g) cf).xfl (g 2) "at" = true := by
  show ((g 2 == g 2 && decide (("at" : Str) = "at")) || _) = true
  rw [beq_self_eq_true, decide_eq_true rfl]; rfl
theorem xf3 : (wc (Phi1 g) cf).xfl (g 3) "bead" = true := by
  show ((g 3 == g 2 && _) || (g 3 == g 3 && decide (("bead" : Str) = "bead"))) = true
  rw [beq_self_eq_true, decide_eq_true (rfl : ("bead" : Str) = "bead"), Bool.and_self, Bool.or_true]
end
/-- what is made of a row: the word and the strand, or the word and the place -/
def madeD (g : Nat → Addr) (ks : List Int) : D := match dueF ks with
  | none => .tup [.str "ok", SO g ks]
  | some d => .tup [.str "BadStrand", d]
theorem e_made (g : Nat → Addr) (k : Nat) (ks : List Int) (X : D) (hX : SqI X ks) (b : Bool) : CA g (k + 3) 14 [X, .bl b] = some (.val (madeD g ks)) := by
  rw [ca_14]
  unfold madeD
  cases hd : dueF ks with
  | none =>
    have hi := e_init g k ks (due_row hd) X hX
    generalize CA g (k + 2) = cf at *
    refine runF_eq (γ := [.sh X, .sh (.bl b), .no]) (o := .rt (.tup [.str "ok", SO g ks])) rfl rfl ?_ rfl
    unfold ir14
    refine st_rt (try_rt ?_)
    cases b with
    | true => exact st_rt ((ite_t (q_locT rfl)).trans (st_rt (ret_v (ex_pl (q_tup (all_c (dv (cst_v _)) (all_c (dv (q_mk all_n (all_c (dv (loc_v rfl)) all_n) hi)) all_n)) (Nat.le_of_ble_eq_true rfl))))))
    | false => exact (st_nx (ite_f0 (q_locT rfl))).trans (st_rt (ret_v (ex_pl (q_tup (all_c (dv (cst_v _)) (all_c (dv (q_mk (all_c (dv (loc_v rfl)) all_n) all_n hi)) all_n)) (Nat.le_of_ble_eq_true rfl)))))
  | some d =>
    have hi := e_init_bad g (k + 1) ks d hd X hX
    generalize CA g (k + 2) = cf at *
    refine runF_eq (γ := [.sh X, .sh (.bl b), .no]) (o := .rt (.tup [.str "BadStrand", d])) rfl rfl ?_ rfl
    unfold ir14
    refine st_rt (try_xc (γ1 := [.sh X, .sh (.bl b), .no]) (A := g 2) (fs := [("at", d)]) ?_ x22 ?_)
    · cases b with
      | true => exact st_xc ((ite_t (q_locT rfl)).trans (st_xc (ret_x (ex_pl (tup_x2 (dv (cst_v _)) (q_mk all_n (all_c (dv (loc_v rfl)) all_n) hi))))))
      | false => exact (st_nx (ite_f0 (q_locT rfl))).trans (st_xc (ret_x (ex_pl (tup_x2 (dv (cst_v _)) (q_mk (all_c (dv (loc_v rfl)) all_n) all_n hi)))))
    · exact st_rt (ret_v (ex_fz (q_tup (all_c (dv (cst_v _)) (all_c (dv (exa_v (d := d) (C := g 2) (fs := [("at", d)]) rfl xf2 (by rfl))) all_n)) (Nat.le_of_ble_eq_true rfl))))
theorem e_lettered (g : Nat → Addr) (k : Nat) (cs : List Nat) (hc : cs.length ≤ 300) (b : Bool) : CA g (k + 4) 15 [.str ⟨cs.toArray⟩, .bl b] = some (.val (madeD g (cs.map letK))) := by
  rw [ca_15]
  unfold madeD
  have cm : (wc (Phi1 g) (CA g (k + 3))).cmeth 0 0 = some 25 := rfl
  cases hd : dueF (cs.map letK) with
  | none =>
    have hi := e_letters g (k + 1) cs hc _ (e_init g k (cs.map letK) (due_row hd) _ ⟨.inr rfl⟩)
    generalize CA g (k + 3) = cf at *
    refine runF_eq (γ := [.sh (.str ⟨cs.toArray⟩), .sh (.bl b), .no]) (o := .rt (.tup [.str "ok", SO g (cs.map letK)])) rfl rfl ?_ rfl
    unfold ir15
    refine st_rt (try_rt ?_)
    cases b with
    | true => exact st_rt ((ite_t (q_locT rfl)).trans (st_rt (ret_v (ex_pl (q_tup (all_c (dv (cst_v _)) (all_c (dv (q_cm cm all_n (all_c (dv (loc_v rfl)) all_n) hi)) all_n)) (Nat.le_of_ble_eq_true rfl))))))
    | false => exact (st_nx (ite_f0 (q_locT rfl))).trans (st_rt (ret_v (ex_pl (q_tup (all_c (dv (cst_v _)) (all_c (dv (q_cm cm (all_c (dv (loc_v rfl)) all_n) all_n hi)) all_n)) (Nat.le_of_ble_eq_true rfl)))))
  | some d =>
    have hi := e_letters g (k + 1) cs hc _ (e_init_bad g (k + 1) (cs.map letK) d hd _ ⟨.inr rfl⟩)
    generalize CA g (k + 3) = cf at *
    refine runF_eq (γ := [.sh (.str ⟨cs.toArray⟩), .sh (.bl b), .no]) (o := .rt (.tup [.str "BadStrand", d])) rfl rfl ?_ rfl
    unfold ir15
    refine st_rt (try_xc (γ1 := [.sh (.str ⟨cs.toArray⟩), .sh (.bl b), .no]) (A := g 2) (fs := [("at", d)]) ?_ x22 ?_)
    · cases b with
      | true => exact st_xc ((ite_t (q_locT rfl)).trans (st_xc (ret_x (ex_pl (tup_x2 (dv (cst_v _)) (q_cm cm all_n (all_c (dv (loc_v rfl)) all_n) hi))))))
      | false => exact (st_nx (ite_f0 (q_locT rfl))).trans (st_xc (ret_x (ex_pl (tup_x2 (dv (cst_v _)) (q_cm cm (all_c (dv (loc_v rfl)) all_n) all_n hi)))))
    · exact st_rt (ret_v (ex_fz (q_tup (all_c (dv (cst_v _)) (all_c (dv (exa_v (d := d) (C := g 2) (fs := [("at", d)]) rfl xf2 (by rfl))) all_n)) (Nat.le_of_ble_eq_true rfl))))
theorem me3 (g : Nat → Addr) (cf : Nat → List D → Option RR) : (wc (Phi1 g) cf).meth (g 0) 3 = some 28 := by
  show (if g 0 = g 0 then meT.lookup 3 else none) = _
  rw [if_pos rfl]; rfl
theorem e_turn (g : Nat → Addr) (k : Nat) (ks : List Int) (hr : Row ks) (n : Nat) (hn : n < ks.length) (b : Bool) : CA g (k + 4) 16 [SO g ks, .int (n : Int), .bl b] = some (.val (.tup [.str "ok", .tup ((ks.drop n ++ ks.take n).map .int)])) := by
  rw [ca_16]
  have hi := e_turned g k ks hr n hn
  generalize CA g (k + 3) = cf at *
  have hm := me3 g cf
  refine runF_eq (γ := [.sh (SO g ks), .sh (.int (n : Int)), .sh (.bl b), .no]) (o := .rt (.tup [.str "ok", .tup ((ks.drop n ++ ks.take n).map .int)])) rfl rfl ?_ rfl
  unfold ir16
  refine st_rt (try_rt ?_)
  have fk := fldk g cf "kinds" (by decide +kernel)
  cases b with
  | true => exact st_rt ((ite_t (q_locT rfl)).trans (st_rt (ret_v (ex_pl (q_tup (all_c (dv (cst_v _)) (all_c (dv (q_att (dv (q_mth (C := g 0) (fs := f5 ks) (dv (loc_v rfl)) hm (by rfl) all_n (all_c (dv (loc_v (d := .int (n : Int)) rfl)) all_n) hi)) fk (lkK _ _))) all_n)) (Nat.le_of_ble_eq_true rfl))))))
  | false => exact (st_nx (ite_f0 (q_locT rfl))).trans (st_rt (ret_v (ex_pl (q_tup (all_c (dv (cst_v _)) (all_c (dv (q_att (dv (q_mth (C := g 0) (fs := f5 ks) (dv (loc_v rfl)) hm (by rfl) (all_c (dv (loc_v (d := .int (n : Int)) rfl)) all_n) all_n hi)) fk (lkK _ _))) all_n)) (Nat.le_of_ble_eq_true rfl)))))
theorem mth_x {Φ : Phi} {γ : List S2} {e : IE} {es kvs : List IE} {ds ws : List D} {m n : Nat} {C CE : Addr} {fs fe : List (Str × D)} (h0 : RR.d? (ev Φ γ false e) = some (.obj C fs)) (hm : Φ.meth C m = some (Φ.pf n)) (hn : (fs.lookup (Φ.mn m)).isNone = true) (h : evAll Φ γ es ds) (h2 : evAll Φ γ kvs ws) (hc : Φ.call (Φ.pf n) (.obj C fs :: (Φ.arr n).map (paD ds ws)) = some (.exc CE fe)) : ev Φ γ false (.mth e m n es kvs) = some (.exc CE fe) := q_mth h0 hm hn h h2 hc
theorem e_turn_bad (g : Nat → Addr) (hg : g 2 ≠ g 3) (k : Nat) (ks : List Int) (n : Int) (hn : ¬ (0 ≤ n ∧ n < ks.length)) (b : Bool) : CA g (k + 3) 16 [SO g ks, .int n, .bl b] = some (.val (.tup [.str "NoSuchBead", .int n])) := by
  rw [ca_16]
  have hi := e_turned_bad g k ks n hn
  generalize CA g (k + 2) = cf at *
  have hm := me3 g cf
  refine runF_eq (γ := [.sh (SO g ks), .sh (.int n), .sh (.bl b), .no]) (o := .rt (.tup [.str "NoSuchBead", .int n])) rfl rfl ?_ rfl
  unfold ir16
  refine st_rt (try_xc (γ1 := [.sh (SO g ks), .sh (.int n), .sh (.bl b), .no]) (A := g 3) (fs := [("bead", .int n)]) ?_ (x33 hg) ?_)
  · cases b with
    | true => exact st_xc ((ite_t (q_locT rfl)).trans (st_xc (ret_x (ex_pl (tup_x2 (dv (cst_v _)) (att_x (q_mth (C := g 0) (fs := f5 ks) (dv (loc_v rfl)) hm (by rfl) all_n (all_c (dv (loc_v (d := .int n) rfl)) all_n) hi)))))))
    | false => exact (st_nx (ite_f0 (q_locT rfl))).trans (st_xc (ret_x (ex_pl (tup_x2 (dv (cst_v _)) (att_x (q_mth (C := g 0) (fs := f5 ks) (dv (loc_v rfl)) hm (by rfl) (all_c (dv (loc_v (d := .int n) rfl)) all_n) all_n hi))))))
  · exact st_rt (ret_v (ex_fz (q_tup (all_c (dv (cst_v _)) (all_c (dv (exa_v (d := .int n) (C := g 3) (fs := [("bead", .int n)]) rfl xf3 (by rfl))) all_n)) (Nat.le_of_ble_eq_true rfl))))
/-- defs 17, 18: what is refused is refused by the right error -/
theorem e_refused (g : Nat → Addr) (k : Nat) (ks : List Int) (X : D) (hX : SqI X ks) (hd : dueF ks ≠ none) : CA g (k + 2) 17 [X] = some (.val (.bl true)) := by
  rw [ca_17]
  cases hd' : dueF ks with
  | none => exact absurd hd' hd
  | some d =>
    have hi := e_init_bad g k ks d hd' X hX
    generalize CA g (k + 1) = cf at *
    refine runF_eq (γ := [.sh X, .no]) (o := .rt (.bl true)) rfl rfl ?_ rfl
    unfold ir17
    refine st_rt (try_xc (γ1 := [.sh X, .no]) (A := g 2) (fs := [("at", d)]) ?_ x21 ?_)
    · exact st_xc (exp_x (ex_pl (q_mk (all_c (dv (loc_v rfl)) all_n) all_n hi)))
    · have q2 := x22 (g := g) (cf := cf)
      have q3 := x23 (g := g) (cf := cf)
      have q5 := x25 (g := g) (cf := cf)
      have qb := b2 (g := g) (cf := cf)
      apply s_iteF0
      · exists 901
      · rfl
      show _ = some (Out.rt (.bl (!false && !false)))
      exists 907
theorem e_refused_turn (g : Nat → Addr) (hg : g 2 ≠ g 3) (k : Nat) (ks : List Int) (n : Int) (hn : ¬ (0 ≤ n ∧ n < ks.length)) : CA g (k + 3) 18 [SO g ks, .int n] = some (.val (.bl true)) := by
  rw [ca_18]
  have hi := e_turned_bad g k ks n hn
  generalize CA g (k + 2) = cf at *
  have hm := me3 g cf
  refine runF_eq (γ := [.sh (SO g ks), .sh (.int n), .no]) (o := .rt (.bl true)) rfl rfl ?_ rfl
  unfold ir18
  refine st_rt (try_xc (γ1 := [.sh (SO g ks), .sh (.int n), .no]) (A := g 3) (fs := [("bead", .int n)]) ?_ (x31 hg) ?_)
  · exact st_xc (exp_x (ex_pl (q_mth (C := g 0) (fs := f5 ks) (dv (loc_v rfl)) hm (by rfl) (all_c (dv (loc_v (d := .int n) rfl)) all_n) all_n hi)))
  · have q2 := x33 (cf := cf) hg
    have q3 := x32 (cf := cf) hg
    have q5 := x34 (cf := cf) hg
    have qb := b3 (g := g) (cf := cf)
    apply s_iteF0
    · exists 901
    · rfl
    show _ = some (Out.rt (.bl (!false && !false)))
    exists 907
end L01
end

section
set_option Elab.async false
set_option linter.all false
set_option maxRecDepth 100000
set_option maxHeartbeats 4000000
set_option autoImplicit false
namespace L01
open PySem PySem.Spec L2 Pd Ev
local macro_rules | `(tactic| exists 905) => `(tactic| first | decide | omega | (with_reducible assumption))
local macro_rules | `(tactic| exists 904) => `(tactic| first
  | (with_reducible assumption)
  | ((with_reducible apply q_call); with_reducible assumption)
  | ((with_reducible apply binD_mod); (exists 905))
  | ((with_reducible apply binD_mul); (exists 905); (exists 905))
  | ((with_reducible apply binD_div); (exists 905); (exists 905))
  | ((with_reducible apply subD_l); (exists 905); (exists 905))
  | ((with_reducible apply subD_t); (exists 905); (exists 905))
  | exact rfl
  | decide)
local macro_rules | `(tactic| exists 902) => `(tactic| ((with_reducible apply q_d); (exists 901); (exact rfl)))
local macro_rules | `(tactic| exists 903) => `(tactic| first
  | (with_reducible exact all_n)
  | ((with_reducible apply all_c); (exists 902); (exists 903)))
local macro_rules | `(tactic| exists 901) => `(tactic| first
  | ((with_reducible apply loc_v); exact rfl)
  | (with_reducible exact cst_v _)
  | ((with_reducible apply q_bin); (exists 902); (exists 902); (exists 904))
  | ((with_reducible apply q_sub); (exists 902); (exists 902); (exists 904))
  | ((with_reducible apply q_bi); (exists 903); (exists 904))
  | ((with_reducible apply q_fn); (exists 903); (exists 904))
  | ((with_reducible apply cmp_d); (exists 902); (exists 902); (exists 904))
  | ((with_reducible apply q_not); (exists 901))
  | ((with_reducible apply q_neg); (exists 902); (exact rfl))
  | ((with_reducible apply q_att); (exists 902); (exists 904); (exists 904))
  | ((with_reducible apply q_con); (exact rfl))
  | ((with_reducible apply q_glo); (exact rfl))
  | ((with_reducible apply q_tup); (exists 903); (exact Nat.le_of_ble_eq_true rfl))
  | ((with_reducible apply q_lst); (exists 903); (exact Nat.le_of_ble_eq_true rfl))
  | ((with_reducible apply q_isc); (exists 902); (exists 904))
  | ((with_reducible apply q_inb); (exists 902); (exact rfl); (exists 904))
  | ((with_reducible apply q_chn); (exists 902); (exists 902); (exists 904); (exists 902); (exists 904))
  | ((with_reducible apply q_and); (exists 901); (intro; exists 901))
  | ((with_reducible apply q_or); (exists 901); (intro; exists 901))
  | ((with_reducible apply q_ins); (exists 902); (exists 904))
  | ((with_reducible apply q_mk); (exists 903); (exists 903); (exists 904))
  | ((with_reducible apply q_fnk); (exists 903); (exists 903); (exists 904))
  | ((with_reducible apply q_mth); (exists 902); (exists 904); (exists 904); (exists 903); (exists 903); (exists 904))
  | ((with_reducible apply q_cm); (exists 904); (exists 903); (exists 903); (exists 904))
  | ((with_reducible apply q_lmk); (exact rfl); (exists 904); (exists 903); (exists 904))
  | ((with_reducible apply q_itr); (exists 902); (exists 904); (exists 904))
  | ((with_reducible apply q_rev); (exists 902))
  | ((with_reducible apply q_bm); (exists 902); (exact rfl); (exists 903); (exists 904))
  | ((with_reducible apply q_slc); (exists 902); (exists 908); (exists 908); (exists 904))
  | ((with_reducible apply exa_v); (exact rfl); (exists 904); (exists 904))
  | ((with_reducible apply exi_v); (exact rfl); (exists 904))
  | ((with_reducible apply exb_v); (exact rfl); (exists 904))
  | ((with_reducible apply q_fnT); (exists 903); (exists 904))
  | ((with_reducible apply q_locT); exact rfl)
  | ((with_reducible apply q_locX); (exact rfl); (exact rfl))
  | (with_reducible assumption))
local macro_rules | `(tactic| exists 908) => `(tactic| first
  | (with_reducible exact evO_nil _ _)
  | ((with_reducible apply q_o1); (exists 902)))
local macro_rules | `(tactic| exists 906) => `(tactic| first
  | ((with_reducible apply p_pl); (exists 901))
  | ((with_reducible apply p_fz); (exists 901))
  | ((with_reducible apply p_vw); (exists 901); (exact rfl))
  | ((with_reducible apply p_vo); (exists 901); (exact rfl)))
local macro_rules | `(tactic| exists 907) => `(tactic| first
  | (with_reducible exact s_nil)
  | ((with_reducible apply s_nil'); exact rfl)
  | ((with_reducible apply s_asg); (exists 906); (exact rfl))
  | ((with_reducible apply s_app); (exists 906); (exact rfl); (exact rfl); (exists 905))
  | ((with_reducible apply s_exp); (exists 906))
  | ((with_reducible apply s_ret); (exists 906))
  | ((with_reducible apply s_retn); (exists 906))
  | ((with_reducible apply s_reto); (exact rfl)))
/-! ### the mathematics of stretches: breaks and starts -/
def lastN (B : List Nat) : Nat := B.getD (B.length - 1) 0
/-- the law's starts, as found -/
def stQ (ks : List Int) : List Nat := (List.range ks.length).filter fun k => !decide (ks.getD k 0 = ks.getD ((k + ks.length - 1) % ks.length) 0)
/-- the law's starts, the stretch with bead 0 first -/
def stS (ks : List Int) : List Nat := ((lastN (brk ks) + 1) % ks.length) :: (brk ks).dropLast.map (· + 1)
theorem brk_split (ks : List Int) (m : Nat) (h : ks.length = m + 1) : brk ks = ((List.range m).filter fun k => !decide (ks.getD k 0 = ks.getD (k + 1) 0)) ++ (if ks.getD m 0 = ks.getD 0 0 then [] else [m]) := by
  unfold brk
  rw [h, List.range_succ, List.filter_append]
  congr 1
  · apply List.filter_congr
    intro k hk
    rw [Nat.mod_eq_of_lt (by have := List.mem_range.mp hk; omega)]
  · rw [List.filter_cons, List.filter_nil, Nat.mod_self]
    by_cases q : ks.getD m 0 = ks.getD 0 0
    · rw [if_pos q, decide_eq_true q]; rfl
    · rw [if_neg q, decide_eq_false q]; rfl
theorem stQ_split (ks : List Int) (m : Nat) (h : ks.length = m + 1) : stQ ks = (if ks.getD m 0 = ks.getD 0 0 then [] else [0]) ++ ((List.range m).filter fun k => !decide (ks.getD k 0 = ks.getD (k + 1) 0)).map (· + 1) := by
  unfold stQ
  rw [h, List.range_succ_eq_map, List.filter_cons, List.filter_map]
  have e0 : (0 + (m + 1) - 1) % (m + 1) = m := by
    rw [show 0 + (m + 1) - 1 = m by omega]
    exact Nat.mod_eq_of_lt (by omega)
  rw [e0]
  have e1 : (List.range m).filter ((fun k => !decide (ks.getD k 0 = ks.getD ((k + (m + 1) - 1) % (m + 1)) 0)) ∘ Nat.succ) = (List.range m).filter fun k => !decide (ks.getD k 0 = ks.getD (k + 1) 0) := by
    apply List.filter_congr
    intro k hk
    have hk := List.mem_range.mp hk
    show (!decide (ks.getD (k + 1) 0 = ks.getD ((k + 1 + (m + 1) - 1) % (m + 1)) 0)) = _
    have e : (k + 1 + (m + 1) - 1) % (m + 1) = k := by
      rw [show k + 1 + (m + 1) - 1 = k + (m + 1) by omega, Nat.add_mod_right]
      exact Nat.mod_eq_of_lt (by omega)
    rw [e]
    congr 1
    exact decide_eq_decide.mpr ⟨Eq.symm, Eq.symm⟩
  rw [e1]
  by_cases q : ks.getD m 0 = ks.getD 0 0
  · rw [if_pos q, if_neg (by rw [decide_eq_true q.symm]; decide)]
    rfl
  · rw [if_neg q, if_pos (by rw [decide_eq_false (fun z => q z.symm)]; decide)]
    rfl
theorem lastN_app (B : List Nat) (x : Nat) : lastN (B ++ [x]) = x := by
  unfold lastN
  rw [List.length_append, List.length_singleton, Nat.add_sub_cancel, List.getD_eq_getElem?_getD, List.getElem?_append_right (Nat.le_refl _), Nat.sub_self]
  rfl
theorem lastN_mem {B : List Nat} (h : B ≠ []) : lastN B ∈ B := by
  have hl : B.length - 1 < B.length := by
    cases B with
    | nil => exact absurd rfl h
    | cons a b => rw [List.length_cons]; omega
  unfold lastN
  rw [List.getD_eq_getElem?_getD, List.getElem?_eq_getElem hl]
  exact List.getElem_mem hl
theorem lastN_map {B : List Nat} (h : B ≠ []) : lastN (B.map (· + 1)) = lastN B + 1 := by
  have hl : B.length - 1 < B.length := by
    cases B with
    | nil => exact absurd rfl h
    | cons a b => rw [List.length_cons]; omega
  unfold lastN
  rw [List.length_map, List.getD_eq_getElem?_getD, List.getD_eq_getElem?_getD, List.getElem?_map, List.getElem?_eq_getElem hl]
  rfl
/-- the law's starts, turned so that the one of bead 0's stretch comes first -/
theorem stS_of (ks : List Int) (h : 2 ≤ ks.length) (hb : brk ks ≠ []) : stS ks = if (stQ ks).getD 0 0 = 0 then stQ ks else lastN (stQ ks) :: (stQ ks).dropLast := by
  obtain ⟨m, hm⟩ : ∃ m, ks.length = m + 1 := ⟨ks.length - 1, by omega⟩
  have e1 := brk_split ks m hm
  have e2 := stQ_split ks m hm
  have hB : ∀ b ∈ (List.range m).filter (fun k => !decide (ks.getD k 0 = ks.getD (k + 1) 0)), b < m := fun b hb => List.mem_range.mp (List.mem_filter.mp hb).1
  generalize (List.range m).filter (fun k => !decide (ks.getD k 0 = ks.getD (k + 1) 0)) = B at e1 e2 hB
  unfold stS
  rw [e1] at hb ⊢
  rw [e2]
  by_cases q : ks.getD m 0 = ks.getD 0 0
  · rw [if_pos q] at hb ⊢
    rw [if_pos q]
    rw [List.append_nil] at hb ⊢
    rw [List.nil_append]
    have hl := hB _ (lastN_mem hb)
    rw [if_neg, hm, Nat.mod_eq_of_lt (by omega), lastN_map hb, List.map_dropLast]
    cases B with
    | nil => exact absurd rfl hb
    | cons a r =>
      show ¬ (a + 1 = 0)
      omega
  · rw [if_neg q, if_neg q, lastN_app, hm, Nat.mod_self, List.dropLast_concat]
    rfl
/-- the breaks: ascending places, none or two at least -/
theorem brk_lt (ks : List Int) : ∀ b ∈ brk ks, b < ks.length := fun b hb => List.mem_range.mp (List.mem_filter.mp hb).1
theorem brk_asc (ks : List Int) : (brk ks).Pairwise (· < ·) := List.Pairwise.filter _ List.pairwise_lt_range
theorem brk_two (ks : List Int) (h : 2 ≤ ks.length) (hb : brk ks ≠ []) : 2 ≤ (brk ks).length := by
  rcases Nat.lt_or_ge (brk ks).length 2 with hl | hl
  · exfalso
    obtain ⟨b, e⟩ : ∃ b, brk ks = [b] := by
      match hq : brk ks, hb, hl with
      | [b], _, _ => exact ⟨b, rfl⟩
      | [], h, _ => exact absurd rfl h
      | _ :: _ :: _, _, h => simp at h; omega
    have hbm : b ∈ brk ks := by rw [e]; exact List.mem_singleton.mpr rfl
    have hbn := brk_lt ks b hbm
    have hne : ks.getD b 0 ≠ ks.getD ((b + 1) % ks.length) 0 := by
      have z := (List.mem_filter.mp hbm).2
      intro q
      rw [decide_eq_true q] at z
      cases z
    have heq : ∀ k, k < ks.length → k ≠ b → ks.getD k 0 = ks.getD ((k + 1) % ks.length) 0 := fun k hk hkb => by
      by_cases q : ks.getD k 0 = ks.getD ((k + 1) % ks.length) 0
      · exact q
      · have : k ∈ brk ks := List.mem_filter.mpr ⟨List.mem_range.mpr hk, by rw [decide_eq_false q]; rfl⟩
        rw [e] at this
        exact absurd (List.mem_singleton.mp this) hkb
    have run : ∀ j, j + 1 ≤ ks.length → ks.getD ((b + 1 + j) % ks.length) 0 = ks.getD ((b + 1) % ks.length) 0 := by
      intro j
      induction j with
      | zero => intro _; rfl
      | succ j ih =>
        intro hj
        rw [← ih (by omega)]
        have h1 : (b + 1 + j) % ks.length < ks.length := Nat.mod_lt _ (by omega)
        have h2 : (b + 1 + j) % ks.length ≠ b := by
          intro q
          rcases Nat.lt_or_ge (b + 1 + j) ks.length with w | w
          · rw [Nat.mod_eq_of_lt w] at q; omega
          · rw [Nat.mod_eq_sub_mod w, Nat.mod_eq_of_lt (by omega)] at q; omega
        rw [heq _ h1 h2, Nat.mod_add_mod]
        rfl
    have z := run (ks.length - 1) (by omega)
    rw [show b + 1 + (ks.length - 1) = b + ks.length by omega, Nat.add_mod_right, Nat.mod_eq_of_lt hbn] at z
    exact hne z
  · exact hl
end L01
end

section
set_option Elab.async false
set_option linter.all false
set_option maxRecDepth 100000
set_option maxHeartbeats 4000000
set_option autoImplicit false
namespace L01
open PySem PySem.Spec L2 Pd Ev
local macro_rules | `(tactic| exists 905) => `(tactic| first | decide | omega | (with_reducible assumption))
local macro_rules | `(tactic| exists 904) => `(tactic| first
  | (with_reducible assumption)
  | ((with_reducible apply q_call); with_reducible assumption)
  | ((with_reducible apply binD_mod); (exists 905))
  | ((with_reducible apply binD_mul); (exists 905); (exists 905))
  | ((with_reducible apply binD_div); (exists 905); (exists 905))
  | ((with_reducible apply subD_l); (exists 905); (exists 905))
  | ((with_reducible apply subD_t); (exists 905); (exists 905))
  | exact rfl
  | decide)
local macro_rules | `(tactic| exists 902) => `(tactic| ((with_reducible apply q_d); (exists 901); (exact rfl)))
local macro_rules | `(tactic| exists 903) => `(tactic| first
  | (with_reducible exact all_n)
  | ((with_reducible apply all_c); (exists 902); (exists 903)))
local macro_rules | `(tactic| exists 901) => `(tactic| first
  | ((with_reducible apply loc_v); exact rfl)
  | (with_reducible exact cst_v _)
  | ((with_reducible apply q_bin); (exists 902); (exists 902); (exists 904))
  | ((with_reducible apply q_sub); (exists 902); (exists 902); (exists 904))
  | ((with_reducible apply q_bi); (exists 903); (exists 904))
  | ((with_reducible apply q_fn); (exists 903); (exists 904))
  | ((with_reducible apply cmp_d); (exists 902); (exists 902); (exists 904))
  | ((with_reducible apply q_not); (exists 901))
  | ((with_reducible apply q_neg); (exists 902); (exact rfl))
  | ((with_reducible apply q_att); (exists 902); (exists 904); (exists 904))
  | ((with_reducible apply q_con); (exact rfl))
  | ((with_reducible apply q_glo); (exact rfl))
  | ((with_reducible apply q_tup); (exists 903); (exact Nat.le_of_ble_eq_true rfl))
  | ((with_reducible apply q_lst); (exists 903); (exact Nat.le_of_ble_eq_true rfl))
  | ((with_reducible apply q_isc); (exists 902); (exists 904))
  | ((with_reducible apply q_inb); (exists 902); (exact rfl); (exists 904))
  | ((with_reducible apply q_chn); (exists 902); (exists 902); (exists 904); (exists 902); (exists 904))
  | ((with_reducible apply q_and); (exists 901); (intro; exists 901))
  | ((with_reducible apply q_or); (exists 901); (intro; exists 901))
  | ((with_reducible apply q_ins); (exists 902); (exists 904))
  | ((with_reducible apply q_mk); (exists 903); (exists 903); (exists 904))
  | ((with_reducible apply q_fnk); (exists 903); (exists 903); (exists 904))
  | ((with_reducible apply q_mth); (exists 902); (exists 904); (exists 904); (exists 903); (exists 903); (exists 904))
  | ((with_reducible apply q_cm); (exists 904); (exists 903); (exists 903); (exists 904))
  | ((with_reducible apply q_lmk); (exact rfl); (exists 904); (exists 903); (exists 904))
  | ((with_reducible apply q_itr); (exists 902); (exists 904); (exists 904))
  | ((with_reducible apply q_rev); (exists 902))
  | ((with_reducible apply q_bm); (exists 902); (exact rfl); (exists 903); (exists 904))
  | ((with_reducible apply q_slc); (exists 902); (exists 908); (exists 908); (exists 904))
  | ((with_reducible apply exa_v); (exact rfl); (exists 904); (exists 904))
  | ((with_reducible apply exi_v); (exact rfl); (exists 904))
  | ((with_reducible apply exb_v); (exact rfl); (exists 904))
  | ((with_reducible apply q_fnT); (exists 903); (exists 904))
  | ((with_reducible apply q_locT); exact rfl)
  | ((with_reducible apply q_locX); (exact rfl); (exact rfl))
  | (with_reducible assumption))
local macro_rules | `(tactic| exists 908) => `(tactic| first
  | (with_reducible exact evO_nil _ _)
  | ((with_reducible apply q_o1); (exists 902)))
local macro_rules | `(tactic| exists 906) => `(tactic| first
  | ((with_reducible apply p_pl); (exists 901))
  | ((with_reducible apply p_fz); (exists 901))
  | ((with_reducible apply p_vw); (exists 901); (exact rfl))
  | ((with_reducible apply p_vo); (exists 901); (exact rfl)))
local macro_rules | `(tactic| exists 907) => `(tactic| first
  | (with_reducible exact s_nil)
  | ((with_reducible apply s_nil'); exact rfl)
  | ((with_reducible apply s_asg); (exists 906); (exact rfl))
  | ((with_reducible apply s_app); (exists 906); (exact rfl); (exact rfl); (exists 905))
  | ((with_reducible apply s_exp); (exists 906))
  | ((with_reducible apply s_ret); (exists 906))
  | ((with_reducible apply s_retn); (exists 906))
  | ((with_reducible apply s_reto); (exact rfl)))
/-! ### the two ways to the stretches -/
def modD (n : Nat) : D → D
  | .int x => .int (x % (n : Int))
  | d => d
def shD (a n : Int) : D → D
  | .int x => .int ((a + x) % n)
  | d => d
/-- the beads behind a, up to b, on the closed strand -/
def segD (n : Nat) (a b : Int) : D := .tup ((rngD (a + 1) (b + 1 - (a + 1)).toNat).map (modD n))
/-- the law's k-th piece -/
def lseg (n : Nat) (S : List Nat) (k : Nat) : D := .tup ((rngD 0 ((((S.getD ((k + 1) % S.length) 0 : Nat) : Int) - ((S.getD k 0 : Nat) : Int)) % (n : Int)).toNat).map (shD ((S.getD k 0 : Nat) : Int) (n : Int)))
def pieces (n : Nat) : Int → List Nat → List D
  | _, [] => []
  | a, p :: r => segD n a (p : Int) :: pieces n (p : Int) r
theorem pieces_map (n : Nat) : ∀ (B : List Nat) (a : Int), pieces n a B = (List.range B.length).map fun k => segD n (if k = 0 then a else ((B.getD (k - 1) 0 : Nat) : Int)) ((B.getD k 0 : Nat) : Int)
  | [], _ => rfl
  | p :: r, a => by
    unfold pieces
    rw [pieces_map n r, List.length_cons, List.range_succ_eq_map, List.map_cons, List.map_map]
    congr 1
    apply List.map_congr_left
    intro k hk
    show segD n (if k = 0 then (p : Int) else ((r.getD (k - 1) 0 : Nat) : Int)) ((r.getD k 0 : Nat) : Int) = segD n (if k + 1 = 0 then a else (((p :: r).getD (k + 1 - 1) 0 : Nat) : Int)) (((p :: r).getD (k + 1) 0 : Nat) : Int)
    rw [if_neg (show ¬ (k + 1 = 0) by omega), Nat.add_sub_cancel]
    cases k with
    | zero => rfl
    | succ k => rw [if_neg (by omega)]; rfl
def piecesD (ks : List Int) : List D := if brk ks = [] then [.tup (rngD 0 ks.length)] else pieces ks.length ((lastN (brk ks) : Nat) - (ks.length : Int)) (brk ks)
def lpieces (ks : List Int) : List D := if brk ks = [] then [.tup (rngD 0 ks.length)] else (List.range (stS ks).length).map (lseg ks.length (stS ks))
theorem asc_get {B : List Nat} (h : B.Pairwise (· < ·)) {i j : Nat} (hij : i < j) (hj : j < B.length) : B.getD i 0 < B.getD j 0 := by
  have := List.pairwise_iff_getElem.mp h i j (by omega) hj hij
  rw [List.getD_eq_getElem?_getD, List.getD_eq_getElem?_getD, List.getElem?_eq_getElem hj, List.getElem?_eq_getElem (by omega)]
  exact this
theorem lt_get {B : List Nat} {n : Nat} (h : ∀ b ∈ B, b < n) {i : Nat} (hi : i < B.length) : B.getD i 0 < n := by
  rw [List.getD_eq_getElem?_getD, List.getElem?_eq_getElem hi]
  exact h _ (List.getElem_mem hi)
theorem seg_eq (n : Nat) (hn : 0 < n) (s t : Nat) (a b : Int) (hs : ((s : Int) - (a + 1)) % n = 0) (ht : ((t : Int) - (b + 1)) % n = 0) (h0 : a < b) (h1 : b - a < n) : D.tup ((rngD 0 (((t : Int) - (s : Int)) % (n : Int)).toNat).map (shD (s : Int) (n : Int))) = segD n a b := by
  have e : ((t : Int) - (s : Int)) % (n : Int) = b - a := by
    have z : (t : Int) - s = (b - a) + (((t : Int) - (b + 1)) - ((s : Int) - (a + 1))) := by omega
    have z2 : (((t : Int) - (b + 1)) - ((s : Int) - (a + 1))) % (n : Int) = 0 := by
      rw [Int.sub_emod, ht, hs]
      exact Int.zero_emod _
    rw [z, Int.add_emod, z2, Int.add_zero, Int.emod_emod]
    exact Int.emod_eq_of_lt (by omega) h1
  rw [e]
  unfold segD
  rw [show b + 1 - (a + 1) = b - a by omega]
  congr 1
  unfold rngD
  rw [List.map_map, List.map_map]
  apply List.map_congr_left
  intro j _
  show D.int (((s : Int) + (0 + (j : Int))) % n) = D.int ((a + 1 + (j : Int)) % n)
  congr 1
  have z : (s : Int) + (0 + (j : Int)) = (a + 1 + j) + ((s : Int) - (a + 1)) := by omega
  rw [z, Int.add_emod, hs]
  simp
theorem S_get (n x : Nat) (B : List Nat) (k : Nat) (hk : k < B.length) (hk0 : 0 < k) : (x :: B.dropLast.map (· + 1)).getD k 0 = B.getD (k - 1) 0 + 1 := by
  obtain ⟨j, rfl⟩ : ∃ j, k = j + 1 := ⟨k - 1, by omega⟩
  show (B.dropLast.map (· + 1)).getD j 0 = _
  have hj : j < B.dropLast.length := by rw [List.length_dropLast]; omega
  rw [Nat.add_sub_cancel, List.getD_eq_getElem?_getD, List.getD_eq_getElem?_getD, List.getElem?_map, List.getElem?_eq_getElem hj, List.getElem?_eq_getElem (by omega), List.getElem_dropLast]
  rfl
theorem pieces_eq (ks : List Int) (h : 2 ≤ ks.length) : lpieces ks = piecesD ks := by
  unfold lpieces piecesD
  by_cases hb : brk ks = []
  · rw [if_pos hb, if_pos hb]
  rw [if_neg hb, if_neg hb, pieces_map]
  have h2 := brk_two ks h hb
  have hlt := brk_lt ks
  have hasc := brk_asc ks
  have eS : stS ks = ((lastN (brk ks) + 1) % ks.length) :: (brk ks).dropLast.map (· + 1) := rfl
  have hL : lastN (brk ks) = (brk ks).getD ((brk ks).length - 1) 0 := rfl
  have hLn : lastN (brk ks) < ks.length := by rw [hL]; exact lt_get hlt (by omega)
  have hS0 : (stS ks).getD 0 0 = (lastN (brk ks) + 1) % ks.length := rfl
  have hSl : (stS ks).length = (brk ks).length := by
    rw [eS, List.length_cons, List.length_map, List.length_dropLast]; omega
  have hSk : ∀ k, k < (brk ks).length → 0 < k → (stS ks).getD k 0 = (brk ks).getD (k - 1) 0 + 1 := fun k hk hk0 => S_get ks.length _ _ k hk hk0
  generalize stS ks = S at *
  generalize brk ks = B at *
  generalize lastN B = L at *
  generalize ks.length = n at *
  rw [hSl]
  have hmod : ∀ a : Nat, ((((a + 1) % n : Nat) : Int) - ((a : Int) + 1)) % n = 0 := fun a => by
    rw [Int.natCast_emod]
    show ((((a + 1 : Nat) : Int)) % n - ((a + 1 : Nat) : Int)) % n = 0
    rw [Int.sub_emod, Int.emod_emod, Int.sub_self, Int.zero_emod]
  apply List.map_congr_left
  intro k hk
  have hk := List.mem_range.mp hk
  unfold lseg
  rw [hSl]
  have hBk := lt_get hlt hk
  have ht : ((((S.getD ((k + 1) % B.length) 0 : Nat)) : Int) - ((((B.getD k 0 : Nat)) : Int) + 1)) % n = 0 := by
    by_cases q : k + 1 = B.length
    · rw [q, Nat.mod_self, hS0, hL, show B.length - 1 = k by omega]
      exact hmod _
    · rw [Nat.mod_eq_of_lt (by omega), hSk (k + 1) (by omega) (by omega), Nat.add_sub_cancel]
      rw [show (((B.getD k 0 + 1 : Nat) : Int) - (((B.getD k 0 : Nat) : Int) + 1)) = 0 by omega]
      exact Int.zero_emod _
  refine seg_eq n (by omega) _ _ _ _ ?_ ht ?_ ?_
  · by_cases q : k = 0
    · subst q
      rw [if_pos rfl, hS0]
      have z : ((((L + 1) % n : Nat) : Int) - ((L : Int) - (n : Int) + 1)) = (((((L + 1) % n : Nat) : Int) - ((L : Int) + 1)) + n) := by omega
      rw [z, Int.add_emod_right]
      exact hmod L
    · rw [if_neg q, hSk k hk (by omega)]
      rw [show (((B.getD (k - 1) 0 + 1 : Nat) : Int) - (((B.getD (k - 1) 0 : Nat) : Int) + 1)) = 0 by omega]
      exact Int.zero_emod _
  · by_cases q : k = 0
    · rw [if_pos q]; omega
    · rw [if_neg q]
      have := asc_get hasc (i := k - 1) (j := k) (by omega) hk
      omega
  · by_cases q : k = 0
    · subst q
      rw [if_pos rfl]
      have := asc_get hasc (i := 0) (j := B.length - 1) (by omega) (by omega)
      omega
    · rw [if_neg q]
      omega
end L01
end

section
set_option Elab.async false
set_option linter.all false
set_option maxRecDepth 100000
set_option maxHeartbeats 4000000
set_option autoImplicit false
namespace L01
open PySem PySem.Spec L2 Pd Ev
local macro_rules | `(tactic| exists 905) => `(tactic| first | decide | omega | (with_reducible assumption))
local macro_rules | `(tactic| exists 904) => `(tactic| first
  | (with_reducible assumption)
  | ((with_reducible apply q_call); with_reducible assumption)
  | ((with_reducible apply binD_mod); (exists 905))
  | ((with_reducible apply binD_mul); (exists 905); (exists 905))
  | ((with_reducible apply binD_div); (exists 905); (exists 905))
  | ((with_reducible apply subD_l); (exists 905); (exists 905))
  | ((with_reducible apply subD_t); (exists 905); (exists 905))
  | exact rfl
  | decide)
local macro_rules | `(tactic| exists 902) => `(tactic| ((with_reducible apply q_d); (exists 901); (exact rfl)))
local macro_rules | `(tactic| exists 903) => `(tactic| first
  | (with_reducible exact all_n)
  | ((with_reducible apply all_c); (exists 902); (exists 903)))
local macro_rules | `(tactic| exists 901) => `(tactic| first
  | ((with_reducible apply loc_v); exact rfl)
  | (with_reducible exact cst_v _)
  | ((with_reducible apply q_bin); (exists 902); (exists 902); (exists 904))
  | ((with_reducible apply q_sub); (exists 902); (exists 902); (exists 904))
  | ((with_reducible apply q_bi); (exists 903); (exists 904))
  | ((with_reducible apply q_fn); (exists 903); (exists 904))
  | ((with_reducible apply cmp_d); (exists 902); (exists 902); (exists 904))
  | ((with_reducible apply q_not); (exists 901))
  | ((with_reducible apply q_neg); (exists 902); (exact rfl))
  | ((with_reducible apply q_att); (exists 902); (exists 904); (exists 904))
  | ((with_reducible apply q_con); (exact rfl))
  | ((with_reducible apply q_glo); (exact rfl))
  | ((with_reducible apply q_tup); (exists 903); (exact Nat.le_of_ble_eq_true rfl))
  | ((with_reducible apply q_lst); (exists 903); (exact Nat.le_of_ble_eq_true rfl))
  | ((with_reducible apply q_isc); (exists 902); (exists 904))
  | ((with_reducible apply q_inb); (exists 902); (exact rfl); (exists 904))
  | ((with_reducible apply q_chn); (exists 902); (exists 902); (exists 904); (exists 902); (exists 904))
  | ((with_reducible apply q_and); (exists 901); (intro; exists 901))
  | ((with_reducible apply q_or); (exists 901); (intro; exists 901))
  | ((with_reducible apply q_ins); (exists 902); (exists 904))
  | ((with_reducible apply q_mk); (exists 903); (exists 903); (exists 904))
  | ((with_reducible apply q_fnk); (exists 903); (exists 903); (exists 904))
  | ((with_reducible apply q_mth); (exists 902); (exists 904); (exists 904); (exists 903); (exists 903); (exists 904))
  | ((with_reducible apply q_cm); (exists 904); (exists 903); (exists 903); (exists 904))
  | ((with_reducible apply q_lmk); (exact rfl); (exists 904); (exists 903); (exists 904))
  | ((with_reducible apply q_itr); (exists 902); (exists 904); (exists 904))
  | ((with_reducible apply q_rev); (exists 902))
  | ((with_reducible apply q_bm); (exists 902); (exact rfl); (exists 903); (exists 904))
  | ((with_reducible apply q_slc); (exists 902); (exists 908); (exists 908); (exists 904))
  | ((with_reducible apply exa_v); (exact rfl); (exists 904); (exists 904))
  | ((with_reducible apply exi_v); (exact rfl); (exists 904))
  | ((with_reducible apply exb_v); (exact rfl); (exists 904))
  | ((with_reducible apply q_fnT); (exists 903); (exists 904))
  | ((with_reducible apply q_locT); exact rfl)
  | ((with_reducible apply q_locX); (exact rfl); (exact rfl))
  | (with_reducible assumption))
local macro_rules | `(tactic| exists 908) => `(tactic| first
  | (with_reducible exact evO_nil _ _)
  | ((with_reducible apply q_o1); (exists 902)))
local macro_rules | `(tactic| exists 906) => `(tactic| first
  | ((with_reducible apply p_pl); (exists 901))
  | ((with_reducible apply p_fz); (exists 901))
  | ((with_reducible apply p_vw); (exists 901); (exact rfl))
  | ((with_reducible apply p_vo); (exists 901); (exact rfl)))
local macro_rules | `(tactic| exists 907) => `(tactic| first
  | (with_reducible exact s_nil)
  | ((with_reducible apply s_nil'); exact rfl)
  | ((with_reducible apply s_asg); (exists 906); (exact rfl))
  | ((with_reducible apply s_app); (exists 906); (exact rfl); (exact rfl); (exists 905))
  | ((with_reducible apply s_exp); (exists 906))
  | ((with_reducible apply s_ret); (exists 906))
  | ((with_reducible apply s_retn); (exists 906))
  | ((with_reducible apply s_reto); (exact rfl)))
theorem nI_len (S : List Nat) : (nI S).length = S.length := by unfold nI; rw [List.length_map]
theorem sub_nI {S : List Nat} {k : Nat} (h : k < S.length) : subD (.lst (nI S)) (.int (k : Int)) = some (.val (.int ((S.getD k 0 : Nat) : Int))) := by
  show (atI (nI S) (k : Int)).map RR.val = _
  rw [atI_n _ k (by rw [nI_len]; exact h), List.getD_eq_getElem?_getD, List.getElem?_eq_getElem h]
  unfold nI
  rw [List.getElem_map]; rfl
theorem sub_nIe {S : List Nat} (h : 0 < S.length) : subD (.lst (nI S)) (.int (-1)) = some (.val (.int ((lastN S : Nat) : Int))) := by
  show (atI (nI S) (-1)).map RR.val = _
  rw [atI_e _ (by rw [nI_len]; exact h)]
  unfold lastN
  rw [List.getD_eq_getElem?_getD, List.getElem?_eq_getElem (by omega)]
  unfold nI
  rw [List.getElem_map, Option.map_some]
  simp
theorem len_nI (S : List Nat) : biD .len [.lst (nI S)] = some (.val (.int (S.length : Nat))) := by
  show iv ((nI S).length) = _
  rw [nI_len]; rfl
theorem it_rg2 {i : Int} {m : Nat} (j : Int) (h1 : -1000 < i) (h2 : i < 1000) (h3 : -1000 < j) (h4 : j < 1000) (hm : (j - i).toNat = m) : itms .rg [D.int i, D.int j] = some (rngD i m) := by
  have z : itms .rg [D.int i, D.int j] = if okRg i ∧ okRg j then some (rngD i (j - i).toNat) else none := by rw [itms]
  rw [z, if_pos ⟨⟨by omega, by omega⟩, ⟨by omega, by omega⟩⟩, hm]
theorem szk (g : Nat → Addr) (cf : Nat → List D → Option RR) (ks : List Int) (γ : List S2) (h : γ[0]? = some (.sh (SO g ks))) : ev (wc (Phi1 g) cf) γ false (.att (.loc 0) ("size" : PySem.Str)) = some (.val (.int ks.length)) := att_v (loc_v h) (fldk g cf "size" (by decide +kernel)) (by rfl)
theorem kk (g : Nat → Addr) (cf : Nat → List D → Option RR) (ks : List Int) (γ : List S2) (h : γ[0]? = some (.sh (SO g ks))) : ev (wc (Phi1 g) cf) γ false (.att (.loc 0) ("kinds" : PySem.Str)) = some (.val (.tup (ks.map .int))) := att_v (loc_v h) (fldk g cf "kinds" (by decide +kernel)) (lkK _ _)
def peB : List IS := [.app (.fz [5, 3, 4]) 2 (.bi .tuple [(.lc (.bin .Mod (.loc 5) (.att (.loc 0) ("size" : PySem.Str))) [5] .rg [(.bin .Add (.loc 3) (.cst (.int 1))), (.bin .Add (.loc 4) (.cst (.int 1)))] [])]), .asg (.fz [4]) 3 (.loc 4)]
theorem pe_go (g : Nat → Addr) (cf : Nat → List D → Option RR) (ks : List Int) (h2 : 2 ≤ ks.length) (h24 : ks.length ≤ 24) (x1 : S2) : ∀ (B : List Nat) (a : Int), (∀ b ∈ B, b < ks.length) → -100 < a → a < 100 → ∀ (acc : List D) (x4 : S2), acc.length + B.length < 1000 →
    ∃ y3 y4, forGo (put [4]) (fun γ => evSs (wc (Phi1 g) cf) peB γ) (nI B) [.sh (SO g ks), x1, .ow acc, .sh (.int a), x4, .no] = some (.nx [.sh (SO g ks), x1, .ow (acc ++ pieces ks.length a B), y3, y4, .no]) := by
  intro B
  induction B with
  | nil =>
    intro a _ _ _ acc x4 _
    exact ⟨.sh (.int a), x4, by unfold nI pieces; rw [List.map_nil, forGo_nil, List.append_nil]⟩
  | cons p B ih =>
    intro a hB ha ha2 acc x4 hl
    have hp := hB p (List.mem_cons_self ..)
    rw [List.length_cons] at hl
    obtain ⟨y3, y4, e⟩ := ih (p : Int) (fun b hb => hB b (List.mem_cons_of_mem _ hb)) (by omega) (by omega) (acc ++ [segD ks.length a (p : Int)]) (.sh (.int (p : Int))) (by rw [List.length_append, List.length_singleton]; omega)
    refine ⟨y3, y4, ?_⟩
    unfold pieces
    have ec : nI (p :: B) = D.int (p : Int) :: nI B := rfl
    rw [List.append_cons, ec]
    refine (forGo_nx _ _ _ _ _ [.sh (SO g ks), x1, .ow acc, .sh (.int a), .sh (.int (p : Int)), .no] _ rfl ?_).trans e
    have hlc : ∀ γ : List S2, γ[0]? = some (.sh (SO g ks)) → γ[3]? = some (.sh (.int a)) → γ[4]? = some (.sh (.int (p : Int))) → (∀ d, ((blk γ [5]).set 5 (.sh d))[0]? = some (.sh (SO g ks)) ∧ ((blk γ [5]).set 5 (.sh d))[5]? = some (.sh d)) → ev (wc (Phi1 g) cf) γ false (.lc (.bin .Mod (.loc 5) (.att (.loc 0) ("size" : PySem.Str))) [5] .rg [(.bin .Add (.loc 3) (.cst (.int 1))), (.bin .Add (.loc 4) (.cst (.int 1)))] []) = some (.new ((rngD (a + 1) ((p : Int) + 1 - (a + 1)).toNat).map (modD ks.length))) := fun γ g0 g3 g4 gs =>
      lc_map (by
        rw [evD2_v (d := .int (a + 1)) (d2 := .int ((p : Int) + 1)) (add_i (loc_v g3) (cst_v _)) (add_i (loc_v g4) (cst_v _)), Option.bind_some]
        exact it_rg2 _ (by omega) (by omega) (by omega) (by omega) rfl) (by rw [Ev.rngD_len]; omega) fun d hd => by
          obtain ⟨x, rfl, _, _⟩ := rngD_mem hd
          exact ⟨_, rfl, mod_i (loc_v (gs _).2) (szk g cf ks _ (gs _).1) (by omega)⟩
    have hz := hlc [.sh (SO g ks), x1, .ow acc, .sh (.int a), .sh (.int (p : Int)), .no] rfl rfl rfl (fun d => ⟨rfl, rfl⟩)
    refine s_app (γ1 := [.sh (SO g ks), x1, .ow acc, .sh (.int a), .sh (.int (p : Int)), .no]) (x := .val (segD ks.length a (p : Int))) (ds := acc) (d := segD ks.length a (p : Int)) (p_fz (q_bi (all_c (dn hz) all_n) rfl)) rfl rfl (by omega) ?_
    exists 907
    exists 907
theorem e_stretches (g : Nat → Addr) (k : Nat) (ks : List Int) (hr : Row ks) : CA g (k + 2) 26 [SO g ks] = some (.new (piecesD ks)) := by
  have h1 := hr.lo
  have h2 := hr.hi
  have hu := e_unlike g k ks h1 h2
  rw [ca_26]
  generalize CA g (k + 1) = cf at *
  refine runF_eq (γ := [.sh (SO g ks), .no, .no, .no, .no, .no]) (o := .rn (piecesD ks)) rfl rfl ?_ rfl
  unfold ir26
  refine s_asg (p_pl (q_fn (all_c (dv (kk g cf ks _ rfl)) all_n) hu)) rfl ?_
  unfold piecesD
  by_cases hb : brk ks = []
  · rw [if_pos hb, hb]
    apply s_iteE
    · exists 901
    · rfl
    · have ht : ev (wc (Phi1 g) cf) ([S2.sh (SO g ks), .no, .no, .no, .no, .no].set 1 (.ow (nI []))) false (.bi .trg [(.att (.loc 0) ("size" : PySem.Str))]) = some (.val (.tup (rngD 0 ks.length))) := by
        refine q_bi (all_c (dv (szk g cf ks _ rfl)) all_n) ?_
        show (if (0 : Int) ≤ ks.length ∧ (ks.length : Int) ≤ 1000000 then some (RR.val (.tup (rngD 0 ((ks.length : Int)).toNat))) else none) = _
        rw [if_pos (by omega), Int.toNat_natCast]
      exact s_retn (p_pl (q_lst (all_c (dv ht) all_n) (Nat.le_of_ble_eq_true rfl)))
    · intro _ h; cases h
  · rw [if_neg hb]
    have hlt := brk_lt ks
    have hpos : 0 < (brk ks).length := by have := brk_two ks h1 hb; omega
    have hmem := hlt _ (lastN_mem hb)
    have hll : (brk ks).length ≤ ks.length := by
      unfold brk
      exact Nat.le_trans (List.length_filter_le _ _) (by rw [List.length_range]; omega)
    apply s_iteF0
    · exists 901
    · cases hq : brk ks with
      | nil => exact absurd hq hb
      | cons a r => rfl
    exists 907
    have hs := sub_nIe hpos
    refine s_asg (x := .val (.int (((lastN (brk ks) : Nat) : Int) - (ks.length : Int)))) (p_fz (q_bin (dv (q_sub (dv (loc_v rfl)) (dv (q_neg (dv (cst_v _)) rfl)) hs)) (dv (szk g cf ks _ rfl)) rfl)) rfl ?_
    obtain ⟨y3, y4, e⟩ := pe_go g cf ks h1 h2 (.sh (.lst (nI (brk ks)))) (brk ks) (((lastN (brk ks) : Nat) : Int) - (ks.length : Int)) hlt (by omega) (by omega) [] .no (by rw [List.length_nil]; omega)
    refine s_for1 (body := peB) (d := .lst (nI (brk ks))) (items := nI (brk ks)) (dv (loc_v rfl)) rfl e ?_
    exists 907
/-! the law's own stretches -/
end L01
end

section
set_option Elab.async false
set_option linter.all false
set_option maxRecDepth 100000
set_option maxHeartbeats 4000000
set_option autoImplicit false
namespace L01
open PySem PySem.Spec L2 Pd Ev
local macro_rules | `(tactic| exists 905) => `(tactic| first | decide | omega | (with_reducible assumption))
local macro_rules | `(tactic| exists 904) => `(tactic| first
  | (with_reducible assumption)
  | ((with_reducible apply q_call); with_reducible assumption)
  | ((with_reducible apply binD_mod); (exists 905))
  | ((with_reducible apply binD_mul); (exists 905); (exists 905))
  | ((with_reducible apply binD_div); (exists 905); (exists 905))
  | ((with_reducible apply subD_l); (exists 905); (exists 905))
  | ((with_reducible apply subD_t); (exists 905); (exists 905))
  | exact rfl
  | decide)
local macro_rules | `(tactic| exists 902) => `(tactic| ((with_reducible apply q_d); (exists 901); (exact rfl)))
local macro_rules | `(tactic| exists 903) => `(tactic| first
  | (with_reducible exact all_n)
  | ((with_reducible apply all_c); (exists 902); (exists 903)))
local macro_rules | `(tactic| exists 901) => `(tactic| first
  | ((with_reducible apply loc_v); exact rfl)
  | (with_reducible exact cst_v _)
  | ((with_reducible apply q_bin); (exists 902); (exists 902); (exists 904))
  | ((with_reducible apply q_sub); (exists 902); (exists 902); (exists 904))
  | ((with_reducible apply q_bi); (exists 903); (exists 904))
  | ((with_reducible apply q_fn); (exists 903); (exists 904))
  | ((with_reducible apply cmp_d); (exists 902); (exists 902); (exists 904))
  | ((with_reducible apply q_not); (exists 901))
  | ((with_reducible apply q_neg); (exists 902); (exact rfl))
  | ((with_reducible apply q_att); (exists 902); (exists 904); (exists 904))
  | ((with_reducible apply q_con); (exact rfl))
  | ((with_reducible apply q_glo); (exact rfl))
  | ((with_reducible apply q_tup); (exists 903); (exact Nat.le_of_ble_eq_true rfl))
  | ((with_reducible apply q_lst); (exists 903); (exact Nat.le_of_ble_eq_true rfl))
  | ((with_reducible apply q_isc); (exists 902); (exists 904))
  | ((with_reducible apply q_inb); (exists 902); (exact rfl); (exists 904))
  | ((with_reducible apply q_chn); (exists 902); (exists 902); (exists 904); (exists 902); (exists 904))
  | ((with_reducible apply q_and); (exists 901); (intro; exists 901))
  | ((with_reducible apply q_or); (exists 901); (intro; exists 901))
  | ((with_reducible apply q_ins); (exists 902); (exists 904))
  | ((with_reducible apply q_mk); (exists 903); (exists 903); (exists 904))
  | ((with_reducible apply q_fnk); (exists 903); (exists 903); (exists 904))
  | ((with_reducible apply q_mth); (exists 902); (exists 904); (exists 904); (exists 903); (exists 903); (exists 904))
  | ((with_reducible apply q_cm); (exists 904); (exists 903); (exists 903); (exists 904))
  | ((with_reducible apply q_lmk); (exact rfl); (exists 904); (exists 903); (exists 904))
  | ((with_reducible apply q_itr); (exists 902); (exists 904); (exists 904))
  | ((with_reducible apply q_rev); (exists 902))
  | ((with_reducible apply q_bm); (exists 902); (exact rfl); (exists 903); (exists 904))
  | ((with_reducible apply q_slc); (exists 902); (exists 908); (exists 908); (exists 904))
  | ((with_reducible apply exa_v); (exact rfl); (exists 904); (exists 904))
  | ((with_reducible apply exi_v); (exact rfl); (exists 904))
  | ((with_reducible apply exb_v); (exact rfl); (exists 904))
  | ((with_reducible apply q_fnT); (exists 903); (exists 904))
  | ((with_reducible apply q_locT); exact rfl)
  | ((with_reducible apply q_locX); (exact rfl); (exact rfl))
  | (with_reducible assumption))
local macro_rules | `(tactic| exists 908) => `(tactic| first
  | (with_reducible exact evO_nil _ _)
  | ((with_reducible apply q_o1); (exists 902)))
local macro_rules | `(tactic| exists 906) => `(tactic| first
  | ((with_reducible apply p_pl); (exists 901))
  | ((with_reducible apply p_fz); (exists 901))
  | ((with_reducible apply p_vw); (exists 901); (exact rfl))
  | ((with_reducible apply p_vo); (exists 901); (exact rfl)))
local macro_rules | `(tactic| exists 907) => `(tactic| first
  | (with_reducible exact s_nil)
  | ((with_reducible apply s_nil'); exact rfl)
  | ((with_reducible apply s_asg); (exists 906); (exact rfl))
  | ((with_reducible apply s_app); (exists 906); (exact rfl); (exact rfl); (exists 905))
  | ((with_reducible apply s_exp); (exists 906))
  | ((with_reducible apply s_ret); (exists 906))
  | ((with_reducible apply s_retn); (exists 906))
  | ((with_reducible apply s_reto); (exact rfl)))
theorem sub_prev {ks : List Int} {k : Nat} (hk : k < ks.length) : subD (.lst (ks.map .int)) (.int ((k : Int) - 1)) = some (.val (.int (ks.getD ((k + ks.length - 1) % ks.length) 0))) := by
  cases k with
  | zero =>
    show (atI (ks.map D.int) (-1)).map RR.val = _
    rw [atI_e _ (by rw [List.length_map]; exact hk), Option.map_some, show 0 + ks.length - 1 = ks.length - 1 by omega, Nat.mod_eq_of_lt (by omega), List.getD_eq_getElem?_getD, List.getElem?_eq_getElem (by omega), List.getElem_map]
    simp
  | succ k =>
    have e : (((k + 1 : Nat) : Int) - 1) = (k : Int) := by omega
    rw [e, show k + 1 + ks.length - 1 = k + ks.length by omega, Nat.add_mod_right, Nat.mod_eq_of_lt (by omega)]
    have z := subD_l (xs := ks) (n := (k : Int)) (by omega) (by rw [Int.toNat_natCast]; omega)
    rw [Int.toNat_natCast] at z
    exact z
theorem sub_at {ks : List Int} {k : Nat} (hk : k < ks.length) : subD (.lst (ks.map .int)) (.int (k : Int)) = some (.val (.int (ks.getD k 0))) := by
  have z := subD_l (xs := ks) (n := (k : Int)) (by omega) (by rw [Int.toNat_natCast]; exact hk)
  rw [Int.toNat_natCast] at z
  exact z
def stP (ks : List Int) : D → Bool
  | .int x => !decide (ks.getD x.toNat 0 = ks.getD ((x.toNat + ks.length - 1) % ks.length) 0)
  | _ => false
/-- the comprehension of places whose bead is unlike the one before -/
theorem lc_st {Φ : Phi} {γ : List S2} {ks : List Int} {r l j : Nat} (h24 : ks.length ≤ 300) (hn : evD Φ γ [.loc l] = some [.int (ks.length : Int)]) (hs : ∀ d, ((blk γ [j]).set j (.sh d))[j]? = some (.sh d) ∧ ((blk γ [j]).set j (.sh d))[r]? = some (.sh (.lst (ks.map .int)))) : ev Φ γ false (.lc (.loc j) [j] .rg [(.loc l)] [(.cmp .NotEq (.sub (.loc r) (.loc j)) (.sub (.loc r) (.bin .Sub (.loc j) (.cst (.int 1)))))]) = some (.new (nI (stQ ks))) := by
  have e : (rngD 0 ks.length).filter (stP ks) = nI (stQ ks) := by
    rw [fil_nI]
    unfold stQ stP
    congr 1
  rw [← e]
  refine lc_fil (items := rngD 0 ks.length) (p := stP ks) ?_ (by rw [Ev.rngD_len]; omega) fun d hd => ?_
  · rw [hn, Option.bind_some]
    exact it_rg0 (by omega)
  · obtain ⟨x, rfl, q1, q2⟩ := rngD_mem hd
    obtain ⟨n, rfl⟩ : ∃ n : Nat, x = n := ⟨x.toNat, by omega⟩
    have hn : n < ks.length := by omega
    have s1 := sub_at hn
    have s2 := sub_prev hn
    have hj : ev Φ ((blk γ [j]).set j (.sh (.int (n : Int)))) false (.loc j) = some (.val (.int (n : Int))) := loc_v (hs _).1
    have hr : ev Φ ((blk γ [j]).set j (.sh (.int (n : Int)))) false (.loc r) = some (.val (.lst (ks.map .int))) := loc_v (hs _).2
    refine ⟨_, rfl, ?_, hj⟩
    refine q_be (q := !decide (ks.getD n 0 = ks.getD ((n + ks.length - 1) % ks.length) 0)) ?_ rfl
    exact cmp_d (dv (q_sub (dv hr) (dv hj) s1)) (dv (q_sub (dv hr) (dv (q_bin (dv hj) (dv (cst_v _)) rfl)) s2)) rfl
def lsB : List IS := [.asg (.fz [1, 2, 4]) 5 (.bin .Mod (.bi .int [(.bin .Sub (.sub (.loc 2) (.bin .Mod (.bi .int [(.bin .Add (.loc 4) (.cst (.int 1)))]) (.bi .len [(.loc 2)]))) (.sub (.loc 2) (.loc 4)))]) (.loc 1)), .app (.fz [1, 5, 6, 2, 4]) 3 (.bi .tuple [(.lc (.bin .Mod (.bi .int [(.bin .Add (.sub (.loc 2) (.loc 4)) (.loc 6))]) (.loc 1)) [6] .rg [(.loc 5)] [])])]
theorem ls_go (Φ : Phi) (x0 : S2) (n : Nat) (hn : 0 < n) (h24 : n ≤ 24) (S : List Nat) (hx0 : x0.hd = x0) : ∀ (is : List Nat), (∀ i ∈ is, i < S.length) → ∀ (acc : List D) (x4 x5 : S2), acc.length + is.length < 1000 → (∀ ds, x5 ≠ .ow ds) → (∀ ds, x4 ≠ .ow ds) →
    ∃ y4 y5, forGo (put [4]) (fun γ => evSs Φ lsB γ) (is.map fun (i : Nat) => D.int (i : Int)) [x0, .sh (.int (n : Int)), .sh (.lst (nI S)), .ow acc, x4, x5, .no] = some (.nx [x0, .sh (.int (n : Int)), .sh (.lst (nI S)), .ow (acc ++ is.map (lseg n S)), y4, y5, .no]) := by
  intro is
  induction is with
  | nil =>
    intro _ acc x4 x5 _ _ _
    exact ⟨x4, x5, by rw [List.map_nil, List.map_nil, forGo_nil, List.append_nil]⟩
  | cons i is ih =>
    intro hh acc x4 x5 hl h5 h4
    have hi := hh i (List.mem_cons_self ..)
    rw [List.length_cons] at hl
    obtain ⟨y4, y5, e⟩ := ih (fun q hq => hh q (List.mem_cons_of_mem _ hq)) (acc ++ [lseg n S i]) (.sh (.int (i : Int))) (.sh (.int ((((S.getD ((i + 1) % S.length) 0 : Nat) : Int) - ((S.getD i 0 : Nat) : Int)) % (n : Int)))) (by rw [List.length_append, List.length_singleton]; omega) (fun _ h => by cases h) (fun _ h => by cases h)
    refine ⟨y4, y5, ?_⟩
    rw [List.map_cons, List.map_cons, List.append_cons]
    refine (forGo_nx _ _ _ _ _ [x0, .sh (.int (n : Int)), .sh (.lst (nI S)), .ow acc, .sh (.int (i : Int)), x5, .no] _ rfl ?_).trans e
    have s1 := sub_nI (S := S) hi
    have hm : (i + 1) % S.length < S.length := Nat.mod_lt _ (by omega)
    have s2 := sub_nI (S := S) hm
    rw [Int.natCast_emod] at s2
    have s2 : subD (.lst (nI S)) (.int (((i : Int) + 1) % (S.length : Int))) = some (.val (.int ((S.getD ((i + 1) % S.length) 0 : Nat) : Int))) := s2
    have hlen := len_nI S
    have hpos : (0 : Int) < S.length := by omega
    have hnp : (0 : Int) < n := by omega
    have hmo := mod_nn (((S.getD ((i + 1) % S.length) 0 : Nat) : Int) - ((S.getD i 0 : Nat) : Int)) n hnp
    refine s_asg (γ1 := [x0, .sh (.int (n : Int)), .sh (.lst (nI S)), .ow acc, .sh (.int (i : Int)), x5, .no]) (x := .val (.int ((((S.getD ((i + 1) % S.length) 0 : Nat) : Int) - ((S.getD i 0 : Nat) : Int)) % (n : Int)))) (p_fz ?_) rfl ?_
    · show ev Φ [x0, .sh (.int (n : Int)), .sh (.lst (nI S)), .ow acc, .sh (.int (i : Int)), x5, .no] false _ = _
      exists 901
    have eseg : lseg n S i = .tup ((rngD 0 ((((S.getD ((i + 1) % S.length) 0 : Nat) : Int) - ((S.getD i 0 : Nat) : Int)) % (n : Int)).toNat).map (shD ((S.getD i 0 : Nat) : Int) (n : Int))) := rfl
    rw [eseg]
    generalize (((S.getD ((i + 1) % S.length) 0 : Nat) : Int) - ((S.getD i 0 : Nat) : Int)) % (n : Int) = z at *
    have hlc : ev Φ [x0, .sh (.int (n : Int)), .sh (.lst (nI S)), .ow acc, .sh (.int (i : Int)), .sh (.int z), .no] false (.lc (.bin .Mod (.bi .int [(.bin .Add (.sub (.loc 2) (.loc 4)) (.loc 6))]) (.loc 1)) [6] .rg [(.loc 5)] []) = some (.new ((rngD 0 z.toNat).map (shD ((S.getD i 0 : Nat) : Int) (n : Int)))) := by
      refine lc_map ?_ (by rw [Ev.rngD_len]; omega) fun d hd => ?_
      · rw [evD1_v (d := .int z) (loc_v rfl), Option.bind_some]
        have q := it_rg0 (n := z.toNat) (by omega)
        rw [show ((z.toNat : Nat) : Int) = z by omega] at q
        exact q
      · obtain ⟨x, rfl, _, _⟩ := rngD_mem hd
        refine ⟨[x0, .sh (.int (n : Int)), .sh (.lst (nI S)), .no, .sh (.int (i : Int)), .sh (.int z), .sh (.int x)], by
          show some [x0.hd, _, _, _, _, _, _] = _
          rw [hx0]; rfl, ?_⟩
        show ev _ _ false _ = some (.val (.int (_ % _)))
        exists 901
    refine s_app (γ1 := [x0, .sh (.int (n : Int)), .sh (.lst (nI S)), .ow acc, .sh (.int (i : Int)), .sh (.int z), .no]) (x := .val (.tup ((rngD 0 z.toNat).map (shD ((S.getD i 0 : Nat) : Int) (n : Int))))) (ds := acc) (p_fz (q_bi (all_c (dn hlc) all_n) rfl)) rfl rfl (by omega) ?_
    exact evSs_nil _ _
theorem stS_len (ks : List Int) (h : 2 ≤ ks.length) (hb : brk ks ≠ []) : (stS ks).length = (brk ks).length := by
  have h2 := brk_two ks h hb
  show (_ :: (brk ks).dropLast.map (· + 1)).length = _
  rw [List.length_cons, List.length_map, List.length_dropLast]; omega
theorem stQ_nil (ks : List Int) (h : 2 ≤ ks.length) : stQ ks = [] ↔ brk ks = [] := by
  obtain ⟨m, hm⟩ : ∃ m, ks.length = m + 1 := ⟨ks.length - 1, by omega⟩
  rw [brk_split ks m hm, stQ_split ks m hm]
  by_cases q : ks.getD m 0 = ks.getD 0 0
  · rw [if_pos q, if_pos q, List.append_nil, List.nil_append, List.map_eq_nil_iff]
  · rw [if_neg q, if_neg q]
    simp
theorem ints_nI (S : List Nat) : ints? (nI S) = some (S.map fun (k : Nat) => (k : Int)) := by
  have e : nI S = (S.map fun (k : Nat) => (k : Int)).map D.int := by unfold nI; rw [List.map_map]; rfl
  rw [e, ints_map]
theorem cut_last (S : List Nat) (h : 0 < S.length) : slcD (.lst (nI S)) (some (-1)) none = some (.new (nI [lastN S])) := by
  show some (RR.new (cutD (nI S) (some (-1)) none)) = _
  have e1 : HT.sIx (nI S).length 0 (some (-1)) = S.length - 1 := by
    rw [nI_len]
    simp [HT.sIx]
    omega
  have e2 : HT.sIx (nI S).length (nI S).length none = S.length := by
    rw [nI_len]
    simp [HT.sIx]
  unfold cutD
  rw [e1, e2]
  have e3 : S.length - (S.length - 1) = 1 := by omega
  rw [e3]
  unfold nI
  rw [← List.map_drop, ← List.map_take, List.drop_eq_getElem_cons (by omega)]
  unfold lastN
  rw [List.getD_eq_getElem?_getD, List.getElem?_eq_getElem (by omega)]
  rfl
theorem cut_init (S : List Nat) (h : 0 < S.length) : slcD (.lst (nI S)) none (some (-1)) = some (.new (nI S.dropLast)) := by
  show some (RR.new (cutD (nI S) none (some (-1)))) = _
  have e1 : HT.sIx (nI S).length (nI S).length (some (-1)) = S.length - 1 := by
    rw [nI_len]
    simp [HT.sIx]
    omega
  have e2 : HT.sIx (nI S).length 0 none = 0 := by
    simp [HT.sIx]
  unfold cutD
  rw [e1, e2, Nat.sub_zero, List.drop_zero]
  unfold nI
  rw [← List.map_take, List.dropLast_eq_take]
theorem e_lstretches (g : Nat → Addr) (k : Nat) (ks : List Int) (hr : Row ks) : CA g (k + 1) 19 [.lst (ks.map .int)] = some (if brk ks = [] then .new (piecesD ks) else .val (.lst (piecesD ks))) := by
  have h1 := hr.lo
  have h2 := hr.hi
  have hs := stS_of ks h1
  have hq := stQ_nil ks h1
  have hp := pieces_eq ks h1
  have hsl := stS_len ks h1
  rw [← hp, ca_19]
  generalize CA g k = cf at *
  have hlen := len_lI ks
  have hll : (brk ks).length ≤ ks.length := by
    unfold brk
    exact Nat.le_trans (List.length_filter_le _ _) (by rw [List.length_range]; omega)
  by_cases hb : brk ks = []
  · rw [if_pos hb]
    unfold lpieces
    rw [if_pos hb]
    refine runF_eq (γ := [.sh (.lst (ks.map .int)), .no, .no, .no, .no, .no, .no]) (o := .rn [.tup (rngD 0 ks.length)]) rfl rfl ?_ rfl
    unfold ir19
    exists 907
    refine s_asg (p_fz (lc_st (by omega) (evD1_v (loc_v rfl)) (fun d => ⟨rfl, rfl⟩))) rfl ?_
    rw [hq.mpr hb]
    apply s_iteE
    · exists 901
    · rfl
    · refine s_retn (p_fz (q_lst (all_c (d := .tup (rngD 0 ks.length)) (dv (q_bi (all_c (dv (loc_v rfl)) all_n) ?_)) all_n) (Nat.le_of_ble_eq_true rfl)))
      show (if (0 : Int) ≤ ks.length ∧ (ks.length : Int) ≤ 1000000 then some (RR.val (.tup (rngD 0 ((ks.length : Int)).toNat))) else none) = _
      rw [if_pos (by omega), Int.toNat_natCast]
    · intro _ h; cases h
  · rw [if_neg hb]
    have hs := hs hb
    have hsl := hsl hb
    unfold lpieces
    rw [if_neg hb]
    have hne : stQ ks ≠ [] := fun z => hb (hq.mp z)
    have hpos : 0 < (stQ ks).length := by
      cases z : stQ ks with
      | nil => exact absurd z hne
      | cons a r => rw [List.length_cons]; omega
    have hqn : (stQ ks).length ≤ 300 := by
      unfold stQ
      exact Nat.le_trans (List.length_filter_le _ _) (by rw [List.length_range]; omega)
    have s0 : subD (.lst (nI (stQ ks))) (.int 0) = some (.val (.int (((stQ ks).getD 0 0 : Nat) : Int))) := sub_nI (S := stQ ks) (k := 0) hpos
    have i1 := ints_nI (stQ ks)
    have ceq : cmpD .Eq (.lst (nI (stQ ks))) (.lst []) = some false := by
      show ((ints? (nI (stQ ks))).bind fun x => (ints? []).map fun y => decide (x = y)) = _
      rw [i1]
      cases z : stQ ks with
      | nil => exact absurd z hne
      | cons a r => rfl
    have cl := cut_last (stQ ks) hpos
    have ci := cut_init (stQ ks) hpos
    refine runF_eq (γ := [.sh (.lst (ks.map .int)), .no, .no, .no, .no, .no, .no]) (o := .rt (.lst ((List.range (stS ks).length).map (lseg ks.length (stS ks))))) rfl rfl ?_ rfl
    unfold ir19
    exists 907
    refine s_asg (p_fz (lc_st (by omega) (evD1_v (loc_v rfl)) (fun d => ⟨rfl, rfl⟩))) rfl ?_
    apply s_iteF0
    · exists 901
    · rfl
    have step : ∃ S2', (S2' = S2.ow (nI (stS ks)) ∨ S2' = S2.sh (.lst (nI (stS ks)))) ∧ ∀ (r : List IS) (o : Option Out), evSs (wc (Phi1 g) cf) r [.sh (.lst (ks.map .int)), .sh (.int ks.length), S2', .no, .no, .no, .no] = o → evSs (wc (Phi1 g) cf) (.ite (.cmp .NotEq (.sub (.loc 2) (.cst (.int 0))) (.cst (.int 0))) [.asg (.fz [2]) 2 (.bin .Add (.slc (.loc 2) [(.neg (.cst (.int 1)))] []) (.slc (.loc 2) [] [(.neg (.cst (.int 1)))]))] [] :: r) [.sh (.lst (ks.map .int)), .sh (.int ks.length), .ow (nI (stQ ks)), .no, .no, .no, .no] = o := by
      by_cases q0 : (stQ ks).getD 0 0 = 0
      · rw [if_pos q0] at hs
        refine ⟨.ow (nI (stQ ks)), .inl (by rw [hs]), fun r o h => ?_⟩
        apply s_iteF0
        · exists 901
        · rw [q0]; rfl
        exact h
      · rw [if_neg q0] at hs
        refine ⟨.ow (nI [lastN (stQ ks)] ++ nI (stQ ks).dropLast), .inl (by rw [hs]; rfl), fun r o h => ?_⟩
        have ad : binD .Add (.lst (nI [lastN (stQ ks)])) (.lst (nI (stQ ks).dropLast)) = some (.new (nI [lastN (stQ ks)] ++ nI (stQ ks).dropLast)) := if_pos (by rw [nI_len, nI_len, List.length_dropLast, List.length_singleton]; omega)
        refine s_iteT (γ2 := [.sh (.lst (ks.map .int)), .sh (.int ks.length), .ow (nI [lastN (stQ ks)] ++ nI (stQ ks).dropLast), .no, .no, .no, .no]) (q := !decide ((((stQ ks).getD 0 0 : Nat) : Int) = 0)) ?_ ?_ ?_ h
        · exists 901
        · rw [decide_eq_false (by omega)]; rfl
        · exists 907
          exists 907
    obtain ⟨x2, hx2, step⟩ := step
    refine step _ _ ?_
    exists 907
    have hc : (fun (i : Nat) => D.int (i : Int)) = (fun (i : Nat) => D.int (0 + (i : Int))) := by funext i; rw [Int.zero_add]
    obtain ⟨y4, y5, e⟩ := ls_go (wc (Phi1 g) cf) (.sh (.lst (ks.map .int))) ks.length (by omega) h2 (stS ks) rfl (List.range (stS ks).length) (fun i hi => List.mem_range.mp hi) [] .no .no (by rw [List.length_range, List.length_nil]; omega) (fun _ h => by cases h) (fun _ h => by cases h)
    have er : ((List.range (stS ks).length).map fun (i : Nat) => D.int (i : Int)) = rngD 0 (stS ks).length := by rw [rng0, List.map_map]; rfl
    rw [er, List.nil_append] at e
    have hlS := len_nI (stS ks)
    have fr : frz ([S2.sh (.lst (ks.map .int)), .sh (.int ks.length), x2, .no, .no, .no, .no].set 3 (.ow [])) [2] = [.sh (.lst (ks.map .int)), .sh (.int ks.length), .sh (.lst (nI (stS ks))), .ow [], .no, .no, .no] := by
      rcases hx2 with rfl | rfl <;> rfl
    refine s_for1 (body := lsB) (d := .int (stS ks).length) (items := rngD 0 (stS ks).length) ?_ (it_rg0 (by omega)) (by rw [fr]; exact e) ?_
    · rw [fr]
      exact dv (q_bi (all_c (dv (loc_v rfl)) all_n) hlS)
    exists 907
end L01
end

section
set_option Elab.async false
set_option linter.all false
set_option maxRecDepth 100000
set_option maxHeartbeats 4000000
set_option autoImplicit false
namespace L01
open PySem PySem.Spec L2 Pd Ev
local macro_rules | `(tactic| exists 905) => `(tactic| first | decide | omega | (with_reducible assumption))
local macro_rules | `(tactic| exists 904) => `(tactic| first
  | (with_reducible assumption)
  | ((with_reducible apply q_call); with_reducible assumption)
  | ((with_reducible apply binD_mod); (exists 905))
  | ((with_reducible apply binD_mul); (exists 905); (exists 905))
  | ((with_reducible apply binD_div); (exists 905); (exists 905))
  | ((with_reducible apply subD_l); (exists 905); (exists 905))
  | ((with_reducible apply subD_t); (exists 905); (exists 905))
  | exact rfl
  | decide)
local macro_rules | `(tactic| exists 902) => `(tactic| ((with_reducible apply q_d); (exists 901); (exact rfl)))
local macro_rules | `(tactic| exists 903) => `(tactic| first
  | (with_reducible exact all_n)
  | ((with_reducible apply all_c); (exists 902); (exists 903)))
local macro_rules | `(tactic| exists 901) => `(tactic| first
  | ((with_reducible apply loc_v); exact rfl)
  | (with_reducible exact cst_v _)
  | ((with_reducible apply q_bin); (exists 902); (exists 902); (exists 904))
  | ((with_reducible apply q_sub); (exists 902); (exists 902); (exists 904))
  | ((with_reducible apply q_bi); (exists 903); (exists 904))
  | ((with_reducible apply q_fn); (exists 903); (exists 904))
  | ((with_reducible apply cmp_d); (exists 902); (exists 902); (exists 904))
  | ((with_reducible apply q_not); (exists 901))
  | ((with_reducible apply q_neg); (exists 902); (exact rfl))
  | ((with_reducible apply q_att); (exists 902); (exists 904); (exists 904))
  | ((with_reducible apply q_con); (exact rfl))
  | ((with_reducible apply q_glo); (exact rfl))
  | ((with_reducible apply q_tup); (exists 903); (exact Nat.le_of_ble_eq_true rfl))
  | ((with_reducible apply q_lst); (exists 903); (exact Nat.le_of_ble_eq_true rfl))
  | ((with_reducible apply q_isc); (exists 902); (exists 904))
  | ((with_reducible apply q_inb); (exists 902); (exact rfl); (exists 904))
  | ((with_reducible apply q_chn); (exists 902); (exists 902); (exists 904); (exists 902); (exists 904))
  | ((with_reducible apply q_and); (exists 901); (intro; exists 901))
  | ((with_reducible apply q_or); (exists 901); (intro; exists 901))
  | ((with_reducible apply q_ins); (exists 902); (exists 904))
  | ((with_reducible apply q_mk); (exists 903); (exists 903); (exists 904))
  | ((with_reducible apply q_fnk); (exists 903); (exists 903); (exists 904))
  | ((with_reducible apply q_mth); (exists 902); (exists 904); (exists 904); (exists 903); (exists 903); (exists 904))
  | ((with_reducible apply q_cm); (exists 904); (exists 903); (exists 903); (exists 904))
  | ((with_reducible apply q_lmk); (exact rfl); (exists 904); (exists 903); (exists 904))
  | ((with_reducible apply q_itr); (exists 902); (exists 904); (exists 904))
  | ((with_reducible apply q_rev); (exists 902))
  | ((with_reducible apply q_bm); (exists 902); (exact rfl); (exists 903); (exists 904))
  | ((with_reducible apply q_slc); (exists 902); (exists 908); (exists 908); (exists 904))
  | ((with_reducible apply exa_v); (exact rfl); (exists 904); (exists 904))
  | ((with_reducible apply exi_v); (exact rfl); (exists 904))
  | ((with_reducible apply exb_v); (exact rfl); (exists 904))
  | ((with_reducible apply q_fnT); (exists 903); (exists 904))
  | ((with_reducible apply q_locT); exact rfl)
  | ((with_reducible apply q_locX); (exact rfl); (exact rfl))
  | (with_reducible assumption))
local macro_rules | `(tactic| exists 908) => `(tactic| first
  | (with_reducible exact evO_nil _ _)
  | ((with_reducible apply q_o1); (exists 902)))
local macro_rules | `(tactic| exists 906) => `(tactic| first
  | ((with_reducible apply p_pl); (exists 901))
  | ((with_reducible apply p_fz); (exists 901))
  | ((with_reducible apply p_vw); (exists 901); (exact rfl))
  | ((with_reducible apply p_vo); (exists 901); (exact rfl)))
local macro_rules | `(tactic| exists 907) => `(tactic| first
  | (with_reducible exact s_nil)
  | ((with_reducible apply s_nil'); exact rfl)
  | ((with_reducible apply s_asg); (exists 906); (exact rfl))
  | ((with_reducible apply s_app); (exists 906); (exact rfl); (exact rfl); (exists 905))
  | ((with_reducible apply s_exp); (exists 906))
  | ((with_reducible apply s_ret); (exists 906))
  | ((with_reducible apply s_retn); (exists 906))
  | ((with_reducible apply s_reto); (exact rfl)))
theorem sub_lastL {ks : List Int} (h : 0 < ks.length) : subD (.lst (ks.map .int)) (.int (-1)) = some (.val (.int (ks.getD (ks.length - 1) 0))) := by
  show (atI (ks.map D.int) (-1)).map RR.val = _
  rw [atI_e _ (by rw [List.length_map]; exact h), Option.map_some, List.getD_eq_getElem?_getD, List.getElem?_eq_getElem (by omega), List.getElem_map]
  simp
theorem stQ_len (ks : List Int) (h : 2 ≤ ks.length) : (stQ ks).length = (brk ks).length := by
  obtain ⟨m, hm⟩ : ∃ m, ks.length = m + 1 := ⟨ks.length - 1, by omega⟩
  rw [brk_split ks m hm, stQ_split ks m hm, List.length_append, List.length_append, List.length_map]
  by_cases q : ks.getD m 0 = ks.getD 0 0
  · rw [if_pos q, if_pos q, List.length_nil, Nat.add_comm]
  · rw [if_neg q, if_neg q, List.length_singleton, List.length_singleton, Nat.add_comm]
/-! places whose kind is new -/
def frs (ks : List Int) : List Nat := (List.range ks.length).filter fun k => !decide (ks.getD k 0 ∈ ks.take k)
theorem kinds_snoc (l : List Int) (a : Int) : (kinds (l ++ [a])).length = (kinds l).length + (if a ∈ l then 0 else 1) := by
  by_cases h : a ∈ l
  · rw [if_pos h, Nat.add_zero]
    refine List.Perm.length_eq ((List.perm_ext_iff_of_nodup (kinds_nd _) (kinds_nd _)).mpr fun x => ?_)
    rw [kinds_mem, kinds_mem, List.mem_append, List.mem_singleton]
    constructor
    · rintro (z | rfl)
      · exact z
      · exact h
    · exact Or.inl
  · rw [if_neg h, ← List.length_singleton (a := a), ← List.length_append]
    refine List.Perm.length_eq ((List.perm_ext_iff_of_nodup (kinds_nd _) ?_).mpr fun x => ?_)
    · rw [List.nodup_append]
      refine ⟨kinds_nd _, by simp, fun x hx y hy => ?_⟩
      rw [List.mem_singleton] at hy
      subst hy
      intro e
      subst e
      exact h (kinds_mem.mp hx)
    · rw [kinds_mem, List.mem_append, List.mem_append, kinds_mem]
theorem frs_snoc (l : List Int) (a : Int) : (frs (l ++ [a])).length = (frs l).length + (if a ∈ l then 0 else 1) := by
  unfold frs
  rw [List.length_append, List.length_singleton, List.range_succ, List.filter_append, List.length_append]
  congr 1
  · congr 1
    apply List.filter_congr
    intro k hk
    have hk := List.mem_range.mp hk
    rw [List.take_append_of_le_length (by omega), List.getD_eq_getElem?_getD, List.getElem?_append_left hk, ← List.getD_eq_getElem?_getD]
  · rw [List.filter_cons, List.filter_nil, List.take_append_of_le_length (Nat.le_refl _), List.take_length, List.getD_eq_getElem?_getD, List.getElem?_append_right (Nat.le_refl _), Nat.sub_self]
    show (if (!decide (a ∈ l)) = true then [l.length] else []).length = _
    by_cases h : a ∈ l
    · rw [if_pos h, decide_eq_true h]; rfl
    · rw [if_neg h, decide_eq_false h]; rfl
theorem snoc_ind {P : List Int → Prop} (h0 : P []) (hs : ∀ l a, P l → P (l ++ [a])) (l : List Int) : P l := by
  have : ∀ r : List Int, P r.reverse := fun r => by
    induction r with
    | nil => exact h0
    | cons a r ih => rw [List.reverse_cons]; exact hs _ _ ih
  have z := this l.reverse
  rw [List.reverse_reverse] at z
  exact z
theorem frs_len (ks : List Int) : (frs ks).length = (kinds ks).length := by
  refine snoc_ind (P := fun ks => (frs ks).length = (kinds ks).length) rfl (fun l a ih => ?_) ks
  rw [frs_snoc, kinds_snoc, ih]
theorem mem_I (i : Int) : ∀ xs : List Int, memI i (xs.map D.int) = some (decide (i ∈ xs))
  | [] => rfl
  | j :: r => by
    rw [List.map_cons]
    show (memI i (r.map D.int)).map (fun b => decide (i = j) || b) = _
    rw [mem_I i r, Option.map_some]
    congr 1
    by_cases h1 : i = j <;> by_cases h2 : i ∈ r <;> simp [h1, h2]
def frP (ks : List Int) : D → Bool
  | .int x => !decide (ks.getD x.toNat 0 ∈ ks.take x.toNat)
  | _ => false
theorem lc_fr {Φ : Phi} {γ : List S2} {ks : List Int} {r l j : Nat} (h24 : ks.length ≤ 300) (hn : evD Φ γ [.loc l] = some [.int (ks.length : Int)]) (hs : ∀ d, ((blk γ [j]).set j (.sh d))[j]? = some (.sh d) ∧ ((blk γ [j]).set j (.sh d))[r]? = some (.sh (.lst (ks.map .int)))) : ev Φ γ false (.lc (.loc j) [j] .rg [(.loc l)] [(.cmp .NotIn (.sub (.loc r) (.loc j)) (.slc (.loc r) [] [(.loc j)]))]) = some (.new (nI (frs ks))) := by
  have e : (rngD 0 ks.length).filter (frP ks) = nI (frs ks) := by
    rw [fil_nI]
    unfold frs frP
    congr 1
  rw [← e]
  refine lc_fil (items := rngD 0 ks.length) (p := frP ks) ?_ (by rw [Ev.rngD_len]; omega) fun d hd => ?_
  · rw [hn, Option.bind_some]
    exact it_rg0 (by omega)
  · obtain ⟨x, rfl, q1, q2⟩ := rngD_mem hd
    obtain ⟨n, rfl⟩ : ∃ n : Nat, x = n := ⟨x.toNat, by omega⟩
    have hn : n < ks.length := by omega
    have s1 := sub_at hn
    have s2 : slcD (.lst (ks.map .int)) none (some (n : Int)) = some (.new ((ks.take n).map .int)) := by
      show some (RR.new (cutD (ks.map .int) none (some (n : Int)))) = _
      rw [cut_lo _ _ (by rw [List.length_map]; omega), List.map_take]
    have hj : ev Φ ((blk γ [j]).set j (.sh (.int (n : Int)))) false (.loc j) = some (.val (.int (n : Int))) := loc_v (hs _).1
    have hr : ev Φ ((blk γ [j]).set j (.sh (.int (n : Int)))) false (.loc r) = some (.val (.lst (ks.map .int))) := loc_v (hs _).2
    refine ⟨_, rfl, ?_, hj⟩
    refine q_be (q := !decide (ks.getD n 0 ∈ ks.take n)) ?_ rfl
    refine cmp_d (dv (q_sub (dv hr) (dv hj) s1)) (dn (q_slc (dv hr) (evO_nil _ _) (q_o1 (dv hj)) s2)) ?_
    show (memI (ks.getD n 0) ((ks.take n).map D.int)).map _ = _
    rw [mem_I]; rfl
/-! the walk over all pairs -/
def pr (x y : Int) : D := .tup [.int x, .int y]
def wkB : List IS := [.app (.fz [10, 12]) 9 (.tup [(.loc 10), (.loc 12)]), .ite (.cmp .Gt (.bi .len [(.loc 9)]) (.bin .Mult (.loc 2) (.loc 2))) [.ret .pl (.cst (.bl false))] []]
theorem wk_in (Φ : Phi) (a0 a1 a3 a4 a5 a6 a7 a8 a11 : S2) (n : Nat) (hn : n < 9) (x : Int) : ∀ (ys : List Int) (acc : List D) (x12 : S2), acc.length + ys.length ≤ n * n → ∃ y12, forGo (put [12]) (fun γ => evSs Φ wkB γ) (ys.map .int) [a0, a1, .sh (.int (n : Int)), a3, a4, a5, a6, a7, a8, .ow acc, .sh (.int x), a11, x12] = some (.nx [a0, a1, .sh (.int (n : Int)), a3, a4, a5, a6, a7, a8, .ow (acc ++ ys.map (pr x)), .sh (.int x), a11, y12]) := by
  intro ys
  induction ys with
  | nil => exact fun acc x12 _ => ⟨x12, by rw [List.map_nil, List.map_nil, forGo_nil, List.append_nil]⟩
  | cons y ys ih =>
    intro acc x12 hl
    have hnn : n * n ≤ 64 := Nat.mul_le_mul (show n ≤ 8 by omega) (show n ≤ 8 by omega)
    rw [List.length_cons] at hl
    obtain ⟨y12, e⟩ := ih (acc ++ [pr x y]) (.sh (.int y)) (by rw [List.length_append, List.length_singleton]; omega)
    refine ⟨y12, ?_⟩
    rw [List.map_cons, List.map_cons, List.append_cons]
    refine (forGo_nx _ _ _ _ _ [a0, a1, .sh (.int (n : Int)), a3, a4, a5, a6, a7, a8, .ow acc, .sh (.int x), a11, .sh (.int y)] _ rfl ?_).trans e
    unfold wkB
    refine s_app (γ1 := [a0, a1, .sh (.int (n : Int)), a3, a4, a5, a6, a7, a8, .ow acc, .sh (.int x), a11, .sh (.int y)]) (x := .val (pr x y)) (d := pr x y) (ds := acc) (p_fz (tup_2 (loc_v rfl) (loc_v rfl))) rfl rfl (by omega) ?_
    have hm : binD .Mult (.int (n : Int)) (.int (n : Int)) = some (.val (.int ((n : Int) * n))) := binD_mul (by omega) (by omega)
    have hq : ((n : Int) * n) = ((n * n : Nat) : Int) := by rw [Int.natCast_mul]
    apply s_iteF0
    · exists 901
    · rw [hq]
      apply decide_eq_false
      rw [List.length_append, List.length_singleton]
      omega
    exists 907
def wkA : List IS := [.for [] [12] .ow [.itr (.loc 0)] wkB]
def pairs (ks xs : List Int) : List D := (xs.map fun x => ks.map (pr x)).flatten
theorem pairs_len (ks xs : List Int) : (pairs ks xs).length = xs.length * ks.length := by
  unfold pairs
  induction xs with
  | nil => simp
  | cons x xs ih => rw [List.map_cons, List.flatten_cons, List.length_append, ih, List.length_map, List.length_cons, Nat.succ_mul, Nat.add_comm]
theorem itf0 (g : Nat → Addr) (cf : Nat → List D → Option RR) : (wc (Phi1 g) cf).itf (g 0) = some ("kinds" : PySem.Str) := by
  show (if g 0 = g 0 then _ else _) = _
  rw [if_pos rfl]
theorem it_v (g : Nat → Addr) (cf : Nat → List D → Option RR) (ks : List Int) (γ : List S2) (h : γ[0]? = some (.sh (SO g ks))) : ev (wc (Phi1 g) cf) γ false (.itr (.loc 0)) = some (.val (.tup (ks.map .int))) := q_itr (dv (loc_v h)) (itf0 g cf) (lkK _ _)
theorem wk_out (g : Nat → Addr) (cf : Nat → List D → Option RR) (ks : List Int) (hn : ks.length < 9) (a1 a3 a4 a5 a6 a7 a8 a11 : S2) : ∀ (xs : List Int) (acc : List D) (x10 x12 : S2), acc.length + xs.length * ks.length ≤ ks.length * ks.length → ∃ y10 y12, forGo (put [10]) (fun γ => evSs (wc (Phi1 g) cf) wkA γ) (xs.map .int) [.sh (SO g ks), a1, .sh (.int (ks.length : Int)), a3, a4, a5, a6, a7, a8, .ow acc, x10, a11, x12] = some (.nx [.sh (SO g ks), a1, .sh (.int (ks.length : Int)), a3, a4, a5, a6, a7, a8, .ow (acc ++ pairs ks xs), y10, a11, y12]) := by
  intro xs
  induction xs with
  | nil => exact fun acc x10 x12 _ => ⟨x10, x12, by rw [List.map_nil, forGo_nil]; unfold pairs; rw [List.map_nil, List.flatten_nil, List.append_nil]⟩
  | cons x xs ih =>
    intro acc x10 x12 hl
    rw [List.length_cons, Nat.succ_mul] at hl
    obtain ⟨z12, e1⟩ := wk_in (wc (Phi1 g) cf) (.sh (SO g ks)) a1 a3 a4 a5 a6 a7 a8 a11 ks.length hn x ks acc x12 (by omega)
    obtain ⟨y10, y12, e⟩ := ih (acc ++ ks.map (pr x)) (.sh (.int x)) z12 (by rw [List.length_append, List.length_map]; omega)
    refine ⟨y10, y12, ?_⟩
    have ep : pairs ks (x :: xs) = ks.map (pr x) ++ pairs ks xs := rfl
    rw [List.map_cons, ep, ← List.append_assoc]
    refine (forGo_nx _ _ _ _ _ [.sh (SO g ks), a1, .sh (.int (ks.length : Int)), a3, a4, a5, a6, a7, a8, .ow acc, .sh (.int x), a11, x12] _ rfl ?_).trans e
    unfold wkA
    exact s_for1 (body := wkB) (d := .tup (ks.map .int)) (items := ks.map .int) (dv (it_v g cf ks _ rfl)) rfl e1 (evSs_nil _ _)
end L01
end

section
set_option Elab.async false
set_option linter.all false
set_option maxRecDepth 100000
set_option maxHeartbeats 4000000
set_option autoImplicit false
namespace L01
open PySem PySem.Spec L2 Pd Ev
local macro_rules | `(tactic| exists 905) => `(tactic| first | decide | omega | (with_reducible assumption))
local macro_rules | `(tactic| exists 904) => `(tactic| first
  | (with_reducible assumption)
  | ((with_reducible apply q_call); with_reducible assumption)
  | ((with_reducible apply binD_mod); (exists 905))
  | ((with_reducible apply binD_mul); (exists 905); (exists 905))
  | ((with_reducible apply binD_div); (exists 905); (exists 905))
  | ((with_reducible apply subD_l); (exists 905); (exists 905))
  | ((with_reducible apply subD_t); (exists 905); (exists 905))
  | exact rfl
  | decide)
local macro_rules | `(tactic| exists 902) => `(tactic| ((with_reducible apply q_d); (exists 901); (exact rfl)))
local macro_rules | `(tactic| exists 903) => `(tactic| first
  | (with_reducible exact all_n)
  | ((with_reducible apply all_c); (exists 902); (exists 903)))
local macro_rules | `(tactic| exists 901) => `(tactic| first
  | ((with_reducible apply loc_v); exact rfl)
  | (with_reducible exact cst_v _)
  | ((with_reducible apply q_bin); (exists 902); (exists 902); (exists 904))
  | ((with_reducible apply q_sub); (exists 902); (exists 902); (exists 904))
  | ((with_reducible apply q_bi); (exists 903); (exists 904))
  | ((with_reducible apply q_fn); (exists 903); (exists 904))
  | ((with_reducible apply cmp_d); (exists 902); (exists 902); (exists 904))
  | ((with_reducible apply q_not); (exists 901))
  | ((with_reducible apply q_neg); (exists 902); (exact rfl))
  | ((with_reducible apply q_att); (exists 902); (exists 904); (exists 904))
  | ((with_reducible apply q_con); (exact rfl))
  | ((with_reducible apply q_glo); (exact rfl))
  | ((with_reducible apply q_tup); (exists 903); (exact Nat.le_of_ble_eq_true rfl))
  | ((with_reducible apply q_lst); (exists 903); (exact Nat.le_of_ble_eq_true rfl))
  | ((with_reducible apply q_isc); (exists 902); (exists 904))
  | ((with_reducible apply q_inb); (exists 902); (exact rfl); (exists 904))
  | ((with_reducible apply q_chn); (exists 902); (exists 902); (exists 904); (exists 902); (exists 904))
  | ((with_reducible apply q_and); (exists 901); (intro; exists 901))
  | ((with_reducible apply q_or); (exists 901); (intro; exists 901))
  | ((with_reducible apply q_ins); (exists 902); (exists 904))
  | ((with_reducible apply q_mk); (exists 903); (exists 903); (exists 904))
  | ((with_reducible apply q_fnk); (exists 903); (exists 903); (exists 904))
  | ((with_reducible apply q_mth); (exists 902); (exists 904); (exists 904); (exists 903); (exists 903); (exists 904))
  | ((with_reducible apply q_cm); (exists 904); (exists 903); (exists 903); (exists 904))
  | ((with_reducible apply q_lmk); (exact rfl); (exists 904); (exists 903); (exists 904))
  | ((with_reducible apply q_itr); (exists 902); (exists 904); (exists 904))
  | ((with_reducible apply q_rev); (exists 902))
  | ((with_reducible apply q_bm); (exists 902); (exact rfl); (exists 903); (exists 904))
  | ((with_reducible apply q_slc); (exists 902); (exists 908); (exists 908); (exists 904))
  | ((with_reducible apply exa_v); (exact rfl); (exists 904); (exists 904))
  | ((with_reducible apply exi_v); (exact rfl); (exists 904))
  | ((with_reducible apply exb_v); (exact rfl); (exists 904))
  | ((with_reducible apply q_fnT); (exists 903); (exists 904))
  | ((with_reducible apply q_locT); exact rfl)
  | ((with_reducible apply q_locX); (exact rfl); (exact rfl))
  | (with_reducible assumption))
local macro_rules | `(tactic| exists 908) => `(tactic| first
  | (with_reducible exact evO_nil _ _)
  | ((with_reducible apply q_o1); (exists 902)))
local macro_rules | `(tactic| exists 906) => `(tactic| first
  | ((with_reducible apply p_pl); (exists 901))
  | ((with_reducible apply p_fz); (exists 901))
  | ((with_reducible apply p_vw); (exists 901); (exact rfl))
  | ((with_reducible apply p_vo); (exists 901); (exact rfl)))
local macro_rules | `(tactic| exists 907) => `(tactic| first
  | (with_reducible exact s_nil)
  | ((with_reducible apply s_nil'); exact rfl)
  | ((with_reducible apply s_asg); (exists 906); (exact rfl))
  | ((with_reducible apply s_app); (exists 906); (exact rfl); (exact rfl); (exists 905))
  | ((with_reducible apply s_exp); (exists 906))
  | ((with_reducible apply s_ret); (exists 906))
  | ((with_reducible apply s_retn); (exists 906))
  | ((with_reducible apply s_reto); (exact rfl)))
theorem pairs_at1 (ks : List Int) (h : 0 < ks.length) : subD (.lst (pairs ks ks)) (.int ((ks.length : Int) - 1)) = some (.val (pr (ks.getD 0 0) (ks.getD (ks.length - 1) 0))) := by
  have e0 : ((ks.length : Int) - 1) = ((ks.length - 1 : Nat) : Int) := by omega
  show (atI (pairs ks ks) ((ks.length : Int) - 1)).map RR.val = _
  have hl : ks.length - 1 < (pairs ks ks).length := by
    rw [pairs_len]
    have := Nat.mul_le_mul (show 1 ≤ ks.length by omega) (Nat.le_refl ks.length)
    omega
  rw [e0, atI_n _ _ hl, Option.map_some]
  congr 2
  cases ks with
  | nil => cases h
  | cons x xs =>
    have ep : pairs (x :: xs) (x :: xs) = (x :: xs).map (pr x) ++ pairs (x :: xs) xs := rfl
    have hm : (x :: xs).length - 1 < ((x :: xs).map (pr x)).length := by rw [List.length_map]; omega
    have : (pairs (x :: xs) (x :: xs))[(x :: xs).length - 1]? = some (pr x ((x :: xs).getD ((x :: xs).length - 1) 0)) := by
      rw [ep, List.getElem?_append_left hm, List.getElem?_map, List.getD_eq_getElem?_getD, List.getElem?_eq_getElem (by rw [List.length_cons]; omega)]
      rfl
    rw [List.getElem?_eq_getElem hl] at this
    exact Option.some.inj this
theorem pairs_last (ks : List Int) (h : 0 < ks.length) (xs : List Int) (hx : xs ≠ []) : ∃ hl : 0 < (pairs ks xs).length, (pairs ks xs)[(pairs ks xs).length - 1]'(by omega) = pr (xs.getLast hx) (ks.getD (ks.length - 1) 0) := by
  induction xs with
  | nil => exact absurd rfl hx
  | cons x xs ih =>
    have ep : pairs ks (x :: xs) = ks.map (pr x) ++ pairs ks xs := rfl
    have hl : 0 < (pairs ks (x :: xs)).length := by
      rw [ep, List.length_append, List.length_map]; omega
    refine ⟨hl, ?_⟩
    by_cases hq : xs = []
    · subst hq
      have : (pairs ks [x])[(pairs ks [x]).length - 1]? = some (pr x (ks.getD (ks.length - 1) 0)) := by
        have e2 : pairs ks [x] = ks.map (pr x) := by unfold pairs; simp
        rw [e2, List.length_map, List.getElem?_map, List.getD_eq_getElem?_getD, List.getElem?_eq_getElem (by omega)]
        rfl
      rw [List.getElem?_eq_getElem (by omega)] at this
      exact Option.some.inj this
    · obtain ⟨hl2, e⟩ := ih hq
      have : (pairs ks (x :: xs))[(pairs ks (x :: xs)).length - 1]? = some (pr (xs.getLast hq) (ks.getD (ks.length - 1) 0)) := by
        rw [ep, List.length_append, List.getElem?_append_right (by omega), ← e, ← List.getElem?_eq_getElem]
        congr 1
        omega
      rw [List.getElem?_eq_getElem (by omega)] at this
      rw [List.getLast_cons hq]
      exact Option.some.inj this
theorem pairs_at2 (ks : List Int) (h : 0 < ks.length) : subD (.lst (pairs ks ks)) (.int (-1)) = some (.val (pr (ks.getD (ks.length - 1) 0) (ks.getD (ks.length - 1) 0))) := by
  have hx : ks ≠ [] := fun z => by rw [z] at h; cases h
  obtain ⟨hl, e⟩ := pairs_last ks h ks hx
  show (atI (pairs ks ks) (-1)).map RR.val = _
  rw [atI_e _ hl, e, Option.map_some, List.getLast_eq_getElem, List.getD_eq_getElem?_getD, List.getElem?_eq_getElem (by omega)]
  rfl
theorem isO0 (g : Nat → Addr) (cf : Nat → List D → Option RR) : (wc (Phi1 g) cf).isO (g 0) 0 = some true := by
  show (if g 0 = g 0 ∧ 0 = 0 then some true else none) = _
  rw [if_pos ⟨rfl, rfl⟩]
theorem me1 (g : Nat → Addr) (cf : Nat → List D → Option RR) : (wc (Phi1 g) cf).meth (g 0) 1 = some 26 := by
  show (if g 0 = g 0 then meT.lookup 1 else none) = _
  rw [if_pos rfl]; rfl
theorem me2 (g : Nat → Addr) (cf : Nat → List D → Option RR) : (wc (Phi1 g) cf).meth (g 0) 2 = some 27 := by
  show (if g 0 = g 0 then meT.lookup 2 else none) = _
  rw [if_pos rfl]; rfl
theorem pieces_len (n : Nat) : ∀ (B : List Nat) (a : Int), (pieces n a B).length = B.length
  | [], _ => rfl
  | p :: r, a => by
    unfold pieces
    rw [List.length_cons, List.length_cons, pieces_len n r]
theorem piecesD_len (ks : List Int) (hr : Row ks) : 0 < (piecesD ks).length ∧ (piecesD ks).length < 1000 := by
  have h1 := hr.lo
  have h2 := hr.hi
  unfold piecesD
  by_cases hb : brk ks = []
  · rw [if_pos hb]
    exact ⟨Nat.le_of_ble_eq_true rfl, Nat.le_of_ble_eq_true rfl⟩
  · rw [if_neg hb, pieces_len]
    have := brk_two ks h1 hb
    have hll : (brk ks).length ≤ ks.length := by
      unfold brk
      exact Nat.le_trans (List.length_filter_le _ _) (by rw [List.length_range]; omega)
    omega
theorem gd_rng (n : Nat) (a : Int) (m : Nat) (hm : m < 1000) (f : D → D) (hf : ∀ i, ∃ j, f (.int i) = .int j) : Gd (n + 1) (.tup ((rngD a m).map f)) := gd_t (by rw [List.length_map, Ev.rngD_len]; exact hm) fun x hx => by
  obtain ⟨d, hd, rfl⟩ := List.mem_map.mp hx
  obtain ⟨i, rfl, _, _⟩ := rngD_mem hd
  obtain ⟨j, e⟩ := hf i
  rw [e]
  exact gd_i n j
theorem gd_seg (n m : Nat) (a b : Int) (h : (b - a) < 1000) : Gd (n + 1) (segD m a b) := gd_rng n _ _ (by omega) _ fun i => ⟨_, rfl⟩
theorem gd_pieces (ks : List Int) (hr : Row ks) : Gd 2 (.lst (piecesD ks)) := by
  have h1 := hr.lo
  have h2 := hr.hi
  refine gd_l (piecesD_len ks hr).2 fun x hx => ?_
  unfold piecesD at hx
  by_cases hb : brk ks = []
  · rw [if_pos hb] at hx
    rw [List.mem_singleton.mp hx]
    have e : rngD 0 ks.length = (rngD 0 ks.length).map fun d => d := by rw [List.map_id']
    rw [e]
    exact gd_rng 0 0 _ (by omega) _ fun i => ⟨i, rfl⟩
  · rw [if_neg hb] at hx
    have hlt := brk_lt ks
    have gp : ∀ (B : List Nat) (a : Int), -100 < a → (∀ b ∈ B, b < ks.length) → ∀ x ∈ pieces ks.length a B, Gd 1 x := by
      intro B
      induction B with
      | nil => intro a _ _ x hx; cases hx
      | cons p r ih =>
        intro a ha hB x hx
        have hp := hB p (List.mem_cons_self ..)
        unfold pieces at hx
        rcases List.mem_cons.mp hx with rfl | hx
        · exact gd_seg 0 _ _ _ (by omega)
        · exact ih (p : Int) (by omega) (fun b hb => hB b (List.mem_cons_of_mem _ hb)) x hx
    have hmem := hlt _ (lastN_mem hb)
    exact gp _ _ (by omega) hlt x hx
theorem int_bl (b : Bool) : biD .int [.bl b] = some (.val (.int (if b then 1 else 0))) := rfl
def told (ks : List Int) : List D := [.tup (ks.map .int), .int ks.length, .int ((brk ks).length : Nat), .int (endU ks), .int ((kinds ks).length : Nat)]
theorem gd_told (ks : List Int) (hr : Row ks) : Gd 2 (.lst (told ks)) := by
  have h2 := hr.hi
  refine gd_l (by show 5 < 1000; decide) fun x hx => ?_
  simp only [told, List.mem_cons, List.not_mem_nil, or_false] at hx
  rcases hx with rfl | rfl | rfl | rfl | rfl
  · exact gd_ti (by omega)
  · exact gd_i 1 _
  · exact gd_i 1 _
  · exact gd_i 1 _
  · exact gd_i 1 _
end L01
end

section
set_option Elab.async false
set_option linter.all false
set_option maxRecDepth 100000
set_option maxHeartbeats 4000000
set_option autoImplicit false
namespace L01
open PySem PySem.Spec L2 Pd Ev
local macro_rules | `(tactic| exists 905) => `(tactic| first | decide | omega | (with_reducible assumption))
local macro_rules | `(tactic| exists 904) => `(tactic| first
  | (with_reducible assumption)
  | ((with_reducible apply q_call); with_reducible assumption)
  | ((with_reducible apply binD_mod); (exists 905))
  | ((with_reducible apply binD_mul); (exists 905); (exists 905))
  | ((with_reducible apply binD_div); (exists 905); (exists 905))
  | ((with_reducible apply subD_l); (exists 905); (exists 905))
  | ((with_reducible apply subD_t); (exists 905); (exists 905))
  | exact rfl
  | decide)
local macro_rules | `(tactic| exists 902) => `(tactic| ((with_reducible apply q_d); (exists 901); (exact rfl)))
local macro_rules | `(tactic| exists 903) => `(tactic| first
  | (with_reducible exact all_n)
  | ((with_reducible apply all_c); (exists 902); (exists 903)))
local macro_rules | `(tactic| exists 901) => `(tactic| first
  | ((with_reducible apply loc_v); exact rfl)
  | (with_reducible exact cst_v _)
  | ((with_reducible apply q_bin); (exists 902); (exists 902); (exists 904))
  | ((with_reducible apply q_sub); (exists 902); (exists 902); (exists 904))
  | ((with_reducible apply q_bi); (exists 903); (exists 904))
  | ((with_reducible apply q_fn); (exists 903); (exists 904))
  | ((with_reducible apply cmp_d); (exists 902); (exists 902); (exists 904))
  | ((with_reducible apply q_not); (exists 901))
  | ((with_reducible apply q_neg); (exists 902); (exact rfl))
  | ((with_reducible apply q_att); (exists 902); (exists 904); (exists 904))
  | ((with_reducible apply q_con); (exact rfl))
  | ((with_reducible apply q_glo); (exact rfl))
  | ((with_reducible apply q_tup); (exists 903); (exact Nat.le_of_ble_eq_true rfl))
  | ((with_reducible apply q_lst); (exists 903); (exact Nat.le_of_ble_eq_true rfl))
  | ((with_reducible apply q_isc); (exists 902); (exists 904))
  | ((with_reducible apply q_inb); (exists 902); (exact rfl); (exists 904))
  | ((with_reducible apply q_chn); (exists 902); (exists 902); (exists 904); (exists 902); (exists 904))
  | ((with_reducible apply q_and); (exists 901); (intro; exists 901))
  | ((with_reducible apply q_or); (exists 901); (intro; exists 901))
  | ((with_reducible apply q_ins); (exists 902); (exists 904))
  | ((with_reducible apply q_mk); (exists 903); (exists 903); (exists 904))
  | ((with_reducible apply q_fnk); (exists 903); (exists 903); (exists 904))
  | ((with_reducible apply q_mth); (exists 902); (exists 904); (exists 904); (exists 903); (exists 903); (exists 904))
  | ((with_reducible apply q_cm); (exists 904); (exists 903); (exists 903); (exists 904))
  | ((with_reducible apply q_lmk); (exact rfl); (exists 904); (exists 903); (exists 904))
  | ((with_reducible apply q_itr); (exists 902); (exists 904); (exists 904))
  | ((with_reducible apply q_rev); (exists 902))
  | ((with_reducible apply q_bm); (exists 902); (exact rfl); (exists 903); (exists 904))
  | ((with_reducible apply q_slc); (exists 902); (exists 908); (exists 908); (exists 904))
  | ((with_reducible apply exa_v); (exact rfl); (exists 904); (exists 904))
  | ((with_reducible apply exi_v); (exact rfl); (exists 904))
  | ((with_reducible apply exb_v); (exact rfl); (exists 904))
  | ((with_reducible apply q_fnT); (exists 903); (exists 904))
  | ((with_reducible apply q_locT); exact rfl)
  | ((with_reducible apply q_locX); (exact rfl); (exact rfl))
  | (with_reducible assumption))
local macro_rules | `(tactic| exists 908) => `(tactic| first
  | (with_reducible exact evO_nil _ _)
  | ((with_reducible apply q_o1); (exists 902)))
local macro_rules | `(tactic| exists 906) => `(tactic| first
  | ((with_reducible apply p_pl); (exists 901))
  | ((with_reducible apply p_fz); (exists 901))
  | ((with_reducible apply p_vw); (exists 901); (exact rfl))
  | ((with_reducible apply p_vo); (exists 901); (exact rfl)))
local macro_rules | `(tactic| exists 907) => `(tactic| first
  | (with_reducible exact s_nil)
  | ((with_reducible apply s_nil'); exact rfl)
  | ((with_reducible apply s_asg); (exists 906); (exact rfl))
  | ((with_reducible apply s_app); (exists 906); (exact rfl); (exact rfl); (exists 905))
  | ((with_reducible apply s_exp); (exists 906))
  | ((with_reducible apply s_ret); (exists 906))
  | ((with_reducible apply s_retn); (exists 906))
  | ((with_reducible apply s_reto); (exact rfl)))
theorem e_tells (g : Nat → Addr) (k : Nat) (ks : List Int) (hr : Row ks) : CA g (k + 5) 20 [SO g ks, .lst (ks.map .int)] = some (.val (.bl true)) := by
  have h1 := hr.lo
  have h2 := hr.hi
  rw [ca_20]
  have sm1 : CA g (k + 4) 8 [.lst (told ks), .lst (told ks)] = some (.val (.bl true)) := sm_of g 2 k _ (gd_told ks hr)
  have sm2 : CA g (k + 4) 8 [.lst (ks.map .int), .lst (ks.map .int)] = some (.val (.bl true)) := sm_of g 2 k _ (gd_li (by omega))
  have sm3 : CA g (k + 4) 8 [.lst (piecesD ks), .lst (piecesD ks)] = some (.val (.bl true)) := sm_of g 2 k _ (gd_pieces ks hr)
  have hst := e_stretches g (k + 2) ks hr
  have hls := e_lstretches g (k + 3) ks hr
  generalize CA g (k + 4) = cf at *
  have l19 : ∀ γ : List S2, γ[1]? = some (.sh (.lst (ks.map .int))) → RR.d? (ev (wc (Phi1 g) cf) γ false (.fn 19 [(.loc 1)])) = some (.lst (piecesD ks)) := fun γ h => by
    rw [q_fn (all_c (dv (loc_v h)) all_n) hls]
    by_cases hb : brk ks = []
    · rw [if_pos hb]; rfl
    · rw [if_neg hb]; rfl
  have l26 : ∀ γ : List S2, γ[0]? = some (.sh (SO g ks)) → ev (wc (Phi1 g) cf) γ false (.mth (.loc 0) 1 6 [] []) = some (.new (piecesD ks)) := fun γ h => q_mth (C := g 0) (fs := f5 ks) (dv (loc_v h)) (me1 g cf) (by rfl) all_n all_n hst
  obtain ⟨pl, pl2⟩ := piecesD_len ks hr
  have isO := isO0 g cf
  have n8 : ∀ (γ : List S2), γ[1]? = some (.sh (.lst (ks.map .int))) → γ[7]? = some (.sh (.lst (piecesD ks))) → ev (wc (Phi1 g) cf) γ true (.not (.fn 8 [(.loc 7), (.fn 19 [(.loc 1)])])) = some (.val (.bl (!true))) := fun γ a b => q_not (q_fnT (all_c (dv (loc_v b)) (all_c (l19 γ a) all_n)) sm3)
  refine runF_eq (γ := [.sh (SO g ks), .sh (.lst (ks.map .int)), .no, .no, .no, .no, .no, .no, .no, .no, .no, .no, .no]) (o := .rt (.bl true)) rfl rfl ?_ rfl
  unfold ir20
  have hlen := len_lI ks
  refine s_iteF0 (q := !true) (q_not (q_ins (dv (loc_v rfl)) isO)) rfl ?_
  exists 907
  refine s_asg (p_fz (lc_st (by omega) (evD1_v (loc_v rfl)) (fun d => ⟨rfl, rfl⟩))) rfl ?_
  refine s_asg (p_fz (lc_fr (by omega) (evD1_v (loc_v rfl)) (fun d => ⟨rfl, rfl⟩))) rfl ?_
  show evSs (wc (Phi1 g) cf) _ [.sh (SO g ks), .sh (.lst (ks.map .int)), .sh (.int ks.length), .ow (nI (stQ ks)), .ow (nI (frs ks)), .no, .no, .no, .no, .no, .no, .no, .no] = _
  have fd : ∀ (f : Str) (d : D) (γ : List S2), γ[0]? = some (.sh (SO g ks)) → f ∈ fldL → (f5 ks).lookup f = some d → RR.d? (ev (wc (Phi1 g) cf) γ false (.att (.loc 0) f)) = some d := fun f d γ a b c => dv (att_v (loc_v a) (fldk g cf f b) c)
  refine s_asg (x := .new (told ks)) (p_pl (lst_a (ds := told ks) (all_c (fd _ _ _ rfl (by decide +kernel) (by rfl)) <| all_c (fd _ _ _ rfl (by decide +kernel) (by rfl)) <| all_c (fd _ _ _ rfl (by decide +kernel) (by rfl)) <| all_c (fd _ _ _ rfl (by decide +kernel) (by rfl)) <| all_c (fd _ _ _ rfl (by decide +kernel) (by rfl)) all_n) (Nat.le_of_ble_eq_true rfl))) rfl ?_
  have s0 : subD (.lst (ks.map .int)) (.int 0) = some (.val (.int (ks.getD 0 0))) := sub_at (k := 0) (by omega)
  have s9 := sub_lastL (ks := ks) (by omega)
  have el : biD .int [.bl (!decide (ks.getD 0 0 = ks.getD (ks.length - 1) 0))] = some (.val (.int (endU ks))) := by
    unfold endU
    by_cases q : ks.getD 0 0 = ks.getD (ks.length - 1) 0
    · rw [if_neg (fun z => z q), decide_eq_true q]; rfl
    · rw [if_pos q, decide_eq_false q]; rfl
  have ll1 : biD .len [.lst (nI (stQ ks))] = some (.val (.int ((brk ks).length : Nat))) := by rw [len_nI, stQ_len ks h1]
  have ll2 : biD .len [.lst (nI (frs ks))] = some (.val (.int ((kinds ks).length : Nat))) := by rw [len_nI, frs_len]
  refine s_asg (x := .new (told ks)) (p_fz (lst_a (ds := told ks) (all_c (dv (q_bi (all_c (dv (loc_v rfl)) all_n) rfl)) <| all_c (dv (loc_v rfl)) <| all_c (dv (q_bi (all_c (dv (loc_v rfl)) all_n) ll1)) <| all_c (dv (q_bi (all_c (dv (cmp_d (dv (q_sub (dv (loc_v rfl)) (dv (cst_v _)) s0)) (dv (q_sub (dv (loc_v rfl)) (dv (q_neg (dv (cst_v _)) rfl)) s9)) rfl)) all_n) el)) <| all_c (dv (q_bi (all_c (dv (loc_v rfl)) all_n) ll2)) all_n) (Nat.le_of_ble_eq_true rfl))) rfl ?_
  show evSs (wc (Phi1 g) cf) _ [.sh (SO g ks), .sh (.lst (ks.map .int)), .sh (.int ks.length), .sh (.lst (nI (stQ ks))), .sh (.lst (nI (frs ks))), .ow (told ks), .ow (told ks), .no, .no, .no, .no, .no, .no] = _
  refine s_iteF0 (q := !true || !true) (q_or (q_not (q_fnT (all_c (dv (loc_v rfl)) (all_c (dv (loc_v rfl)) all_n)) sm1)) fun _ => q_not (q_fnT (all_c (dn (q_bi (all_c (dv (it_v g cf ks _ rfl)) all_n) rfl)) (all_c (dn (q_bi (all_c (dv (loc_v rfl)) all_n) rfl)) all_n)) sm2)) rfl ?_
  have walk : ∃ y9 y10 y12, ∀ (r : List IS) (o : Option Out), evSs (wc (Phi1 g) cf) r [.sh (SO g ks), .sh (.lst (ks.map .int)), .sh (.int ks.length), .sh (.lst (nI (stQ ks))), .sh (.lst (nI (frs ks))), .ow (told ks), .ow (told ks), .no, .no, y9, y10, .no, y12] = o → evSs (wc (Phi1 g) cf) (.ite (.cmp .Lt (.loc 2) (.cst (.int 9))) [.asg .pl 9 (.lst []), .for [] [10] .ow [.itr (.loc 0)] wkA, .ite (.or (.cmp .NotEq (.bi .len [(.loc 9)]) (.bin .Mult (.loc 2) (.loc 2))) (.or (.cmp .NotEq (.sub (.loc 9) (.bin .Sub (.loc 2) (.cst (.int 1)))) (.tup [(.sub (.loc 1) (.cst (.int 0))), (.sub (.loc 1) (.neg (.cst (.int 1))))])) (.cmp .NotEq (.sub (.loc 9) (.neg (.cst (.int 1)))) (.tup [(.sub (.loc 1) (.neg (.cst (.int 1)))), (.sub (.loc 1) (.neg (.cst (.int 1))))])))) [.ret .pl (.cst (.bl false))] []] [] :: r) [.sh (SO g ks), .sh (.lst (ks.map .int)), .sh (.int ks.length), .sh (.lst (nI (stQ ks))), .sh (.lst (nI (frs ks))), .ow (told ks), .ow (told ks), .no, .no, .no, .no, .no, .no] = o := by
    by_cases h9 : ks.length < 9
    · obtain ⟨y10, y12, e⟩ := wk_out g cf ks h9 (.sh (.lst (ks.map .int))) (.sh (.lst (nI (stQ ks)))) (.sh (.lst (nI (frs ks)))) (.ow (told ks)) (.ow (told ks)) .no .no .no ks [] .no .no (by rw [List.length_nil]; omega)
      refine ⟨.ow (pairs ks ks), y10, y12, fun r o h => ?_⟩
      have p1 := pairs_at1 ks (by omega)
      have p2 := pairs_at2 ks (by omega)
      have pl : biD .len [.lst (pairs ks ks)] = some (.val (.int ((ks.length : Int) * ks.length))) := by
        show iv ((pairs ks ks).length) = _
        rw [pairs_len, Int.natCast_mul]; rfl
      have hm : binD .Mult (.int (ks.length : Int)) (.int (ks.length : Int)) = some (.val (.int ((ks.length : Int) * ks.length))) := binD_mul (by omega) (by omega)
      have ne : ∀ a b : Int, cmpD .NotEq (pr a b) (pr a b) = some false := fun a b => by
        show some (!decide ([a, b] = [a, b])) = _
        rw [decide_eq_true rfl]; rfl
      refine s_iteT (q := decide ((ks.length : Int) < 9)) ?_ (decide_eq_true (by omega)) ?_ h
      · exists 901
      exists 907
      refine s_for1 (body := wkA) (d := .tup (ks.map .int)) (items := ks.map .int) (dv (it_v g cf ks _ rfl)) rfl e ?_
      refine s_iteF0 (q := (!decide (((ks.length : Int) * ks.length) = (ks.length : Int) * ks.length)) || (false || false)) (q_or (cmp_d (dv (q_bi (all_c (dv (loc_v rfl)) all_n) pl)) (dv (q_bin (dv (loc_v rfl)) (dv (loc_v rfl)) hm)) rfl) fun _ => q_or (cmp_d (dv (q_sub (dv (loc_v rfl)) (dv (q_bin (dv (loc_v rfl)) (dv (cst_v _)) rfl)) p1)) (dv (tup_2 (q_sub (dv (loc_v rfl)) (dv (cst_v _)) s0) (q_sub (dv (loc_v rfl)) (dv (q_neg (dv (cst_v _)) rfl)) s9))) (ne _ _)) fun _ => cmp_d (dv (q_sub (dv (loc_v rfl)) (dv (q_neg (dv (cst_v _)) rfl)) p2)) (dv (tup_2 (q_sub (dv (loc_v rfl)) (dv (q_neg (dv (cst_v _)) rfl)) s9) (q_sub (dv (loc_v rfl)) (dv (q_neg (dv (cst_v _)) rfl)) s9))) (ne _ _)) (by rw [decide_eq_true rfl]; rfl) ?_
      exists 907
    · refine ⟨.no, .no, .no, fun r o h => ?_⟩
      refine s_iteF0 (q := decide ((ks.length : Int) < 9)) ?_ (decide_eq_false (by omega)) h
      exists 901
  obtain ⟨y9, y10, y12, walk⟩ := walk
  refine walk _ _ ?_
  refine s_asg (p_pl (l26 _ rfl)) rfl ?_
  refine s_iteF0 (q := !true) (n8 _ rfl rfl) rfl ?_
  refine s_asg (p_pl (l26 _ rfl)) rfl ?_
  have ix0 : ixN (piecesD ks).length 0 = some 0 := by
    unfold ixN
    rw [if_pos (by decide), if_pos (by omega)]; rfl
  refine s_seti (jj := 0) (n := 0) (ds := piecesD ks) (x := .val (.tup [.int ks.length, .int ks.length])) (p_fz (tup_2 (loc_v rfl) (loc_v rfl))) rfl (cst_v _) rfl ix0 ?_
  have t0 : ∀ γ : List S2, ev (wc (Phi1 g) cf) γ false (.tup []) = some (.val (.tup [])) := fun γ => tup_a all_n (by decide)
  refine s_app (ds := (piecesD ks).set 0 (.tup [.int ks.length, .int ks.length])) (x := .val (.tup [])) (p_pl (t0 _)) rfl rfl (by rw [List.length_set]; omega) ?_
  refine s_iteF0 (q := !true) (n8 _ rfl rfl) rfl ?_
  refine s_seti (jj := 0) (n := 0) (ds := piecesD ks) (x := .val (.tup [.int ks.length, .int ks.length])) (p_fz (tup_2 (loc_v rfl) (loc_v rfl))) rfl (cst_v _) rfl ix0 ?_
  refine s_app (ds := (piecesD ks).set 0 (.tup [.int ks.length, .int ks.length])) (x := .val (.tup [])) (p_pl (t0 _)) rfl rfl (by rw [List.length_set]; omega) ?_
  exact s_ret (p_pl (q_fn (all_c (dn (l26 _ rfl)) (all_c (l19 _ rfl) all_n)) sm3))
end L01
end

section
set_option Elab.async false
set_option linter.all false
set_option maxRecDepth 100000
set_option maxHeartbeats 4000000
set_option autoImplicit false
namespace L01
open PySem PySem.Spec L2 Pd Ev
local macro_rules | `(tactic| exists 905) => `(tactic| first | decide | omega | (with_reducible assumption))
local macro_rules | `(tactic| exists 904) => `(tactic| first
  | (with_reducible assumption)
  | ((with_reducible apply q_call); with_reducible assumption)
  | ((with_reducible apply binD_mod); (exists 905))
  | ((with_reducible apply binD_mul); (exists 905); (exists 905))
  | ((with_reducible apply binD_div); (exists 905); (exists 905))
  | ((with_reducible apply subD_l); (exists 905); (exists 905))
  | ((with_reducible apply subD_t); (exists 905); (exists 905))
  | exact rfl
  | decide)
local macro_rules | `(tactic| exists 902) => `(tactic| ((with_reducible apply q_d); (exists 901); (exact rfl)))
local macro_rules | `(tactic| exists 903) => `(tactic| first
  | (with_reducible exact all_n)
  | ((with_reducible apply all_c); (exists 902); (exists 903)))
local macro_rules | `(tactic| exists 901) => `(tactic| first
  | ((with_reducible apply loc_v); exact rfl)
  | (with_reducible exact cst_v _)
  | ((with_reducible apply q_bin); (exists 902); (exists 902); (exists 904))
  | ((with_reducible apply q_sub); (exists 902); (exists 902); (exists 904))
  | ((with_reducible apply q_bi); (exists 903); (exists 904))
  | ((with_reducible apply q_fn); (exists 903); (exists 904))
  | ((with_reducible apply cmp_d); (exists 902); (exists 902); (exists 904))
  | ((with_reducible apply q_not); (exists 901))
  | ((with_reducible apply q_neg); (exists 902); (exact rfl))
  | ((with_reducible apply q_att); (exists 902); (exists 904); (exists 904))
  | ((with_reducible apply q_con); (exact rfl))
  | ((with_reducible apply q_glo); (exact rfl))
  | ((with_reducible apply q_tup); (exists 903); (exact Nat.le_of_ble_eq_true rfl))
  | ((with_reducible apply q_lst); (exists 903); (exact Nat.le_of_ble_eq_true rfl))
  | ((with_reducible apply q_isc); (exists 902); (exists 904))
  | ((with_reducible apply q_inb); (exists 902); (exact rfl); (exists 904))
  | ((with_reducible apply q_chn); (exists 902); (exists 902); (exists 904); (exists 902); (exists 904))
  | ((with_reducible apply q_and); (exists 901); (intro; exists 901))
  | ((with_reducible apply q_or); (exists 901); (intro; exists 901))
  | ((with_reducible apply q_ins); (exists 902); (exists 904))
  | ((with_reducible apply q_mk); (exists 903); (exists 903); (exists 904))
  | ((with_reducible apply q_fnk); (exists 903); (exists 903); (exists 904))
  | ((with_reducible apply q_mth); (exists 902); (exists 904); (exists 904); (exists 903); (exists 903); (exists 904))
  | ((with_reducible apply q_cm); (exists 904); (exists 903); (exists 903); (exists 904))
  | ((with_reducible apply q_lmk); (exact rfl); (exists 904); (exists 903); (exists 904))
  | ((with_reducible apply q_itr); (exists 902); (exists 904); (exists 904))
  | ((with_reducible apply q_rev); (exists 902))
  | ((with_reducible apply q_bm); (exists 902); (exact rfl); (exists 903); (exists 904))
  | ((with_reducible apply q_slc); (exists 902); (exists 908); (exists 908); (exists 904))
  | ((with_reducible apply exa_v); (exact rfl); (exists 904); (exists 904))
  | ((with_reducible apply exi_v); (exact rfl); (exists 904))
  | ((with_reducible apply exb_v); (exact rfl); (exists 904))
  | ((with_reducible apply q_fnT); (exists 903); (exists 904))
  | ((with_reducible apply q_locT); exact rfl)
  | ((with_reducible apply q_locX); (exact rfl); (exact rfl))
  | (with_reducible assumption))
local macro_rules | `(tactic| exists 908) => `(tactic| first
  | (with_reducible exact evO_nil _ _)
  | ((with_reducible apply q_o1); (exists 902)))
local macro_rules | `(tactic| exists 906) => `(tactic| first
  | ((with_reducible apply p_pl); (exists 901))
  | ((with_reducible apply p_fz); (exists 901))
  | ((with_reducible apply p_vw); (exists 901); (exact rfl))
  | ((with_reducible apply p_vo); (exists 901); (exact rfl)))
local macro_rules | `(tactic| exists 907) => `(tactic| first
  | (with_reducible exact s_nil)
  | ((with_reducible apply s_nil'); exact rfl)
  | ((with_reducible apply s_asg); (exists 906); (exact rfl))
  | ((with_reducible apply s_app); (exists 906); (exact rfl); (exact rfl); (exists 905))
  | ((with_reducible apply s_exp); (exists 906))
  | ((with_reducible apply s_ret); (exists 906))
  | ((with_reducible apply s_retn); (exists 906))
  | ((with_reducible apply s_reto); (exact rfl)))
theorem due_gd {ks : List Int} {d : D} (h : dueF ks = some d) : Gd 1 (.tup [.str "BadStrand", d]) := by
  refine gd_t (by show 2 < 1000; decide) fun x hx => ?_
  simp only [List.mem_cons, List.not_mem_nil, or_false] at hx
  rcases hx with rfl | rfl
  · exact gd_s 0 _
  · unfold dueF at h
    split at h
    · cases h; exact gd_non 0
    · cases z : (List.range ks.length).find? fun i => badK (ks.getD i 0) with
      | none => rw [z] at h; cases h
      | some i => rw [z] at h; cases h; exact gd_i 0 _
theorem e_judged (g : Nat → Addr) (k : Nat) (ks : List Int) (h3 : ks.length ≤ 300) : CA g (k + 6) 21 [madeD g ks, .lst (ks.map .int)] = some (.val (.bl true)) := by
  rw [ca_21]
  have hd := e_due g (k + 4) ks h3
  unfold madeD
  cases q : dueF ks with
  | none =>
    have ht := e_tells g k ks (due_row q)
    have e : dueD ks = .non := by unfold dueD; rw [q]
    rw [e] at hd
    generalize CA g (k + 5) = cf at *
    refine runF_eq (γ := [.sh (.tup [.str "ok", SO g ks]), .sh (.lst (ks.map .int)), .no]) (o := .rt (.bl true)) rfl rfl ?_ rfl
    unfold ir21
    exists 907
    apply s_iteF0
    · exists 901
    · rfl
    have c : cmpD .Eq (.str ("ok" : PySem.Str)) (.str ("ok" : PySem.Str)) = some true := by
      show some (decide (("ok" : PySem.Str) = "ok")) = _
      rw [decide_eq_true rfl]
    show _ = some (Out.rt (.bl (true && true)))
    exact s_ret (p_pl (q_and (cmp_d (d1 := .str "ok") (dv (q_sub (dv (loc_v rfl)) (dv (cst_v _)) rfl)) (dv (cst_v _)) c) fun _ => q_fn (all_c (dv (q_sub (dv (loc_v rfl)) (dv (cst_v _)) rfl)) (all_c (dv (loc_v rfl)) all_n)) ht))
  | some d =>
    have e : dueD ks = .tup [.str "BadStrand", d] := by unfold dueD; rw [q]
    rw [e] at hd
    have sm : CA g (k + 5) 8 [.tup [.str "BadStrand", d], .tup [.str "BadStrand", d]] = some (.val (.bl true)) := sm_of g 1 (k + 2) _ (due_gd q)
    generalize CA g (k + 5) = cf at *
    refine runF_eq (γ := [.sh (.tup [.str "BadStrand", d]), .sh (.lst (ks.map .int)), .no]) (o := .rt (.bl true)) rfl rfl ?_ rfl
    unfold ir21
    exists 907
    apply s_iteE
    · exists 901
    · rfl
    · exact s_ret (p_fz (q_fn (all_c (dv (loc_v rfl)) (all_c (dv (loc_v rfl)) all_n)) sm))
    · intro _ h; cases h
def tuA : List IS := [.asg (.fz [6]) 8 (.tup [(.cst (.str ("ok" : PySem.Str))), (.bi .tuple [(.bin .Add (.slc (.loc 1) [(.loc 6)] []) (.slc (.loc 1) [] [(.loc 6)]))])]), .ite (.not (.fn 8 [(.fn 16 [(.loc 0), (.loc 6), (.loc 4)]), (.loc 8)])) [.ret .pl (.cst (.bl false))] []]
def tuB : List IS := [.ite (.not (.fn 8 [(.fn 16 [(.loc 0), (.loc 6), (.loc 4)]), (.tup [(.cst (.str ("NoSuchBead" : PySem.Str))), (.loc 6)])])) [.ret .pl (.cst (.bl false))] []]
/-- the row turned, by slices -/
theorem slc_turn {Φ : Phi} {γ : List S2} {ks : List Int} {r j n : Nat} (hn : n ≤ ks.length) (hk : ks.length ≤ 300) (h1 : γ[r]? = some (.sh (.lst (ks.map .int)))) (h2 : γ[j]? = some (.sh (.int (n : Int)))) : ev Φ γ false (.bin .Add (.slc (.loc r) [(.loc j)] []) (.slc (.loc r) [] [(.loc j)])) = some (.new ((ks.drop n ++ ks.take n).map .int)) := by
  have s1 : slcD (.lst (ks.map .int)) (some (n : Int)) none = some (.new ((ks.drop n).map .int)) := by
    show some (RR.new (cutD (ks.map .int) (some (n : Int)) none)) = _
    rw [cut_hi _ _ (by rw [List.length_map]; omega), List.map_drop]
  have s2 : slcD (.lst (ks.map .int)) none (some (n : Int)) = some (.new ((ks.take n).map .int)) := by
    show some (RR.new (cutD (ks.map .int) none (some (n : Int)))) = _
    rw [cut_lo _ _ (by rw [List.length_map]; omega), List.map_take]
  have ad : binD .Add (.lst ((ks.drop n).map .int)) (.lst ((ks.take n).map .int)) = some (.new ((ks.drop n ++ ks.take n).map .int)) := by
    rw [List.map_append]
    exact if_pos (by rw [List.length_map, List.length_map, List.length_drop, List.length_take]; omega)
  exact q_bin (dn (q_slc (dv (loc_v h1)) (q_o1 (dv (loc_v h2))) (evO_nil _ _) s1)) (dn (q_slc (dv (loc_v h1)) (evO_nil _ _) (q_o1 (dv (loc_v h2))) s2)) ad
theorem tu_go (Φ : Phi) (S : D) (ks : List Int) (h24 : ks.length ≤ 24) (a2 a3 : S2) (b : Bool) (x5 x7 : S2) (h16 : ∀ n : Nat, n < ks.length → Φ.call 16 [S, .int (n : Int), .bl b] = some (.val (.tup [.str "ok", .tup ((ks.drop n ++ ks.take n).map .int)])))
    (h8 : ∀ n : Nat, n < ks.length → Φ.call 8 [.tup [.str "ok", .tup ((ks.drop n ++ ks.take n).map .int)], .tup [.str "ok", .tup ((ks.drop n ++ ks.take n).map .int)]] = some (.val (.bl true))) : ∀ (is : List Nat), (∀ i ∈ is, i < ks.length) → ∀ (x6 x8 : S2), ∃ y6 y8, forGo (put [6]) (fun γ => evSs Φ tuA γ) (is.map fun (i : Nat) => D.int (i : Int)) [.sh S, .sh (.lst (ks.map .int)), a2, a3, .sh (.bl b), x5, x6, x7, x8] = some (.nx [.sh S, .sh (.lst (ks.map .int)), a2, a3, .sh (.bl b), x5, y6, x7, y8]) := by
  intro is
  induction is with
  | nil => exact fun _ x6 x8 => ⟨x6, x8, by rw [List.map_nil, forGo_nil]⟩
  | cons i is ih =>
    intro hh x6 x8
    have hi := hh i (List.mem_cons_self ..)
    obtain ⟨y6, y8, e⟩ := ih (fun q hq => hh q (List.mem_cons_of_mem _ hq)) (.sh (.int (i : Int))) (.sh (.tup [.str "ok", .tup ((ks.drop i ++ ks.take i).map .int)]))
    refine ⟨y6, y8, ?_⟩
    rw [List.map_cons]
    refine (forGo_nx _ _ _ _ _ [.sh S, .sh (.lst (ks.map .int)), a2, a3, .sh (.bl b), x5, .sh (.int (i : Int)), x7, x8] _ rfl ?_).trans e
    unfold tuA
    refine s_asg (γ1 := [.sh S, .sh (.lst (ks.map .int)), a2, a3, .sh (.bl b), x5, .sh (.int (i : Int)), x7, x8]) (p_fz (tup_2 (cst_v _) (q_bi (all_c (dn (slc_turn (by omega) (by omega) rfl rfl)) all_n) rfl))) rfl ?_
    refine s_iteF0 (q := !true) (q_not (q_fnT (all_c (dv (q_fn (all_c (dv (loc_v rfl)) (all_c (dv (loc_v rfl)) (all_c (dv (loc_v rfl)) all_n))) (h16 i hi))) (all_c (dv (loc_v rfl)) all_n)) (h8 i hi))) rfl ?_
    exact evSs_nil _ _
theorem tub_go (Φ : Phi) (S : D) (a1 a2 a3 : S2) (b : Bool) (x5 x7 x8 : S2) : ∀ (is : List Int), (∀ n ∈ is, Φ.call 16 [S, .int n, .bl b] = some (.val (.tup [.str "NoSuchBead", .int n]))) → (∀ n ∈ is, Φ.call 8 [.tup [.str "NoSuchBead", .int n], .tup [.str "NoSuchBead", .int n]] = some (.val (.bl true))) → ∀ (x6 : S2), ∃ y6, forGo (put [6]) (fun γ => evSs Φ tuB γ) (is.map .int) [.sh S, a1, a2, a3, .sh (.bl b), x5, x6, x7, x8] = some (.nx [.sh S, a1, a2, a3, .sh (.bl b), x5, y6, x7, x8]) := by
  intro is
  induction is with
  | nil => exact fun _ _ x6 => ⟨x6, by rw [List.map_nil, forGo_nil]⟩
  | cons i is ih =>
    intro h16 h8 x6
    obtain ⟨y6, e⟩ := ih (fun q hq => h16 q (List.mem_cons_of_mem _ hq)) (fun q hq => h8 q (List.mem_cons_of_mem _ hq)) (.sh (.int i))
    refine ⟨y6, ?_⟩
    rw [List.map_cons]
    refine (forGo_nx _ _ _ _ _ [.sh S, a1, a2, a3, .sh (.bl b), x5, .sh (.int i), x7, x8] _ rfl ?_).trans e
    unfold tuB
    refine s_iteF0 (q := !true) (q_not (q_fnT (all_c (dv (q_fn (all_c (dv (loc_v rfl)) (all_c (dv (loc_v rfl)) (all_c (dv (loc_v rfl)) all_n))) (h16 i (List.mem_cons_self ..)))) (all_c (dv (tup_2 (cst_v _) (loc_v rfl))) all_n)) (h8 i (List.mem_cons_self ..)))) rfl ?_
    exact evSs_nil _ _
theorem e_turns (g : Nat → Addr) (hg : g 2 ≠ g 3) (k : Nat) (ks : List Int) (hr : Row ks) (pick far : Int) (hf : 0 ≤ far) (b : Bool) : CA g (k + 6) 22 [SO g ks, .lst (ks.map .int), .int pick, .int far, .bl b] = some (.val (.bl true)) := by
  have h1 := hr.lo
  have h2 := hr.hi
  rw [ca_22]
  have c16 : ∀ n : Nat, n < ks.length → CA g (k + 5) 16 [SO g ks, .int (n : Int), .bl b] = some (.val (.tup [.str "ok", .tup ((ks.drop n ++ ks.take n).map .int)])) := fun n hn => e_turn g (k + 1) ks hr n hn b
  have c16b : ∀ n : Int, ¬ (0 ≤ n ∧ n < ks.length) → CA g (k + 5) 16 [SO g ks, .int n, .bl b] = some (.val (.tup [.str "NoSuchBead", .int n])) := fun n hn => e_turn_bad g hg (k + 2) ks n hn b
  have c8 : ∀ n : Nat, n < ks.length → CA g (k + 5) 8 [.tup [.str "ok", .tup ((ks.drop n ++ ks.take n).map .int)], .tup [.str "ok", .tup ((ks.drop n ++ ks.take n).map .int)]] = some (.val (.bl true)) := fun n hn => sm_of g 2 (k + 1) _ (gd_t (by show 2 < 1000; decide) fun x hx => by
    simp only [List.mem_cons, List.not_mem_nil, or_false] at hx
    rcases hx with rfl | rfl
    · exact gd_s 1 _
    · exact gd_ti (by rw [List.length_append, List.length_drop, List.length_take]; omega))
  have c8b : ∀ n : Int, CA g (k + 5) 8 [.tup [.str "NoSuchBead", .int n], .tup [.str "NoSuchBead", .int n]] = some (.val (.bl true)) := fun n => sm_of g 1 (k + 2) _ (gd_t (by show 2 < 1000; decide) fun x hx => by
    simp only [List.mem_cons, List.not_mem_nil, or_false] at hx
    rcases hx with rfl | rfl
    · exact gd_s 0 _
    · exact gd_i 0 _)
  have c18 : ∀ n : Int, ¬ (0 ≤ n ∧ n < ks.length) → CA g (k + 5) 18 [SO g ks, .int n] = some (.val (.bl true)) := fun n hn => e_refused_turn g hg (k + 2) ks n hn
  have hm := mod_nn pick ks.length (by omega)
  have hm2 := mod_nn pick 2 (by decide)
  obtain ⟨sp, hsp⟩ : ∃ sp : Nat, (sp : Int) = pick % (ks.length : Int) := ⟨(pick % (ks.length : Int)).toNat, by omega⟩
  have spl : sp < ks.length := by omega
  have c28 := e_turned g (k + 2) ks hr sp spl
  have c20 := e_tells g k (ks.drop sp ++ ks.take sp) (row_turn hr sp (by omega))
  have me := me3 g (CA g (k + 5))
  have hlen := len_lI ks
  generalize CA g (k + 5) = cf at *
  obtain ⟨y6, y8, e1⟩ := tu_go (wc (Phi1 g) cf) (SO g ks) ks h2 (.sh (.int pick)) (.sh (.int far)) b (.sh (.int ks.length)) .no c16 c8 (List.range ks.length) (fun i hi => List.mem_range.mp hi) .no .no
  have er : ((List.range ks.length).map fun (i : Nat) => D.int (i : Int)) = rngD 0 ks.length := by rw [rng0, List.map_map]; rfl
  rw [er] at e1
  obtain ⟨z6, e2⟩ := tub_go (wc (Phi1 g) cf) (SO g ks) (.sh (.lst (ks.map .int))) (.sh (.int pick)) (.sh (.int far)) b (.sh (.int ks.length)) .no y8 [-1, (ks.length : Int), -(ks.length : Int), (ks.length : Int) + far, -1 - far] (fun n hn => c16b n (by
    simp only [List.mem_cons, List.not_mem_nil, or_false] at hn
    rcases hn with rfl | rfl | rfl | rfl | rfl <;> omega)) (fun n _ => c8b n) y6
  refine runF_eq (γ := [.sh (SO g ks), .sh (.lst (ks.map .int)), .sh (.int pick), .sh (.int far), .sh (.bl b), .no, .no, .no, .no]) (o := .rt (.bl true)) rfl rfl ?_ rfl
  unfold ir22
  exists 907
  refine s_for1 (body := tuA) (d := .int ks.length) (items := rngD 0 ks.length) (dv (loc_v rfl)) (it_rg0 (by omega)) e1 ?_
  have hl5 : ∀ γ : List S2, γ[3]? = some (.sh (.int far)) → γ[5]? = some (.sh (.int ks.length)) → ev (wc (Phi1 g) cf) γ false (.lst [(.neg (.cst (.int 1))), (.loc 5), (.neg (.loc 5)), (.bin .Add (.loc 5) (.loc 3)), (.bin .Sub (.neg (.cst (.int 1))) (.loc 3))]) = some (.new ([-1, (ks.length : Int), -(ks.length : Int), (ks.length : Int) + far, -1 - far].map .int)) := fun γ a c => by
    have l3 : ev (wc (Phi1 g) cf) γ false (.loc 3) = some (.val (.int far)) := loc_v a
    have l5 : ev (wc (Phi1 g) cf) γ false (.loc 5) = some (.val (.int ks.length)) := loc_v c
    exact lst_a (ds := [-1, (ks.length : Int), -(ks.length : Int), (ks.length : Int) + far, -1 - far].map .int) (all_c (dv (neg_i (cst_v (.int 1)))) <| all_c (dv l5) <| all_c (dv (neg_i l5)) <| all_c (dv (add_i l5 l3)) <| all_c (dv (sub_i (neg_i (cst_v (.int 1))) l3)) all_n) (Nat.le_of_ble_eq_true rfl)
  refine s_for1 (body := tuB) (items := [-1, (ks.length : Int), -(ks.length : Int), (ks.length : Int) + far, -1 - far].map .int) (dn (hl5 _ rfl rfl)) rfl e2 ?_
  refine s_asg (x := .val (.int (sp : Int))) (p_fz (by rw [hsp]; exact mod_i (int_i (loc_v rfl)) (loc_v rfl) (by omega))) rfl ?_
  have pk : ∃ n : Int, ¬ (0 ≤ n ∧ n < ks.length) ∧ atI ([.int (-1), .int (ks.length : Int)] : List D) (pick % 2) = some (.int n) := by
    have : pick % 2 = 0 ∨ pick % 2 = 1 := by omega
    rcases this with e | e <;> rw [e]
    · exact ⟨-1, by omega, rfl⟩
    · exact ⟨ks.length, by omega, rfl⟩
  obtain ⟨pn, pn1, pn2⟩ := pk
  refine s_iteF0 (q := !true) (q_not (q_fnT (all_c (dv (loc_v rfl)) (all_c (dv (d := .int pn) (q_sub (d1 := .lst [.int (-1), .int (ks.length : Int)]) (d2 := .int (pick % 2)) (dn (q_lst (all_c (dv (neg_i (cst_v (.int 1)))) (all_c (dv (loc_v rfl)) all_n)) (Nat.le_of_ble_eq_true rfl))) (dv (mod_i (int_i (loc_v rfl)) (cst_v _) (by decide))) ?_)) all_n)) (c18 pn pn1))) rfl ?_
  · show (atI _ _).map RR.val = _
    rw [pn2]; rfl
  exact s_ret (p_fz (q_fn (all_c (dv (q_mth (C := g 0) (fs := f5 ks) (dv (loc_v rfl)) me (by rfl) (all_c (dv (loc_v rfl)) all_n) all_n c28)) (all_c (dn (slc_turn (by omega) (by omega) rfl rfl)) all_n)) c20))
end L01
end

section
set_option Elab.async false
set_option linter.all false
set_option maxRecDepth 100000
set_option maxHeartbeats 4000000
set_option autoImplicit false
namespace L01
open PySem PySem.Spec L2 Pd Ev
local macro_rules | `(tactic| exists 905) => `(tactic| first | decide | omega | (with_reducible assumption))
local macro_rules | `(tactic| exists 904) => `(tactic| first
  | (with_reducible assumption)
  | ((with_reducible apply q_call); with_reducible assumption)
  | ((with_reducible apply binD_mod); (exists 905))
  | ((with_reducible apply binD_mul); (exists 905); (exists 905))
  | ((with_reducible apply binD_div); (exists 905); (exists 905))
  | ((with_reducible apply subD_l); (exists 905); (exists 905))
  | ((with_reducible apply subD_t); (exists 905); (exists 905))
  | exact rfl
  | decide)
local macro_rules | `(tactic| exists 902) => `(tactic| ((with_reducible apply q_d); (exists 901); (exact rfl)))
local macro_rules | `(tactic| exists 903) => `(tactic| first
  | (with_reducible exact all_n)
  | ((with_reducible apply all_c); (exists 902); (exists 903)))
local macro_rules | `(tactic| exists 901) => `(tactic| first
  | ((with_reducible apply loc_v); exact rfl)
  | (with_reducible exact cst_v _)
  | ((with_reducible apply q_bin); (exists 902); (exists 902); (exists 904))
  | ((with_reducible apply q_sub); (exists 902); (exists 902); (exists 904))
  | ((with_reducible apply q_bi); (exists 903); (exists 904))
  | ((with_reducible apply q_fn); (exists 903); (exists 904))
  | ((with_reducible apply cmp_d); (exists 902); (exists 902); (exists 904))
  | ((with_reducible apply q_not); (exists 901))
  | ((with_reducible apply q_neg); (exists 902); (exact rfl))
  | ((with_reducible apply q_att); (exists 902); (exists 904); (exists 904))
  | ((with_reducible apply q_con); (exact rfl))
  | ((with_reducible apply q_glo); (exact rfl))
  | ((with_reducible apply q_tup); (exists 903); (exact Nat.le_of_ble_eq_true rfl))
  | ((with_reducible apply q_lst); (exists 903); (exact Nat.le_of_ble_eq_true rfl))
  | ((with_reducible apply q_isc); (exists 902); (exists 904))
  | ((with_reducible apply q_inb); (exists 902); (exact rfl); (exists 904))
  | ((with_reducible apply q_chn); (exists 902); (exists 902); (exists 904); (exists 902); (exists 904))
  | ((with_reducible apply q_and); (exists 901); (intro; exists 901))
  | ((with_reducible apply q_or); (exists 901); (intro; exists 901))
  | ((with_reducible apply q_ins); (exists 902); (exists 904))
  | ((with_reducible apply q_mk); (exists 903); (exists 903); (exists 904))
  | ((with_reducible apply q_fnk); (exists 903); (exists 903); (exists 904))
  | ((with_reducible apply q_mth); (exists 902); (exists 904); (exists 904); (exists 903); (exists 903); (exists 904))
  | ((with_reducible apply q_cm); (exists 904); (exists 903); (exists 903); (exists 904))
  | ((with_reducible apply q_lmk); (exact rfl); (exists 904); (exists 903); (exists 904))
  | ((with_reducible apply q_itr); (exists 902); (exists 904); (exists 904))
  | ((with_reducible apply q_rev); (exists 902))
  | ((with_reducible apply q_bm); (exists 902); (exact rfl); (exists 903); (exists 904))
  | ((with_reducible apply q_slc); (exists 902); (exists 908); (exists 908); (exists 904))
  | ((with_reducible apply exa_v); (exact rfl); (exists 904); (exists 904))
  | ((with_reducible apply exi_v); (exact rfl); (exists 904))
  | ((with_reducible apply exb_v); (exact rfl); (exists 904))
  | ((with_reducible apply q_fnT); (exists 903); (exists 904))
  | ((with_reducible apply q_locT); exact rfl)
  | ((with_reducible apply q_locX); (exact rfl); (exact rfl))
  | (with_reducible assumption))
local macro_rules | `(tactic| exists 908) => `(tactic| first
  | (with_reducible exact evO_nil _ _)
  | ((with_reducible apply q_o1); (exists 902)))
local macro_rules | `(tactic| exists 906) => `(tactic| first
  | ((with_reducible apply p_pl); (exists 901))
  | ((with_reducible apply p_fz); (exists 901))
  | ((with_reducible apply p_vw); (exists 901); (exact rfl))
  | ((with_reducible apply p_vo); (exists 901); (exact rfl)))
local macro_rules | `(tactic| exists 907) => `(tactic| first
  | (with_reducible exact s_nil)
  | ((with_reducible apply s_nil'); exact rfl)
  | ((with_reducible apply s_asg); (exists 906); (exact rfl))
  | ((with_reducible apply s_app); (exists 906); (exact rfl); (exact rfl); (exists 905))
  | ((with_reducible apply s_exp); (exists 906))
  | ((with_reducible apply s_ret); (exists 906))
  | ((with_reducible apply s_retn); (exists 906))
  | ((with_reducible apply s_reto); (exact rfl)))
theorem nas_ints : ∀ ks : List Int, nas (ks.map D.int) = true
  | [] => rfl
  | k :: r => by
    rw [List.map_cons]
    show (na (D.int k) && nas (r.map D.int)) = true
    rw [nas_ints r]; rfl
theorem na_SO (g : Nat → Addr) (ks : List Int) : RR.na (.val (SO g ks)) = true := by
  show ((nas (ks.map D.int)) && _) = true
  rw [nas_ints]; rfl
theorem lrv_I (ks : List Int) : biD .lrv [.lst (ks.map .int)] = some (.new (ks.reverse.map .int)) := by
  show some (RR.new (ks.map D.int).reverse) = _
  rw [List.map_reverse]
theorem row_rev {ks : List Int} (hr : Row ks) : Row ks.reverse := ⟨by rw [List.length_reverse]; exact hr.lo, by rw [List.length_reverse]; exact hr.hi, fun x hx => hr.inn x (List.mem_reverse.mp hx)⟩
theorem fnd_lc {Φ : Phi} {γ : List S2} {cs : List Nat} (hc : cs.length ≤ 300) (ha : ∀ c ∈ cs, c ∈ ALW) (h9 : γ[9]? = some (.sh (.str ⟨cs.toArray⟩))) (hs : ∀ d, ((blk γ [13]).set 13 (.sh d))[13]? = some (.sh d) ∧ ((blk γ [13]).set 13 (.sh d))[10]? = some (.sh (.str LET))) : ev Φ γ false (.lc (.bm .find (.loc 10) [(.loc 13)]) [13] .vl [(.loc 9)] []) = some (.new ((cs.map letK).map .int)) := by
  have z := lc_map (Φ := Φ) (γ := γ) (elt := .bm .find (.loc 10) [(.loc 13)]) (tg := [13]) (k := .vl) (its := [.loc 9]) (items := cs.map chD) (f := letD) (by
      rw [evD1_v (d := .str ⟨cs.toArray⟩) (loc_v h9), Option.bind_some]
      rfl) (by rw [List.length_map]; omega) fun d hd => by
        obtain ⟨c, hcm, rfl⟩ := List.mem_map.mp hd
        refine ⟨_, rfl, ?_⟩
        show ev _ _ false _ = some (.val (.int (letK c)))
        refine q_bm (d := .str LET) (dv (loc_v (hs _).2)) rfl (all_c (dv (loc_v (hs _).1)) all_n) ?_
        show iv (Txt.find LET ⟨#[c]⟩) = _
        rw [find_k (ha c hcm)]; rfl
  rw [z, List.map_map, List.map_map]
  rfl
theorem main (g : Nat → Addr) (hg : g 2 ≠ g 3) (ns : List Int) : CA g 8 23 [.rol (ns.map .int)] = some (.val (.bl true)) := by
  rw [ca_23]
  obtain ⟨ks, r1, hr, c10, hr1⟩ := e_first g 3 ns
  have h1 := hr.lo
  have h2 := hr.hi
  obtain ⟨c3, hc3⟩ := e_cell g 6 ns 3 (by decide)
  obtain ⟨xs, xl, xin, hxs⟩ := e_draws g 5 c3 1000 4 (by decide) (by decide) (by decide)
  have ci := e_init g 5 ks hr (.lst (ks.map .int)) ⟨.inr rfl⟩
  have sm1 : CA g 7 8 [.lst (ks.map .int), .lst (ks.map .int)] = some (.val (.bl true)) := sm_of g 1 4 _ (gd_li (by omega))
  have ct := e_tells g 2 ks hr
  obtain ⟨rs, rl, hrs⟩ := e_spoilt g 4 ns 4 (by decide)
  have hmade : ∀ (X : D) (b : Bool), SqI X rs → CA g 7 14 [X, .bl b] = some (.val (madeD g rs)) := fun X b h => e_made g 4 rs X h b
  have hj := e_judged g 1 rs rl
  have sm2 : CA g 7 8 [.lst (rs.map .int), .lst (rs.map .int)] = some (.val (.bl true)) := sm_of g 1 4 _ (gd_li (by omega))
  have hdue := e_due g 6 rs rl
  have href : ∀ (X : D), SqI X rs → dueF rs ≠ none → CA g 7 17 [X] = some (.val (.bl true)) := fun X h z => e_refused g 5 rs X h z
  obtain ⟨cs, cl, ca, hline⟩ := e_line g 4 ns 7 (by decide)
  have hlet : ∀ b, CA g 7 15 [.str ⟨cs.toArray⟩, .bl b] = some (.val (madeD g (cs.map letK))) := fun b => e_lettered g 3 cs cl b
  have hj2 := e_judged g 1 (cs.map letK) (by rw [List.length_map]; exact cl)
  have sm3 : CA g 7 8 [.lst ([24, 999].map .int), .lst ([24, 999].map .int)] = some (.val (.bl true)) := sm_of g 1 4 _ (gd_li (by decide))
  have cmi := e_mirrored g 4 ks hr
  have ct2 := e_tells g 2 ks.reverse (row_rev hr)
  obtain ⟨c9, hc9⟩ := e_cell g 6 ns 9 (by decide)
  have htu : ∀ (pick : Int) (b : Bool), CA g 7 22 [SO g ks, .lst (ks.map .int), .int pick, .int (c9 % 10 ^ 40), .bl b] = some (.val (.bl true)) := fun pick b => e_turns g hg 1 ks hr pick (c9 % 10 ^ 40) (Int.emod_nonneg _ (by decide)) b
  have m2 := me2 g (CA g 7)
  have m1 := me1 g (CA g 7)
  generalize CA g 7 = cf at *
  have hlen := len_lI ks
  refine runF_eq (γ := [.sh (.rol (ns.map .int)), .no, .no, .no, .no, .no, .no, .no, .no, .no, .no, .no, .no, .no]) (o := .rt (.bl true)) rfl rfl ?_ rfl
  unfold ir23
  obtain ⟨b, hb⟩ : ∃ b : Bool, decide (xs.getD 0 0 % 8 = 0) = b := ⟨_, rfl⟩
  have st4 : ∀ (r : List IS) (o : Option Out), evSs (wc (Phi1 g) cf) r [.sh (.rol (ns.map .int)), .sh (.lst (ks.map .int)), .sh (.lst (xs.map .int)), .sh (.bl b), .ow (ks.map .int), .no, .no, .no, .no, .no, .no, .no, .no, .no] = o → evSs (wc (Phi1 g) cf) (.asg .pl 1 (.fn 10 [(.loc 0)]) :: .asg .pl 2 (.fn 5 [(.fn 3 [(.loc 0), (.cst (.int 3))]), (.cst (.int 4)), (.cst (.int 1000))]) :: .asg (.fz [2]) 3 (.cmp .Eq (.bin .Mod (.bi .int [(.sub (.loc 2) (.cst (.int 0)))]) (.cst (.int 8))) (.cst (.int 0))) :: .asg (.fz [1]) 4 (.bi .list [(.loc 1)]) :: r) [.sh (.rol (ns.map .int)), .no, .no, .no, .no, .no, .no, .no, .no, .no, .no, .no, .no, .no] = o := by
    rcases hr1 with rfl | rfl
    · intro r o h
      refine s_asg (p_pl (q_fn (all_c (dv (loc_v rfl)) all_n) c10)) rfl ?_
      refine s_asg (p_pl (q_fn (all_c (dv (q_fn (all_c (dv (loc_v rfl)) (all_c (dv (cst_v _)) all_n)) hc3)) (all_c (dv (cst_v _)) (all_c (dv (cst_v _)) all_n))) hxs)) rfl ?_
      refine s_asg (x := .val (.bl b)) (p_fz (eq_i (at_cm (xs := xs) (i := 0) rfl (by omega) (by decide)) (cst_v _) hb)) rfl ?_
      exact s_asg (x := .new (ks.map .int)) (p_fz (q_bi (all_c (dv (loc_v rfl)) all_n) rfl)) rfl h
    · intro r o h
      refine s_asg (p_pl (q_fn (all_c (dv (loc_v rfl)) all_n) c10)) rfl ?_
      refine s_asg (p_pl (q_fn (all_c (dv (q_fn (all_c (dv (loc_v rfl)) (all_c (dv (cst_v _)) all_n)) hc3)) (all_c (dv (cst_v _)) (all_c (dv (cst_v _)) all_n))) hxs)) rfl ?_
      refine s_asg (x := .val (.bl b)) (p_fz (eq_i (at_cm (xs := xs) (i := 0) rfl (by omega) (by decide)) (cst_v _) hb)) rfl ?_
      exact s_asg (x := .new (ks.map .int)) (p_fz (q_bi (all_c (dv (loc_v rfl)) all_n) rfl)) rfl h
  refine st4 _ _ ?_
  show evSs (wc (Phi1 g) cf) _ [.sh (.rol (ns.map .int)), .sh (.lst (ks.map .int)), .sh (.lst (xs.map .int)), .sh (.bl b), .ow (ks.map .int), .no, .no, .no, .no, .no, .no, .no, .no, .no] = _
  refine s_asg (x := .val (SO g ks)) (p_vw (q_mk (all_c (dv (loc_v rfl)) all_n) all_n ci) (na_SO g ks)) rfl ?_
  refine s_iteF0 (q := !true || !true) (q_or (q_not (q_fnT (all_c (dv (loc_v rfl)) (all_c (dv (loc_v rfl)) all_n)) sm1)) fun _ => q_not (q_fnT (all_c (dv (loc_v rfl)) (all_c (dv (loc_v rfl)) all_n)) ct)) rfl ?_
  have hm := mod_nn (xs.getD 1 0) ks.length (by omega)
  refine s_asg (x := .val (.int (xs.getD 1 0 % (ks.length : Int)))) (p_fz (mod_i (int_i (at_c (xs := xs) (i := 1) rfl (by omega))) (bi1_v (loc_v rfl) hlen) (by omega))) rfl ?_
  generalize hsp : xs.getD 1 0 % (ks.length : Int) = sp at hm
  have s4 : subD (.lst (ks.map .int)) (.int sp) = some (.val (.int (ks.getD sp.toNat 0))) := subD_l hm.1 (by omega)
  have ix : ixN (ks.map D.int).length sp = some sp.toNat := by
    unfold ixN
    rw [List.length_map, if_pos hm.1, if_pos (by omega)]
  refine s_seti (jj := sp) (n := sp.toNat) (ds := ks.map .int) (x := .val (.int ((ks.getD sp.toNat 0 + 1) % 1000))) (p_vw (mod_i (int_i (add_i (q_sub (dv (loc_v rfl)) (dv (loc_v rfl)) s4) (cst_v (.int 1)))) (cst_v (.int 1000)) (by decide)) rfl) rfl (loc_v rfl) rfl ix ?_
  refine s_app (ds := (ks.map D.int).set sp.toNat (.int ((ks.getD sp.toNat 0 + 1) % 1000))) (d := .int 5) (p_pl (cst_v _)) rfl rfl (by rw [List.length_set, List.length_map]; omega) ?_
  refine s_asg (x := .val (.lst (rs.map .int))) (p_pl (q_fn (all_c (dv (loc_v rfl)) (all_c (dv (cst_v _)) all_n)) hrs)) rfl ?_
  show evSs (wc (Phi1 g) cf) _ [.sh (.rol (ns.map .int)), .sh (.lst (ks.map .int)), .sh (.lst (xs.map .int)), .sh (.bl b), .ow ((ks.map D.int).set sp.toNat (.int ((ks.getD sp.toNat 0 + 1) % 1000)) ++ [.int 5]), .sh (SO g ks), .sh (.int sp), .sh (.lst (rs.map .int)), .no, .no, .no, .no, .no, .no] = _
  have hpass : ∃ X : D, SqI X rs ∧ atI ([.lst (rs.map .int), .tup (rs.map .int)] : List D) (xs.getD 2 0 % 2) = some X := by
    have : xs.getD 2 0 % 2 = 0 ∨ xs.getD 2 0 % 2 = 1 := by omega
    rcases this with e | e <;> rw [e]
    · exact ⟨_, ⟨.inr rfl⟩, rfl⟩
    · exact ⟨_, ⟨.inl rfl⟩, rfl⟩
  obtain ⟨X, hX, hXa⟩ := hpass
  have sX : subD (.lst [.lst (rs.map .int), .tup (rs.map .int)]) (.int (xs.getD 2 0 % 2)) = some (.val X) := by
    show (atI _ _).map RR.val = _
    rw [hXa]; rfl
  refine s_asg (x := .val X) (p_fz (q_sub (dn (lst_a (ds := [.lst (rs.map .int), .tup (rs.map .int)]) (all_c (dn (q_bi (all_c (dv (loc_v rfl)) all_n) rfl)) (all_c (dv (q_bi (all_c (dv (loc_v rfl)) all_n) rfl)) all_n)) (Nat.le_of_ble_eq_true rfl))) (dv (at_cm (xs := xs) (i := 2) rfl (by omega) (by decide))) sX)) rfl ?_
  refine s_iteF0 (q := !true || !true) (q_or (q_not (q_fnT (all_c (dv (q_fn (all_c (dv (loc_v rfl)) (all_c (dv (loc_v rfl)) all_n)) (hmade X b hX))) (all_c (dv (loc_v rfl)) all_n)) hj)) fun _ => q_not (q_fnT (all_c (dn (q_bi (all_c (dv (loc_v rfl)) all_n) hX.lst)) (all_c (dv (loc_v rfl)) all_n)) sm2)) rfl ?_
  have st13 : ∃ q : Bool, iscD .non (dueD rs) = some q ∧ (q = false → dueF rs ≠ none) := by
    unfold dueD
    cases z : dueF rs with
    | none => exact ⟨true, rfl, fun h => by cases h⟩
    | some d => exact ⟨false, rfl, fun _ h => by cases h⟩
  obtain ⟨q, hq1, hq2⟩ := st13
  refine s_iteF0 (q := (if true then !q else q) && false) (q_and (q_isc (dv (q_fn (all_c (dv (loc_v rfl)) all_n) hdue)) hq1) fun hz => (q_not (q := true) (q_fnT (all_c (dv (loc_v rfl)) all_n) (href X hX (hq2 (by simpa using hz)))))) (Bool.and_false _) ?_
  refine s_asg (p_pl (q_fn (all_c (dv (loc_v rfl)) (all_c (dv (cst_v _)) all_n)) hline)) rfl ?_
  refine s_asg (x := .val (.str LET)) (p_pl (cst_v (.str LET))) rfl ?_
  refine s_asg (x := .new ((cs.map letK).map .int)) (p_fz (fnd_lc cl ca rfl fun d => ⟨rfl, rfl⟩)) rfl ?_
  refine s_iteF0 (q := !true) (q_not (q_fnT (all_c (dv (q_fn (all_c (dv (loc_v rfl)) (all_c (dv (loc_v rfl)) all_n)) (hlet b))) (all_c (dv (loc_v rfl)) all_n)) hj2)) rfl ?_
  refine s_iteF0 (q := !true) (q_not (q_fnT (all_c (dn (lst_a (ds := [24, 999].map .int) (all_c (dv (q_con rfl)) (all_c (dv (q_con rfl)) all_n)) (Nat.le_of_ble_eq_true rfl))) (all_c (dn (lst_a (ds := [24, 999].map .int) (all_c (dv (cst_v _)) (all_c (dv (cst_v _)) all_n)) (Nat.le_of_ble_eq_true rfl))) all_n)) sm3)) rfl ?_
  refine s_iteF0 (q := !true) (q_not (q_fnT (all_c (dv (q_mth (C := g 0) (fs := f5 ks) (dv (loc_v rfl)) m2 (by rfl) all_n all_n cmi)) (all_c (dn (q_bi (all_c (dv (loc_v rfl)) all_n) (lrv_I ks))) all_n)) ct2)) rfl ?_
  refine s_asg (x := .val (.int (c9 % 10 ^ 40))) (p_pl (mod_i (int_i (q_fn (all_c (dv (loc_v rfl)) (all_c (dv (cst_v _)) all_n)) hc9)) p40 (by decide))) rfl ?_
  show _ = some (Out.rt (.bl (true && true)))
  exact s_ret (p_fz (q_and (q_fnT (all_c (dv (loc_v rfl)) (all_c (dv (loc_v rfl)) (all_c (dv (at_c (xs := xs) (i := 3) rfl (by omega))) (all_c (dv (loc_v rfl)) (all_c (dv (loc_v rfl)) all_n))))) (htu _ b)) fun _ => q_fn (all_c (dv (loc_v rfl)) (all_c (dv (loc_v rfl)) all_n)) ct))
end L01
end

section
set_option Elab.async false
set_option linter.all false
set_option maxRecDepth 100000
set_option maxHeartbeats 0
namespace L01
open PySem PySem.Spec PyProof.Rows L2 Pd Ev
theorem to0 {P : Program} {w : World} {K : PySem.W.Frag} {mg : Str → Option Value} {base : Heap} {k : Nat} {f : Addr} {fd : FuncData} {ps : List Str} {sp : Sp} (F : FnOk P w K mg base (L2.CX P w) k f fd ps sp) : FnOk P w K mg base L2.CX0 k f fd ps (fun vs H Q _ => sp vs H Q (fun _ _ _ => False)) :=
  ⟨fun vs H Q E h => F.len _ _ _ _ h, fun A outer s H args us vs Q E hr e0 b r h => codeAny_mono (F.run A outer s H args us vs Q (fun _ _ _ => False) hr e0 b r h) fun res s' hq => by
    cases res with
    | error e =>
      obtain ⟨_, _, _, _, _, _, _, _, _, _, _, _, z⟩ := hq
      exact z.elim
    | ok fl => cases fl <;> exact hq⟩
end L01
open PySem PySem.W PySem.Calls PyProof.Rows
theorem PySem.Challenge.cw_beadmoot_k01_strands_holds : PySem.Challenge.rw_beadmoot_k01_strands.Holds := by
  w_on; o_law
  refine HandSHeadRun.head_any (r := OpenLaw.row PySem.Challenge.rw_beadmoot_k01_strands) (q := view (OpenLaw.row PySem.Challenge.rw_beadmoot_k01_strands).prog [32]) (H := L01.hk) (ob := L01.ob) (M := 8000) (loose := L01.names) (d := HandSHeadRun.topDef (OpenLaw.row PySem.Challenge.rw_beadmoot_k01_strands).prog 32) (kwd := []) L01.ob_eq
    (by kernel_rfl) (fun s => by kernel_rfl) L01.run (by kernel_rfl) (by kernel_rfl) (by kernel_rfl) (by rfl) (by first | assumption | decide +kernel) (by decide +kernel) ⟨rfl, rfl, rfl, rfl, rfl, by decide +kernel⟩ ?hw ?hc
  case hw => w_witness2
  case hc =>
    refine L2.walk_ofE (l := PySem.Challenge.rw_beadmoot_k01_strands) (n := 63) (k := 19) (x := "_law_script") (CX := L2.CX0) rfl (by decide) (by kernel_rfl) ⟨rfl, by decide, by decide⟩ ?F (fun _ _ _ _ z => z)
    intro w mg fa h Y G hmg0
    obtain ⟨K, KX, c, e⟩ := Y
    have hmg : mg ("law" : PySem.Str) = some (.ref fa) := by
      have e : (HandSHeadRun.topDef (OpenLaw.row PySem.Challenge.rw_beadmoot_k01_strands).prog 32).name = ("law" : PySem.Str) := by kernel_rfl
      rw [← e]
      exact hmg0
    obtain ⟨hne, fd, hb, hF⟩ := L01.facts (P := (PySem.Challenge.rw_beadmoot_k01_strands).prog) (w := w) KX G hmg c e.1 e.2
    exact ⟨K, fd, _, KX, hb, fun H a ns hl _ hS => ⟨H, [.rol (ns.map .int)], .val (.bl true), L2.Same.refl _, .cons (.rol hS (Pd.Reps.of_ints ns)) .nil, L01.main _ hne ns, fun v Hs' H' g r => by cases r; rfl⟩, fun base _ _ => L01.to0 (hF base)⟩
end
